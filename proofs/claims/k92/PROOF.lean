import PyProof.Rows.All
import Wide.All
import OpenK.AllK
import Wide.FinOn
import Lean
import PyProof.EqAt
import PyProof.EqKinds
import PyProof.TupleCall
import PySem.Challenge.RW_netcourt_k92_books_refuse
set_option Elab.async false
set_option linter.all false
set_option maxRecDepth 100000
theorem Qk{p:Prop}(h:p:=by decide +kernel):p:=h
theorem Qd{p:Prop}(h:p:=by decide):p:=h
theorem Qo{p:Prop}(h:p:=by omega):p:=h
theorem Qr{p:Prop}(h:p:=by rfl):p:=h
theorem Qs{p:Prop}(h:p:=by simp):p:=h
theorem Qw{p:Prop}(h:p:=by with_unfolding_all rfl):p:=h
open PySem
namespace L2
open PySem PySem.Spec PyProof.Rows
abbrev aT:=Sum Int Str
def fz:aT->Value->Bool
 |.inl k,v=>Value.isInt k v
 |.inr x,v=>Value.isStrOf x v
def CS(w:World):aT->Int
 |.inl k=>hashInt k
 |.inr x=>hashStr w x
theorem bB:∀{k:aT}{v:Value},fz k v=true->(∃i t,k=Sum.inl i/\v=Value.int i t)\/(∃x t,k=Sum.inr x/\v=Value.str x t)
 |.inl i,v,h=>by
  obtain⟨t,e⟩:=Value.isInt_shape (k:=i) (v:=v) h;exact .inl ⟨i,t,rfl,e⟩
 |.inr x,v,h=>by
  obtain⟨t,e⟩:=Value.isStrOf_shape (x:=x) (v:=v) h;exact .inr ⟨x,t,rfl,e⟩
theorem qu(i:Int)(t:Tok):fz (.inl i) (.int i t)=true:=by simp[fz,Value.isInt]
theorem qt(x:Str)(t:Tok):fz (.inr x) (.str x t)=true:=by simp[fz,Value.isStrOf]
theorem Am(a b:Int):decide ((Sum.inl a:aT)=Sum.inl b)=(a==b):=by
 by_cases e:a=b
 ·subst e;simp
 ·have h:¬(Sum.inl a:aT)=Sum.inl b:=λq=>e (Sum.inl.inj q);rw[decide_eq_false h];exact(beq_eq_false_iff_ne.mpr e).symm
theorem Aj(a b:Str):decide ((Sum.inr a:aT)=Sum.inr b)=decide (a=b):=by
 by_cases e:a=b
 ·subst e;simp
 ·have h:¬(Sum.inr a:aT)=Sum.inr b:=λq=>e (Sum.inr.inj q);rw[decide_eq_false h,decide_eq_false e]
theorem Al(a:Int)(b:Str):decide ((Sum.inl a:aT)=Sum.inr b)=false:=decide_eq_false (λq=>nomatch q)
theorem Ak(a:Str)(b:Int):decide ((Sum.inr a:aT)=Sum.inl b)=false:=decide_eq_false (λq=>nomatch q)
def aX(prog:Program)(w:World):PySem.KeyKind prog w aT where
 is:=fz
 hash:=CS w
 inj:=λv a b g f=>by
  rcases bB g with⟨i,t,rfl,rfl⟩|⟨x,t,rfl,rfl⟩
  ·rcases bB f with⟨j,u,rfl,e⟩|⟨y,u,rfl,e⟩
   ·injection e with c _;rw[c]
   ·exact nomatch e
  ·rcases bB f with⟨j,u,rfl,e⟩|⟨y,u,rfl,e⟩
   ·exact nomatch e
   ·injection e with c _;rw[c]
 byValue:=λk v h=>by
  rcases bB h with⟨i,t,rfl,rfl⟩|⟨x,t,rfl,rfl⟩<;>rfl
 pyHash:=λd h=>by
  rcases bB d with⟨i,t,rfl,rfl⟩|⟨x,t,rfl,rfl⟩
  ·exact wpAny_pyHash_int h
  ·exact wpAny_pyHash_str h
 eqBool:=λl d h=>by
  rcases bB l with⟨i,t,rfl,rfl⟩|⟨x,t,rfl,rfl⟩
  ·rcases bB d with⟨j,u,rfl,rfl⟩|⟨y,u,rfl,rfl⟩
   ·rw[Am]at h;exact wpAny_eqBool_int h
   ·rw[Al]at h;exact SeqAt.EqAt.int_str i t y u _ _ _ _ h
  ·rcases bB d with⟨j,u,rfl,rfl⟩|⟨y,u,rfl,rfl⟩
   ·rw[Ak]at h;exact SeqAt.EqAt.str_int x t j u _ _ _ _ h
   ·rw[Aj]at h;exact wpAny_eqBool_str h
 «strs»:=λk x t v h=>by
  rcases bB h with⟨i,u,rfl,e⟩|⟨y,u,rfl,e⟩
  ·exact nomatch e
  ·injection e with c _
   subst c;cases v<;>rfl
theorem mi(prog:Program)(w:World)(i:Int)(t:Tok):(aX prog w).is (.inl i) (.int i t)=true:=qu i t
theorem mh(prog:Program)(w:World)(x:Str)(t:Tok):(aX prog w).is (.inr x) (.str x t)=true:=qt x t
inductive V where
 |non|bl(b:Bool)|int(i:Int)|str(x:Str)|byt(b:Array UInt8)|flt(b:UInt64)|ref(a:Addr)|ty(n:String)
 deriving DecidableEq
def aN:V->Value->Prop
 |.non,u=>u=Value.none
 |.bl b,u=>u=Value.bool b
 |.int i,u=>∃t,u=Value.int i t
 |.str x,u=>∃t,u=Value.str x t
 |.byt b,u=>∃t,u=Value.bytes b t
 |.flt b,u=>∃t,u=Value.float b t
 |.ref a,u=>u=Value.ref a
 |.ty n,u=>u=Value.type n
abbrev bc:List V->List Value->Prop:=Paired aN
theorem bc.length{xs:List V}{us:List Value}(r:bc xs us):xs.length=us.length:=Paired.length r
theorem bc.get:∀{xs:List V}{us:List Value}{i:Nat}{x:V},bc xs us->xs[i]?=some x->∃u,us[i]?=some u/\aN x u
 |_,_,_,_,.nil,e=>by simp at e
 |_,_,0,_,.cons r _,e=>by simp at e;subst e;exact⟨_,rfl,r⟩
 |_,_,i+1,x,.cons _ t,e=>by
  obtain⟨u,h1,h2⟩:=bc.get (i:=i) (x:=x) t (by simpa using e);exact⟨u,by simpa using h1,h2⟩
theorem bc.append:∀{xs ys:List V}{us ws:List Value},bc xs us->bc ys ws->bc (xs++ys) (us++ws)
 |_,_,_,_,.nil,s=>s
 |_,_,_,_,.cons r t,s=>.cons r (bc.append t s)
theorem bc.take:∀{xs:List V}{us:List Value}(n:Nat),bc xs us->bc (xs.take n) (us.take n)
 |_,_,0,_=>.nil
 |_,_,_+1,.nil=>.nil
 |_,_,n+1,.cons r t=>.cons r (bc.take n t)
theorem bc.drop:∀{xs:List V}{us:List Value}(n:Nat),bc xs us->bc (xs.drop n) (us.drop n)
 |_,_,0,r=>r
 |_,_,_+1,.nil=>.nil
 |_,_,n+1,.cons _ t=>bc.drop n t
def RelO:Option V->Option Value->Prop
 |some v,some u=>aN v u
 |none,none=>True
 |_,_=>False
def KV{κ:Type}:List (κ×V)->List (κ×Value)->Prop:=Paired λ(p:κ×V)(q:κ×Value)=>p.1=q.1/\aN p.2 q.2
def kV:aT->V
 |.inl i=>.int i
 |.inr x=>.str x
inductive HO where
 |lst(xs:List V)
 |tup(xs:List V)
 |dK(kvs:List (aT×V))|dT(kvs:List (List aT×V))
 |set(S:Int->Bool)(n:Nat)
 |ins(C dx:Addr)(fs:List (Str×V))
 |own(x:Addr)
 |xd(fs:List (Str×V))
 |met(f x:Addr)
 |rng(lo hi:Int)
 |frz(o:Obj)(u:HO)
 |tbl(ps:Array Value)
 |ext(φ:Heap->Prop)
abbrev Hp:=Addr->Option HO
def upd(H:Hp)(a:Addr)(o:HO):Hp:=λb=>if b=a then some o else H b
theorem ac{H:Hp}{a:Addr}{o:HO}:upd H a o a=some o:=by unfold upd;rw[if_pos rfl]
theorem ah{H:Hp}{a b:Addr}{o:HO}(h:b≠a):upd H a o b=H b:=by unfold upd;rw[if_neg h]
theorem bM{H:Hp}{a b:Addr}{o u:HO}(h:H a=some o)(h':H b=some u)(d:o≠u):a≠b:=by
 intro e;subst e;rw[h]at h';exact d (Option.some.inj h')
theorem ai{H:Hp}{a b:Addr}{o:HO}(h:H a=some o)(h':H b=none):a≠b:=by
 intro e;subst e;rw[h]at h';cases h'
section
variable(P:Program)(w:World)
def ObjOk(H:Hp)(h:Heap)(a:Addr):HO->Prop
 |.lst xs=>xs.length<=sizeLine/\∃(b:List Value)(n:Nat),bc xs b/\h.get? a=some {cls:=.type "list",data:=.seq b.toArray n}
 |.tup xs=>xs.length<=sizeLine/\∃b:List Value,bc xs b/\IsTup h a b.toArray
 |.dK kvs=>kvs.length<=sizeLine/\(a==sysModules)=false/\∃vs,KV kvs vs/\h.DictOf (aX P w) a vs
 | .dT kvs=>kvs.length<=sizeLine/\(a==sysModules)=false/\∃xs:List (List aT×Addr×Value),
   Paired (λ(p:List aT×V)(q:List aT×Addr×Value)=>p.1=q.1/\H q.2.1=some (.tup (p.1.map kV))/\aN p.2 q.2.2) kvs xs/\
   ∃o es ep,h.get? a=some o/\o.ExactDict/\o.data=.dict es ep/\es.toList=xs.map (entryOfKey (tupleKind (aX P w)))/\(xs.map (·.1)).Nodup
 |.set S n=>h.SetOf (intKind P w) a S n
 | .ins C dx fs=>H dx=some (.own a)/\fs.length<=1000/\dx≠a/\h.get? a=some (PySem.W.instObj C dx)/\
   ∃mA,h.Ns1 dx mA/\(∀f,RelO (fs.lookup f) (mA f))/\PySem.Within mA (fs.map (·.1))
 |.own _=>∃o,h.get? a=some o
 |.xd fs=>∃mA,h.Ns1 a mA/\∀f,RelO (fs.lookup f) (mA f)
 |.rng lo hi=>∃t u v,h.get? a=some {cls:=.type "range",data:=.fields #[.int lo t,.int hi u,.int 1 v]}
 |.frz o u=>h.get? a=some o/\ObjOk H h a u
 |.tbl ps=>h.get? a=some {cls:=.none,data:=.fields ps}
 |.met f x=>h.get? a=some (PySem.W.methodObj (.ref f) (.ref x))
 |.ext φ=>φ h/\(∃o,h.get? a=some o)/\∀h1 h2:Heap,φ h1->(∀o,h1.get? a=some o->h2.get? a=some o)->φ h2
def fb(H:Hp)(h:Heap):Prop:=∀a o,H a=some o->ObjOk P w H h a o
end
section
variable{P:Program}{w:World}{H H':Hp}{h h':Heap}{a:Addr}{o:HO}
theorem ObjOk.lt(x:ObjOk P w H h a o):a<h.objs.size:=by
 cases o with
 |lst xs=>obtain⟨_,_,_,_,e⟩:=x;exact Heap.lt_size e
 |tup xs=>obtain⟨_,_,_,p⟩:=x;exact p.lt
 |dK kvs=>obtain⟨_,_,_,_,o,_,_,e,_⟩:=x;exact Heap.lt_size e
 |dT kvs=>obtain⟨_,_,_,_,o,_,_,e,_⟩:=x;exact Heap.lt_size e
 |set S n=>obtain⟨o,_,_,_,e,_⟩:=x;exact Heap.lt_size e
 |ins C dx fs=>obtain⟨_,_,_,e,_⟩:=x;exact Heap.lt_size e
 |own y=>obtain⟨_,e⟩:=x;exact Heap.lt_size e
 |xd fs=>obtain⟨_,⟨_,_,_,e,_⟩,_⟩:=x;exact Heap.lt_size e
 |rng lo hi=>obtain⟨_,_,_,e⟩:=x;exact Heap.lt_size e
 |frz ob u=>obtain⟨e,_⟩:=x;exact Heap.lt_size e
 |tbl ps=>exact Heap.lt_size (show h.get? a=some _ from x)
 |met f y=>exact Heap.lt_size (show h.get? a=some _ from x)
 |ext φ=>obtain⟨_,⟨_,e⟩,_⟩:=x;exact Heap.lt_size e
theorem Paired.mapP{e g:Type}{F G:e->g->Prop}:∀{c:List e}{d:List g},Paired F c d->(∀a b,F a b->G a b)->Paired G c d
 |_,_,.nil,_=>.nil
 |_,_,.cons r t,f=>.cons (f _ _ r) (Paired.mapP t f)
theorem ObjOk.stay(x:ObjOk P w H h a o)(k:∀b u,(b=a\/H b=some (.own a))->h.get? b=some u->h'.get? b=some u)
  (j:∀b,H b=some (.own a)->H' b=some (.own a))(l:∀b xs,H b=some (.tup xs)->H' b=some (.tup xs)):ObjOk P w H' h' a o:=by
 induction o with
 |lst xs=>obtain⟨z,g,n,r,e⟩:=x;exact⟨z,g,n,r,k _ _ (.inl rfl) e⟩
 |tup xs=>obtain⟨z,g,r,ob,e,c⟩:=x;exact⟨z,g,r,ob,k _ _ (.inl rfl) e,c⟩
 |dK kvs=>obtain⟨z,y,vs,r,ob,es,ep,e,c⟩:=x;exact⟨z,y,vs,r,ob,es,ep,k _ _ (.inl rfl) e,c⟩
 |dT kvs=>
  obtain⟨z,y,xs,r,ob,es,ep,e,c⟩:=x;exact⟨z,y,xs,Paired.mapP r λp q z=>⟨z.1,l _ _ z.2.1,z.2.2⟩,ob,es,ep,k _ _ (.inl rfl) e,c⟩
 |set S n=>obtain⟨ob,es,ep,t,e,c⟩:=x;exact⟨ob,es,ep,t,k _ _ (.inl rfl) e,c⟩
 |ins C dx fs=>
  obtain⟨d,z,ne,e,mA,⟨od,es,ep,i,c⟩,r⟩:=x;exact⟨j _ d,z,ne,k _ _ (.inl rfl) e,mA,⟨od,es,ep,k _ _ (.inr d) i,c⟩,r⟩
 |own y=>obtain⟨ob,e⟩:=x;exact⟨ob,k _ _ (.inl rfl) e⟩
 |xd fs=>obtain⟨mA,⟨od,es,ep,e,c⟩,r⟩:=x;exact⟨mA,⟨od,es,ep,k _ _ (.inl rfl) e,c⟩,r⟩
 |rng lo hi=>obtain⟨t,u,v,e⟩:=x;exact⟨t,u,v,k _ _ (.inl rfl) e⟩
 |frz ob u m=>obtain⟨e,q⟩:=x;exact⟨k _ _ (.inl rfl) e,m q⟩
 |tbl ps=>
  have e:h.get? a=some {cls:=.none,data:=.fields ps}:=x;show h'.get? a=some {cls:=.none,data:=.fields ps};exact k a _ (.inl rfl) e
 |met f y=>
  have e:h.get? a=some (PySem.W.methodObj (.ref f) (.ref y)):=x;show h'.get? a=some (PySem.W.methodObj (.ref f) (.ref y));exact k a _ (.inl rfl) e
 |ext φ=>obtain⟨p,⟨o,e⟩,st⟩:=x;exact⟨st _ _ p λo q=>k _ _ (.inl rfl) q,⟨o,k _ _ (.inl rfl) e⟩,st⟩
theorem fb.lt(x:fb P w H h)(e:H a=some o):a<h.objs.size:=(x a o e).lt
theorem fb.fresh(x:fb P w H h)(e:h.objs.size<=a):H a=none:=by
 cases q:H a with
 |none=>rfl
 |some u=>exact absurd (Nat.lt_of_lt_of_le (x.lt q) e) (Nat.lt_irrefl _)
theorem fb.kept(x:fb P w H h)(k:∀b u,h.get? b=some u->h'.get? b=some u):fb P w H h':=λa o e=>
 (x a o e).stay (λb u _ q=>k b u q) (λ_ q=>q) λ_ _ q=>q
theorem fb.laid(x:fb P w H h)(k:∀b u,h.get? b=some u->h'.get? b=some u)(f:h.objs.size<=a)(new:ObjOk P w (upd H a o) h' a o):fb P w (upd H a o) h':=λb u e=>by
 have hn:=x.fresh f;by_cases d:b=a
 ·subst d;rw[ac]at e;cases e;exact new
 ·rw[ah d]at e;exact(x b u e).stay (λc v _ q=>k c v q) (λc q=>by rw[ah (ai q hn)];exact q) λc xs q=>by rw[ah (ai q hn)];exact q
end
def Rd(H:Hp)(a:Addr)(u:HO):Prop:=H a=some u\/∃o,H a=some (.frz o u)
theorem Rd.ok{P:Program}{w:World}{H:Hp}{h:Heap}{a:Addr}{u:HO}(r:Rd H a u)(x:fb P w H h):ObjOk P w H h a u:=by
 rcases r with r|⟨o,r⟩
 ·exact x a u r
 ·obtain⟨_,q⟩:=x a _ r;exact q
def Cg:Option HO->Prop
 |some (.lst _)=>True
 |some (.dK _)=>True
 |some (.dT _)=>True
 |some (.set _ _)=>True
 |some (.ins _ _ _)=>True
 |some (.ext _)=>True
 |_=>False
section
variable{P:Program}{w:World}{H:Hp}{h h':Heap}{x e:Addr}{o':HO}
theorem fb.write(ok:fb P w H h)(j:Cg (H x))(m:e=x\/H e=some (.own x))(k:∀b u,b≠e->h.get? b=some u->h'.get? b=some u)(l:∃u,h'.get? e=some u)
  (new:ObjOk P w (upd H x o') h' x o'):fb P w (upd H x o') h':=λb u q=>by
 have d:∀c y,H c=some (.own y)->c≠x:=λc y r z=>by subst z;rw[r]at j;exact j
 have f:∀c xs,H c=some (.tup xs)->c≠x:=λc xs r z=>by subst z;rw[r]at j;exact j
 by_cases g:b=x
 ·subst g;rw[ac]at q;cases q;exact new
 ·rw[ah g]at q;by_cases a:b=e
  ·have n:H b=some (.own x):=by
    rcases m with z|z
    ·exact absurd (a.trans z) g
    ·rw[a];exact z
   rw[q]at n;cases n;obtain⟨v,o⟩:=l;exact⟨v,by rw[a];exact o⟩
  ·refine(ok b u q).stay (λc v i r=>k c v ?_ r) (λc r=>by rw[ah (d c b r)];exact r) λc xs r=>by rw[ah (f c xs r)];exact r
   rcases i with rfl|i
   ·exact a
   ·rintro rfl;rcases m with z|z
    ·exact d c b i z
    ·rw[i]at z;cases z;exact g rfl
end
structure Un(fs ex:List Addr)(H H':Hp)(h h':Heap):Prop where
 keep:∀b o,h.get? b=some o->H b=none->b∉fs->b∉ex->h'.get? b=some o
 slot:∀b o,h.get? b=some o->H b=none->b∈fs->b∉ex->∃sl,h'.get? b=some {o with slots:=sl}
 free:∀b o,h.get? b=some o->H b=none->b∉ex->H' b=none
 there:∀b o,h.get? b=some o->b∉ex->∃o',h'.get? b=some o'
 tups:∀b xs,H b=some (.tup xs)->H' b=some (.tup xs)
 frzs:∀b o u,H b=some (.frz o u)->H' b=some (.frz o u)
 tbls:∀b ps,H b=some (.tbl ps)->∃more,H' b=some (.tbl (ps++more))
section
variable{fs fs' ex ex':List Addr}{H H1 H2:Hp}{h h1 h2 h':Heap}{a x e:Addr}{o:HO}
theorem Un.any(u:Un fs ex H H1 h h1){b:Addr}{ob:Obj}(q:h.get? b=some ob)(n:H b=none)(c:b∉ex):∃d,h1.get? b=some {ob with slots:=d}:=by
 by_cases a:b∈fs
 ·exact u.slot b ob q n a c
 ·exact⟨ob.slots,u.keep b ob q n a c⟩
theorem Un.kept(k:∀b u,h.get? b=some u->h'.get? b=some u):Un fs ex H H h h':=
 ⟨λb ob q _ _ _=>k b ob q,λb ob q _ _ _=>⟨ob.slots,k b ob q⟩,λ_ _ _ n _=>n,λb ob q _=>⟨ob,k b ob q⟩,λ_ _ q=>q,λ_ _ _ q=>q,λ_ ps q=>⟨#[],by rw[q];simp⟩⟩
theorem Un.refl:Un fs ex H H h h:=Un.kept λ_ _ q=>q
theorem Un.laid(k:∀b u,h.get? b=some u->h'.get? b=some u)(c:h.objs.size<=a)(hn:H a=none):Un fs ex H (upd H a o) h h' where
 keep:=λb u q _ _ _=>k b u q
 slot:=λb u q _ _ _=>⟨u.slots,k b u q⟩
 free:=λb u q n _=>by rw[ah (Nat.ne_of_lt (Nat.lt_of_lt_of_le (Heap.lt_size q) c))];exact n
 there:=λb u q _=>⟨u,k b u q⟩
 tups:=λb xs q=>by rw[ah (ai q hn)];exact q
 frzs:=λb u xs q=>by rw[ah (ai q hn)];exact q
 tbls:=λb ps q=>⟨#[],by rw[ah (ai q hn),q];simp⟩
theorem Un.write(c:Cg (H x))(j:e=x\/H e=some (.own x))(k:∀b u,b≠e->h.get? b=some u->h'.get? b=some u)(d:∃u,h'.get? e=some u):Un fs ex H (upd H x o) h h':=by
 have i:∀b,H b=none->b≠x:=λb n z=>by subst z;rw[n]at c;exact c
 have g:∀b,H b=none->b≠e:=λb n z=>by
  subst z;rcases j with r|r
  ·exact i b n r
  ·rw[n]at r;cases r
 have f:∀b u,H b=some u->¬Cg (some u)->b≠x:=λb u q nm z=>by subst z;rw[q]at c;exact nm c
 refine⟨λb u q n _ _=>k b u (g b n) q,λb u q n _ _=>⟨u.slots,k b u (g b n) q⟩,λb u q n _=>by rw[ah (i b n)];exact n,λb u q _=>?_,
  λb xs q=>by rw[ah (f b _ q λz=>z)];exact q,λb u xs q=>by rw[ah (f b _ q λz=>z)];exact q,λb ps q=>⟨#[],by rw[ah (f b _ q λz=>z),q];simp⟩⟩
 by_cases a:b=e
 ·subst a;exact d
 ·exact⟨u,k b u a q⟩
end
def Cj(h:Heap)(H:Hp):List Addr:=(List.range h.objs.size).filter λa=>(H a).isSome
def kS(h:Heap)(H:Hp):Heap:=PySem.W.hideAll h (Cj h H)
theorem qy(h:Heap)(H:Hp):(kS h H).objs.size=h.objs.size:=PySem.W.hideAll_size _ _
theorem tN{h:Heap}{H:Hp}{b:Addr}{o:Obj}(e:h.get? b=some o)(n:H b=none):(kS h H).get? b=some o:=
 PySem.W.hideAll_get _ e λa=>by
  have q:(H b).isSome=true:=(List.mem_filter.mp a).2;rw[n]at q;simp at q
theorem wY{h:Heap}{H:Hp}{b:Addr}{o:Obj}(e:(kS h H).get? b=some o):h.get? b=some o/\H b=none:=by
 have a:h.get? b=some o:=PySem.W.of_hideAll (Cj h H) e;refine⟨a,?_⟩;cases q:H b with
 |none=>rfl
 |some x=>
  have c:b∈Cj h H:=List.mem_filter.mpr ⟨List.mem_range.mpr (Heap.lt_size a),by simp[q]⟩;have z:(kS h H).get? b=none:=PySem.W.hideAll_none (Cj h H) c;rw[z]at e;cases e
structure Mod(K:PySem.W.Frag)(mg:Str->Option Value)(base:Heap):Prop where
 kin:K.In base
 glob:base.Ns mainGlobals mg
 blt:∃mb,base.Ns builtinsNs mb/\∀x:Str,x≠"__name__"->mb x=bootBuiltins x
 nolimit:base.NoLimit
structure Cx where
 prog:Program
 w:World
 K:PySem.W.Frag
 mg:Str->Option Value
 base:Heap
 A:Around
 N:List Str
 s₀:Shared
 H₀:Hp
 env:Env
 outer:List Env
 stack:List Env
 ex:List Addr
 fn:Str->Bool
 calm:Bool
 pn:List (Addr×Obj)
 xe:Value->Shared->Prop
def frs(l:List Env):List Addr:=l.filterMap (·.frame)
abbrev Cx.fs(X:Cx):List Addr:=frs X.outer
def De(a:Scope)(x:Str):Prop:=a.names.lookup x=some .local \/a.names.lookup x=some .cell \/a.names.lookup x=some .free
def Cp(a:Scope)(x:Str):Prop:=a.names.lookup x=some .local \/a.names.lookup x=some .cell
def Dr(env:Env)(h:Heap)(m:Str->Option Value)(x:Str)(u:Value):Prop:=
 (env.kindOf x=some .local/\m x=some u)\/((env.kindOf x=some .cell \/env.kindOf x=some .free)/\∃c,env.cells.lookup x=some c/\h.IsCell c (some u))
structure Cx.Ok(X:Cx):Prop where
 mod:Mod X.K X.mg X.base
 kind:X.env.scope.kind=.function
 glob:X.env.globals=mainGlobals
 blt:X.env.builtins=builtinsNs
 above:X.s₀.heap.objs.size<=X.env.locals
 inj:∀x y c,X.env.cells.lookup x=some c->X.env.cells.lookup y=some c->x=y
 has:∀x,(X.env.kindOf x=some .cell \/X.env.kindOf x=some .free)->∃c,X.env.cells.lookup x=some c
 cab:∀x c,X.fn x=true->X.env.cells.lookup x=some c->X.s₀.heap.objs.size<=c
 hd:X.calm=true->X.A.handled=none
 frames:X.A.frames=some X.stack
 stk:X.stack=X.outer\/(X.stack=X.env::X.outer/\X.env.frame=some X.env.locals)
 exf:∀b∈X.ex,b≠X.env.locals/\∀x c,X.env.cells.lookup x=some c->c≠b
 bs:∀b o,X.base.get? b=some o->X.s₀.heap.get? b=some o/\X.H₀ b=none
 bsz:X.base.objs.size<=X.s₀.heap.objs.size
 noex:∀b o,X.base.get? b=some o->b∉X.ex
 exfs:∀b∈X.ex,b∉X.fs
 funs:X.s₀.heap.FunFrames X.base X.outer
 frf:∀b∈X.fs,X.H₀ b=none
structure Inv(X:Cx)(pins:List (Addr×Obj))(σ:List (Option V))(H:Hp)(s:Shared):Prop where
 ok:X.Ok
 os:s.os=X.s₀.os
 bare:AllBare s.gens
 base:Un X.fs X.ex X.H₀ H X.s₀.heap s.heap
 loc:∃m,s.heap.Ns X.env.locals m/\∀(i:Nat)(x:Str)(v:V),X.N[i]?=some x->σ[i]?=some (some v)->De X.env.scope x->∃u,aN v u/\Dr X.env s.heap m x u
 cell:∀x c,X.env.cells.lookup x=some c->∃v,s.heap.IsCell c v
 free:H X.env.locals=none
 freeC:∀x c,X.env.cells.lookup x=some c->H c=none
 pin:∀p∈X.pn++pins,s.heap.get? p.1=some p.2/\H p.1=none/\p.1≠X.env.locals/\p.1∉X.fs/\∀v,p.2.data≠ .cell v
 hok:fb X.prog X.w H s.heap
 len:σ.length=X.N.length
section
variable{X:Cx}{pins:List (Addr×Obj)}{σ:List (Option V)}{H H':Hp}{s:Shared}{h':Heap}
theorem Cx.Ok.nofr(ok:X.Ok){b:Addr}{o:Obj}(e:X.base.get? b=some o):b∉X.fs:=λa=>by
 have:=(ok.funs.mem a).1;rw[e]at this;cases this
theorem Inv.bs(I:Inv X pins σ H s):∀b o,X.base.get? b=some o->s.heap.get? b=some o/\H b=none:=λb o e=>
 ⟨I.base.keep b o (I.ok.bs b o e).1 (I.ok.bs b o e).2 (I.ok.nofr e) (I.ok.noex b o e),I.base.free b o (I.ok.bs b o e).1 (I.ok.bs b o e).2 (I.ok.noex b o e)⟩
theorem Inv.bk(I:Inv X pins σ H s):∀b o,X.base.get? b=some o->s.heap.get? b=some o:=λb o e=>(I.bs b o e).1
theorem Inv.mod(I:Inv X pins σ H s):Mod X.K X.mg X.base:=I.ok.mod
theorem Inv.kIn(I:Inv X pins σ H s):X.K.In s.heap:=I.ok.mod.kin.keeps I.bk
theorem Inv.lt(I:Inv X pins σ H s):X.env.locals<s.heap.objs.size:=let⟨_,hn,_⟩:=I.loc;hn.lt
theorem Inv.sz(I:Inv X pins σ H s):X.s₀.heap.objs.size<=s.heap.objs.size:=Nat.le_trans I.ok.above (Nat.le_of_lt I.lt)
theorem Inv.nofs(I:Inv X pins σ H s){a:Addr}(h:s.heap.objs.size<=a):a∉X.fs:=λb=>by
 obtain⟨_,o,c,_⟩:=I.ok.funs.mem b;exact absurd (Nat.lt_of_lt_of_le (Heap.lt_size c) (Nat.le_trans I.sz h)) (Nat.lt_irrefl _)
theorem Inv.cne(I:Inv X pins σ H s):∀x c,X.env.cells.lookup x=some c->c≠X.env.locals:=λx c e z=>by
 obtain⟨v,o,d,hd⟩:=I.cell x c e;obtain⟨m,⟨o',es,ep,b,a,_⟩,_⟩:=I.loc;rw[z,b]at d;cases d;rw[a]at hd;cases hd
theorem Inv.funs(I:Inv X pins σ H s):s.heap.FunFrames X.base X.outer:=by
 have all:∀(l:List Env),(∀b∈frs l,b∈X.fs)->X.s₀.heap.FunFrames X.base l->s.heap.FunFrames X.base l:=by
  intro l;induction l with
  |nil=>intro _ _;trivial
  |cons env r k=>
   intro f h;obtain⟨g,⟨L,o,d,hn,i,hd⟩,j⟩:=h;have a:L∈X.fs:=f L (by unfold frs;rw[List.filterMap_cons,d];exact List.mem_cons_self);obtain⟨m,e⟩:=I.base.slot L o i (I.ok.frf L a) a λz=>I.ok.exfs L z a;exact⟨g,⟨L,_,d,hn,e,hd⟩,k (λb c=>f b (by unfold frs;rw[List.filterMap_cons,d];exact List.mem_cons_of_mem _ c)) j⟩
 exact all X.outer (λ_ c=>c) I.ok.funs
theorem Inv.stack(I:Inv X pins σ H s):s.heap.FunFrames X.base X.stack:=by
 rcases I.ok.stk with e|⟨e,a⟩
 ·rw[e];exact I.funs
 ·rw[e];obtain⟨m,hn,_⟩:=I.loc;refine .cons (by rw[I.ok.kind];decide) a hn ?_ I.funs;exact Heap.get?_none_of_le (Nat.le_trans I.ok.bsz I.ok.above)
theorem Inv.stkSub(I:Inv X pins σ H s):∀b∈frs X.stack,b∈X.env.locals::X.fs:=λb a=>by
 rcases I.ok.stk with e|⟨e,c⟩
 ·rw[e]at a;exact List.mem_cons_of_mem _ a
 ·rw[e]at a;unfold frs at a;rw[List.filterMap_cons,c]at a;exact a
theorem Inv.stkFree(I:Inv X pins σ H s):∀b∈frs X.stack,H b=none:=λb a=>by
 rcases List.mem_cons.mp (I.stkSub b a)with e|a
 ·rw[e];exact I.free
 ·obtain⟨_,o,c,_⟩:=I.ok.funs.mem a;exact I.base.free b o c (I.ok.frf b a) λz=>I.ok.exfs b z a
theorem Inv.step{g':Array GenState}{t':Nat}{d':Drawn}{ch:List Addr}(I:Inv X pins σ H s)
  (g:∀b∈ch,(b∈X.ex\/X.s₀.heap.objs.size<=b)/\b≠X.env.locals/\(∀x c,X.env.cells.lookup x=some c->c≠b)/\∀p∈X.pn++pins,p.1≠b)
  (keep:∀b o,b≠X.env.locals->b∉X.fs->b∉ch->s.heap.get? b=some o->H b=none->h'.get? b=some o)
  (slot:∀b o,b≠X.env.locals->b∈X.fs->b∉ch->s.heap.get? b=some o->H b=none->∃D,h'.get? b=some {o with slots:=D})(free:∀b o,b∉ch->s.heap.get? b=some o->H b=none->H' b=none)
  (there:∀b o,b∉ch->s.heap.get? b=some o->∃o',h'.get? b=some o')
  (tups:∀b xs,H b=some (.tup xs)->H' b=some (.tup xs))(frzs:∀b o u,H b=some (.frz o u)->H' b=some (.frz o u))(tbls:∀b ps,H b=some (.tbl ps)->∃B,H' b=some (.tbl (ps++B)))
  (ns:∀m,s.heap.Ns X.env.locals m->h'.Ns X.env.locals m)(hok:fb X.prog X.w H' h')(L:AllBare g'):
  Inv X pins σ H' {s with heap:=h',gens:=g',drawn:=d',toks:=t'}:=by
 have C:∀b o,X.s₀.heap.get? b=some o->b≠X.env.locals:=λb o e=>Nat.ne_of_lt (Nat.lt_of_lt_of_le (Heap.lt_size e) I.ok.above);have t:∀b o,X.s₀.heap.get? b=some o->b∉X.ex->b∉ch:=λb o e a w=>by
  rcases(g b w).1 with z|z
  ·exact a z
  ·exact absurd (Nat.lt_of_lt_of_le (Heap.lt_size e) z) (Nat.lt_irrefl _)
 have f:∀x c,X.env.cells.lookup x=some c->∀v,s.heap.IsCell c v->h'.IsCell c v:=λx c e v⟨o,y,hd⟩=>by
  have h:c∉ch:=λz=>(g c z).2.2.1 x c e rfl;by_cases F:c∈X.fs
  ·obtain⟨D,q⟩:=slot c o (I.cne x c e) F h y (I.freeC x c e);exact⟨_,q,hd⟩
  ·exact⟨o,keep c o (I.cne x c e) F h y (I.freeC x c e),hd⟩
 refine⟨I.ok,I.os,L,⟨λb o e n w a=>?_,λb o e n w a=>?_,λb o e n a=>?_,λb o e a=>?_,λb xs e=>tups b xs (I.base.tups b xs e),λb o xs e=>frzs b o xs (I.base.frzs b o xs e),λb ps e=>?_⟩,?_,λx c e=>?_,?_,λx c e=>?_,λp G=>?_,hok,I.len⟩
 ·exact keep b o (C b o e) w (t b o e a) (I.base.keep b o e n w a) (I.base.free b o e n a)
 ·obtain⟨D,j⟩:=I.base.slot b o e n w a;obtain⟨E,A⟩:=slot b _ (C b o e) w (t b o e a) j (I.base.free b o e n a);exact⟨E,A⟩
 ·obtain⟨o',j⟩:=I.base.there b o e a;exact free b o' (t b o e a) j (I.base.free b o e n a)
 ·obtain⟨o',j⟩:=I.base.there b o e a;exact there b o' (t b o e a) j
 ·obtain⟨m1,j⟩:=I.base.tbls b ps e;obtain⟨m2,A⟩:=tbls b _ j;exact⟨m1++m2,by rw[A,Array.append_assoc]⟩
 ·obtain⟨m,hn,M⟩:=I.loc;refine⟨m,ns m hn,λi x v j A K=>?_⟩;obtain⟨u,r,l⟩:=M i x v j A K;refine⟨u,r,?_⟩;rcases l with l|⟨k,c,e,z⟩
  ·exact .inl l
  ·exact .inr ⟨k,c,e,f x c e _ z⟩
 ·obtain⟨v,z⟩:=I.cell x c e;exact⟨v,f x c e v z⟩
 ·obtain⟨m,⟨o,_,_,y,_⟩,_⟩:=I.loc;exact free _ o (λz=>(g _ z).2.1 rfl) y I.free
 ·obtain⟨v,o,y,hd⟩:=I.cell x c e;exact free c o (λz=>(g c z).2.2.1 x c e rfl) y (I.freeC x c e)
 ·obtain⟨e,n,ne,J,d⟩:=I.pin p G;have h:p.1∉ch:=λz=>(g p.1 z).2.2.2 p G rfl;exact⟨keep p.1 p.2 ne J h e n,free p.1 p.2 h e n,ne,J,d⟩
theorem Inv.un{t':Nat}(I:Inv X pins σ H s)(u:Un X.fs [] H H' s.heap h')(hok:fb X.prog X.w H' h'):Inv X pins σ H' {s with heap:=h',toks:=t'}:=by
 obtain⟨m,⟨o,es,ep,g,r⟩,_⟩:=id I.loc;obtain⟨l,h⟩:=u.any g I.free Qs;exact I.step (g':=s.gens) (d':=s.drawn) (ch:=[]) (λ_ z=>nomatch z) (λb o _ f _ e n=>u.keep b o e n f Qs) (λb o _ f _ e n=>u.slot b o e n f Qs) (λb o _ e n=>u.free b o e n Qs) (λb o _ e=>u.there b o e Qs) u.tups u.frzs u.tbls (λk i=>by
  obtain⟨o',d,c,a,j⟩:=i;rw[g]at a;cases a;exact⟨_,d,c,h,j⟩) hok I.bare
theorem Inv.call{g':Array GenState}{t':Nat}{d':Drawn}{ch:List Addr}(I:Inv X pins σ H s)(u:Un (frs X.stack) ch H H' s.heap h')(hok:fb X.prog X.w H' h')(l:AllBare g')
  (d:∀b∈ch,(b∈X.ex\/X.s₀.heap.objs.size<=b)/\b≠X.env.locals/\(∀x c,X.env.cells.lookup x=some c->c≠b)/\∀p∈X.pn++pins,p.1≠b):
  Inv X pins σ H' {s with heap:=h',gens:=g',drawn:=d',toks:=t'}:=by
 obtain⟨m,⟨o,es,ep,j,r⟩,_⟩:=id I.loc;obtain⟨w,i⟩:=u.any j I.free λz=>(d _ z).2.1 rfl;exact I.step (ch:=ch) d (λb o i k a e n=>u.keep b o e n (λz=>(List.mem_cons.mp (I.stkSub b z)).elim i k) a) (λb o _ _ a e n=>u.any e n a) (λb o a e n=>u.free b o e n a) (λb o a e=>u.there b o e a) u.tups u.frzs u.tbls (λv q=>by
  obtain⟨o',h,g,f,t⟩:=q;rw[j]at f;cases f;exact⟨_,h,g,i,t⟩) hok l
theorem Inv.turned{t':Nat}{it:Addr}(I:Inv X pins σ H s)(k:∀b o,b≠it->s.heap.get? b=some o->h'.get? b=some o)(hn:H it=none)(f:it≠X.env.locals)
  (h1:it∈X.ex\/X.s₀.heap.objs.size<=it)(h2:∀x c,X.env.cells.lookup x=some c->c≠it)(g:∀p∈X.pn++pins,p.1≠it):Inv X pins σ H {s with heap:=h',toks:=t'}:=by
 have d:∀b u,H b=some u->b≠it:=λb u e z=>by rw[z,hn]at e;cases e
 refine I.step (g':=s.gens) (d':=s.drawn) (ch:=[it]) (λb h=>?_) (λb o _ _ a e _=>k b o (λz=>a (by simp[z])) e) (λb o _ _ a e _=>⟨o.slots,k b o (λz=>a (by simp[z])) e⟩) (λ_ _ _ _ n=>n)
  (λb o a e=>⟨o,k b o (λz=>a (by simp[z])) e⟩) (λ_ _ e=>e) (λ_ _ _ e=>e) (λb ps e=>⟨#[],by rw[e];simp⟩) (λm i=>?_) (λb u e=>?_) I.bare
 ·have e:b=it:=by simpa using h
  subst e;exact⟨h1,f,h2,g⟩
 ·obtain⟨o,es,ep,j,r⟩:=i;exact⟨o,es,ep,k _ o (Ne.symm f) j,r⟩
 ·refine(I.hok b u e).stay (λc v a q=>k c v ?_ q) (λ_ q=>q) λ_ _ q=>q;rcases a with z|z
  ·rw[z];exact d b u e
  ·exact d c _ z
theorem Inv.tok(I:Inv X pins σ H s)(t:Nat):Inv X pins σ H {s with toks:=t}:=I.un (h':=s.heap) (t':=t) Un.refl I.hok
theorem Inv.kept{t':Nat}(I:Inv X pins σ H s)(k:∀b u,s.heap.get? b=some u->h'.get? b=some u):Inv X pins σ H {s with heap:=h',toks:=t'}:=I.un (Un.kept k) (I.hok.kept k)
theorem Inv.laid{a:Addr}{o:HO}{t':Nat}(I:Inv X pins σ H s)(k:∀b u,s.heap.get? b=some u->h'.get? b=some u)(c:s.heap.objs.size<=a)(new:ObjOk X.prog X.w (upd H a o) h' a o):
  Inv X pins σ (upd H a o) {s with heap:=h',toks:=t'}:=I.un (Un.laid k c (I.hok.fresh c)) (I.hok.laid k c new)
theorem Inv.write{x e:Addr}{o:HO}{t':Nat}(I:Inv X pins σ H s)(d:Cg (H x))(c:e=x\/H e=some (.own x))(k:∀b u,b≠e->s.heap.get? b=some u->h'.get? b=some u)(a:∃u,h'.get? e=some u)
  (new:ObjOk X.prog X.w (upd H x o) h' x o):Inv X pins σ (upd H x o) {s with heap:=h',toks:=t'}:=I.un (Un.write d c k a) (I.hok.write d c k a new)
theorem Inv.pins_of{pins':List (Addr×Obj)}(I:Inv X pins σ H s)(h:∀p∈pins',s.heap.get? p.1=some p.2/\H p.1=none/\p.1≠X.env.locals/\p.1∉X.fs/\∀v,p.2.data≠ .cell v):Inv X pins' σ H s:=
 ⟨I.ok,I.os,I.bare,I.base,I.loc,I.cell,I.free,I.freeC,λp a=>(List.mem_append.mp a).elim (λz=>I.pin p (List.mem_append_left _ z)) (h p),I.hok,I.len⟩
theorem jj{N:List Str}(e:N.Nodup){i j:Nat}{x:Str}(a:N[i]?=some x)(b:N[j]?=some x):i=j:=by
 obtain⟨h1,c⟩:=List.getElem?_eq_some_iff.mp a;obtain⟨h2,d⟩:=List.getElem?_eq_some_iff.mp b;exact(List.getElem_inj e).mp (c.trans d.symm)
theorem jW{M:Model}{A:Around}{E:Value->Shared->Prop}{i:Nat}{x:Str}{v:V}{u:Value}{Q:Unit->Shared->Prop}(I:Inv X pins σ H s)(hN:X.N.Nodup)(hi:X.N[i]?=some x)(w:Cp X.env.scope x)(r:aN v u)
  (h:∀s',Inv X pins (σ.set i (some v)) H s'->(∃a,Heap.SameBut a s.heap s'.heap/\(a=X.env.locals\/X.env.cells.lookup x=some a))->Q () s')(hf:X.fn x=true\/X.env.scope.names.lookup x=some .local:=by first|exact .inl rfl|exact .inr rfl|assumption):wpAny M A (storeName X.env x u) Q E s:=by
 obtain⟨m,hn,hl⟩:=id I.loc;have P:(X.env.scope.kind== .class ||(X.env.scope.kind== .module &&X.env.locals != X.env.globals))=false:=by rw[I.ok.kind];rfl
 have D:i<σ.length:=by rw[I.len];exact(List.getElem?_eq_some_iff.mp hi).1
 have G:=I.cne;have l:∀{a:Addr}{h':Heap},(∃o,s.heap.get? a=some o/\H a=none)->Heap.SameBut a s.heap h'->fb X.prog X.w H h':=λ{a h'}ha f b ob e=>by
  obtain⟨_,_,B⟩:=ha;refine(I.hok b ob e).stay (λc w' t q=>(f.2 c ?_).trans q) (λ_ q=>q) λ_ _ q=>q;rintro rfl;rcases t with rfl|t
  ·rw[B]at e;cases e
  ·rw[B]at t;cases t
 rcases w with F|F
 ·refine wpAny_storeName_local F hn (λh' W f=>?_) P;obtain⟨oL,_,_,Y,_⟩:=id hn;refine h _ ⟨I.ok,I.os,I.bare,⟨λb o e n J w=>?_,λb o e n J w=>?_,I.base.free,λb o e w=>?_,I.base.tups,I.base.frzs,I.base.tbls⟩,⟨_,W,λj y v' g C U=>?_⟩,λy c e=>?_,I.free,I.freeC,λp Z=>?_,l ⟨oL,Y,I.free⟩ f,by simpa using I.len⟩ ⟨_,f,.inl rfl⟩
  ·exact(f.2 b (Nat.ne_of_lt (Nat.lt_of_lt_of_le (Heap.lt_size e) I.ok.above))).trans (I.base.keep b o e n J w)
  ·obtain⟨sl,g⟩:=I.base.slot b o e n J w;exact⟨sl,(f.2 b (Nat.ne_of_lt (Nat.lt_of_lt_of_le (Heap.lt_size e) I.ok.above))).trans g⟩
  ·obtain⟨o',g⟩:=I.base.there b o e w;exact⟨o',(f.2 b (Nat.ne_of_lt (Nat.lt_of_lt_of_le (Heap.lt_size e) I.ok.above))).trans g⟩
  ·by_cases L:j=i
   ·subst L;rw[hi]at g;cases g;rw[List.getElem?_set_self D]at C;cases C;exact⟨u,r,.inl ⟨F,Qs⟩⟩
   ·rw[List.getElem?_set_ne (Ne.symm L)]at C;obtain⟨u',r',q⟩:=hl j y v' g C U;refine⟨u',r',?_⟩;rcases q with⟨k,e⟩|⟨k,c,e,z⟩
    ·refine .inl ⟨k,?_⟩;have:y≠x:=λe=>L (jj hN g (e▸hi));simp[this,e]
    ·exact .inr ⟨k,c,e,z.sameBut f (G y c e)⟩
  ·obtain⟨w',z⟩:=I.cell y c e;exact⟨w',z.sameBut f (G y c e)⟩
  ·obtain⟨e,n,ne,nf,d⟩:=I.pin p Z;exact⟨(f.2 p.1 ne).trans e,n,ne,nf,d⟩
 ·have K:X.fn x=true:=by
   rcases hf with z|z
   ·exact z
   ·rw[z]at F;cases F
  obtain⟨c,t⟩:=I.ok.has x (.inl F);obtain⟨w',z⟩:=I.cell x c t;refine wpAny_storeName_cell I.ok.kind F t z (λh' N f=>?_);obtain⟨oc,R,S⟩:=id z;refine h {s with heap:=h'} ⟨I.ok,I.os,I.bare,⟨λb o e n J w=>?_,λb o e n J w=>?_,I.base.free,λb o e w=>?_,I.base.tups,I.base.frzs,I.base.tbls⟩,⟨m,hn.sameBut f (Ne.symm (G x c t)),λj y v' g C U=>?_⟩,λy T e=>?_,I.free,I.freeC,λp Z=>?_,l ⟨oc,R,I.freeC x c t⟩ f,by simpa using I.len⟩ ⟨c,f,.inr t⟩
  ·exact(f.2 b (Nat.ne_of_lt (Nat.lt_of_lt_of_le (Heap.lt_size e) (I.ok.cab x c K t)))).trans (I.base.keep b o e n J w)
  ·obtain⟨sl,g⟩:=I.base.slot b o e n J w;exact⟨sl,(f.2 b (Nat.ne_of_lt (Nat.lt_of_lt_of_le (Heap.lt_size e) (I.ok.cab x c K t)))).trans g⟩
  ·obtain⟨o',g⟩:=I.base.there b o e w;exact⟨o',(f.2 b (Nat.ne_of_lt (Nat.lt_of_lt_of_le (Heap.lt_size e) (I.ok.cab x c K t)))).trans g⟩
  ·by_cases L:j=i
   ·subst L;rw[hi]at g;cases g;rw[List.getElem?_set_self D]at C;cases C;exact⟨u,r,.inr ⟨.inl F,c,t,N⟩⟩
   ·rw[List.getElem?_set_ne (Ne.symm L)]at C;obtain⟨u',r',q⟩:=hl j y v' g C U;refine⟨u',r',?_⟩;rcases q with q|⟨k,T,e,z'⟩
    ·exact .inl q
    ·refine .inr ⟨k,T,e,z'.sameBut f ?_⟩;rintro rfl;exact L (jj hN g (I.ok.inj _ _ _ e t▸hi))
  ·by_cases O:T=c
   ·subst O;exact⟨_,N⟩
   ·obtain⟨w2,z2⟩:=I.cell y T e;exact⟨w2,z2.sameBut f O⟩
  ·obtain⟨e,n,ne,nf,d⟩:=I.pin p Z;refine⟨(f.2 p.1 ?_).trans e,n,ne,nf,d⟩;intro q;rw[q,R]at e;have q':oc=p.2:=Option.some.inj e;exact d w' (by rw[<-q'];exact S)
theorem iS{M:Model}{A:Around}{E:Value->Shared->Prop}{i:Nat}{x:Str}{v:V}{u:Value}{Q:Unit->Shared->Prop}(I:Inv X pins σ H s)(b:X.N.Nodup)(hi:X.N[i]?=some x)(d:Cp X.env.scope x)(r:aN v u)
  (h:∀s',Inv X pins (σ.set i (some v)) H s'->Q () s')(c:X.fn x=true\/X.env.scope.names.lookup x=some .local:=by first|exact .inl rfl|exact .inr rfl|assumption):wpAny M A (storeName X.env x u) Q E s:=
 jW I b hi d r (λs' a _=>h s' a) c
theorem Inv.call'{s':Shared}{ch:List Addr}(I:Inv X pins σ H s)(f:s'.os=s.os)(u:Un (frs X.stack) ch H H' s.heap s'.heap)(hok:fb X.prog X.w H' s'.heap)(d:AllBare s'.gens)
  (a:∀b∈ch,(b∈X.ex\/X.s₀.heap.objs.size<=b)/\b≠X.env.locals/\(∀x c,X.env.cells.lookup x=some c->c≠b)/\∀p∈X.pn++pins,p.1≠b):Inv X pins σ H' s':=by
 obtain⟨h',g',d',t',o'⟩:=s';have e:o'=s.os:=f;subst e;exact I.call (g':=g') (t':=t') (d':=d') u hok d a
end
abbrev XK:=Value->Option Addr->Hp->Prop
abbrev St:=List (Option V)
abbrev VK:=V->Hp->Prop
abbrev TE:=St->Hp->VK->Prop
abbrev TT:=St->Hp->(Bool->Hp->Prop)->Prop
abbrev TA:=St->Hp->(List V->Hp->Prop)->Prop
structure jT where
 nx:St->Hp->Prop
 rt:VK
 bk:St->Hp->Prop:=λ_ _=>False
 ct:St->Hp->Prop:=λ_ _=>False
abbrev TS:=jT->St->Hp->Prop
def EP(X:Cx)(pins:List (Addr×Obj))(σ:St)(Q:VK)(u:Value)(s':Shared):Prop:=∃v H',Inv X pins σ H' s'/\aN v u/\Q v H'
def TP(X:Cx)(pins:List (Addr×Obj))(σ:St)(Q:Bool->Hp->Prop)(b:Bool)(s':Shared):Prop:=∃H',Inv X pins σ H' s'/\Q b H'
def AP(X:Cx)(pins:List (Addr×Obj))(σ:St)(Q:List V->Hp->Prop)(us:List Value)(s':Shared):Prop:=∃vs H',Inv X pins σ H' s'/\bc vs us/\Q vs H'
def SP(X:Cx)(pins:List (Addr×Obj))(D:jT)(f:Flow)(s':Shared):Prop:=
 match f with
 |.next=>∃a H',Inv X pins a H' s'/\D.nx a H'
 |.brk=>∃a H',Inv X pins a H' s'/\D.bk a H'
 |.cont=>∃a H',Inv X pins a H' s'/\D.ct a H'
 |.ret u=>∃v a H',Inv X pins a H' s'/\aN v u/\D.rt v H'
def PE(X:Cx)(e:Expr)(t:TE):Prop:=
 ∀(pins:List (Addr×Obj))(s:Shared)(σ:St)(H:Hp)(Q:VK),Inv X pins σ H s->t σ H Q->wpAny (model X.prog X.w) X.A (eval e X.env) (EP X pins σ Q) X.xe s
def PT(X:Cx)(e:Expr)(t:TT):Prop:=
 ∀(pins:List (Addr×Obj))(s:Shared)(σ:St)(H:Hp)(Q:Bool->Hp->Prop),Inv X pins σ H s->t σ H Q->wpAny (model X.prog X.w) X.A (isTrue e X.env (eval e X.env)) (TP X pins σ Q) X.xe s
def PW(X:Cx)(e:Expr)(t:TT):Prop:=
 ∀(whole:Sem Value)(pins:List (Addr×Obj))(s:Shared)(σ:St)(H:Hp)(Q:Bool->Hp->Prop),Inv X pins σ H s->t σ H Q->wpAny (model X.prog X.w) X.A (isTrue e X.env whole) (TP X pins σ Q) X.xe s
theorem PW.pt{X:Cx}{e:Expr}{t:TT}(h:PW X e t):PT X e t:=h _
def PA(X:Cx)(es:List Expr)(t:TA):Prop:=
 ∀(pos:Pos)(pins:List (Addr×Obj))(s:Shared)(σ:St)(H:Hp)(Q:List V->Hp->Prop),Inv X pins σ H s->t σ H Q->wpAny (model X.prog X.w) X.A (spliced (backTo pos (starEach es X.env))) (AP X pins σ Q) X.xe s
def PS(X:Cx)(st:Stmt)(t:TS):Prop:=
 ∀(pins:List (Addr×Obj))(s:Shared)(σ:St)(H:Hp)(D:jT),Inv X pins σ H s->t D σ H->wpAny (model X.prog X.w) X.A (exec st X.env) (SP X pins D) X.xe s
def PSs(X:Cx)(st:List Stmt)(t:TS):Prop:=
 ∀(pins:List (Addr×Obj))(s:Shared)(σ:St)(H:Hp)(D:jT),Inv X pins σ H s->t D σ H->wpAny (model X.prog X.w) X.A (execs st X.env) (SP X pins D) X.xe s
theorem bx{c:Type}{t:Sem c}{Q b:c->Shared->Prop}{M:Model}{A:Around}{E:Value->Shared->Prop}{s:Shared}(h:wpAny M A t Q E s)(d:∀a s,Q a s->b a s):wpAny M A t b E s:=wpAny_mono h d λ_ _ x=>x
section
variable{X:Cx}
def uN(i:Nat):TE:=λσ H Q=>∃v,σ[i]?=some (some v)/\Q v H
def tC(v:V):TE:=λ_ H Q=>Q v H
theorem zU{i:Nat}{x:Str}{pos:Pos}(j:X.N[i]?=some x)(o:De X.env.scope x)(hd:(x==("__debug__":Str))=false:=by decide)(f:(x==("__classdict__":Str))=false:=by decide):PE X (.Name x pos) (uN i):=by
 intro pins s σ H Q I h;obtain⟨v,e,h⟩:=h;obtain⟨m,hn,k⟩:=I.loc;obtain⟨u,r,l⟩:=k i x v j e o;have b:EP X pins σ Q u s:=⟨v,H,I,r,h⟩;rcases l with⟨d,n⟩|⟨d,c,g,a⟩
 ·exact wpAny_Name (wpAny_loadName_local I.ok.kind d hn n b) hd
 ·rcases d with d|d
  ·exact wpAny_Name (wpAny_loadName_cell I.ok.kind d g a b) hd
  ·exact wpAny_Name (wpAny_loadName_free I.ok.kind d g a b f) hd
theorem ak{i j pos}:PE X (.Constant (.int i) j pos) (tC (.int i)):=λ_ _ _ H _ I h=>wpAny_Constant_int ⟨.int i,H,I.tok _,⟨_,rfl⟩,h⟩
theorem dS{b j pos}:PE X (.Constant (.bool b) j pos) (tC (.bl b)):=λ_ _ _ H _ I h=>Constant_bool ⟨.bl b,H,I,rfl,h⟩
theorem gk{j pos}:PE X (.Constant .none j pos) (tC .non):=λ_ _ _ H _ I h=>Constant_none ⟨.non,H,I,rfl,h⟩
theorem aj{x j pos}:PE X (.Constant (.str x) j pos) (tC (.str x)):=λ_ _ _ H _ I h=>Calls.Constant_str ⟨.str x,H,I.tok _,⟨_,rfl⟩,h⟩
def Gl(X:Cx)(x:Str):Prop:=X.env.kindOf x=some .globalImplicit
theorem eQ{E:Value->Shared->Prop}{pins:List (Addr×Obj)}{s:Shared}{σ:St}{H:Hp}{x:Str}{u:Value}{pos:Pos}{Q:Value->Shared->Prop}(I:Inv X pins σ H s)(a:Gl X x)(b:X.mg x=some u)(h:Q u s)
  (hd:(x==("__debug__":Str))=false:=by decide):wpAny (model X.prog X.w) X.A (eval (.Name x pos) X.env) Q E s:=
 Calls.Name_function_global I.ok.kind a (Calls.loadGlobal_global (by rw[I.ok.glob];exact I.mod.glob.keeps I.bk) b h) hd
theorem h9{E:Value->Shared->Prop}{pins:List (Addr×Obj)}{s:Shared}{σ:St}{H:Hp}{x:Str}{u:Value}{pos:Pos}{Q:Value->Shared->Prop}(I:Inv X pins σ H s)(a:Gl X x)(b:X.mg x=none)(c:bootBuiltins x=some u)(h:Q u s)
  (hn:x≠"__name__":=by decide)(hd:(x==("__debug__":Str))=false:=by decide):wpAny (model X.prog X.w) X.A (eval (.Name x pos) X.env) Q E s:=by
 obtain⟨mb,h1,h2⟩:=I.mod.blt;exact Calls.Name_function_global I.ok.kind a (Calls.loadGlobal_builtin (by rw[I.ok.glob];exact I.mod.glob.keeps I.bk) b (by rw[I.ok.blt];exact h1.keeps I.bk) ((h2 x hn).trans c) h) hd
theorem oO{x:Str}{v:V}{u:Value}{pos:Pos}(a:Gl X x)(b:X.mg x=some u)(r:aN v u)(hd:(x==("__debug__":Str))=false:=by decide):PE X (.Name x pos) (tC v):=
 λ_ _ _ H _ I h=>eQ I a b ⟨v,H,I,r,h⟩ hd
theorem vZ{x:Str}{v:V}{u:Value}{pos:Pos}(a:Gl X x)(b:X.mg x=none)(c:bootBuiltins x=some u)(r:aN v u)(hn:x≠"__name__":=by decide)(hd:(x==("__debug__":Str))=false:=by decide):PE X (.Name x pos) (tC v):=
 λ_ _ _ H _ I h=>h9 I a b c ⟨v,H,I,r,h⟩ hn hd
variable{a b:Expr}{ta tb:TE}{pos:Pos}
def PC(X:Cx)(e:CmpOp)(a b:Expr)(t:TE):Prop:=
 ∀(pins:List (Addr×Obj))(s:Shared)(σ:St)(H:Hp)(Q:VK),Inv X pins σ H s->t σ H Q->
  wpAny (model X.prog X.w) X.A (eval a X.env) (λv c=>wpAny (model X.prog X.w) X.A (eval b X.env) (λu d=>wpAny (model X.prog X.w) X.A (compareOp e v u) (EP X pins σ Q) X.xe d) X.xe c) X.xe s
theorem mf(b:Expr){a:CmpOp}(h:a≠ .In)(h2:a≠ .NotIn):behindInMarks a b=false:=by
 have c:(a==CmpOp.In)=false:=by cases a<;>first|rfl|exact absurd rfl h
 have d:(a==CmpOp.NotIn)=false:=by cases a<;>first|rfl|exact absurd rfl h2
 cases b<;>simp[behindInMarks,c,d]
def Cy(ta:TE):TE:=λσ H Q=>ta σ H λx H1=>Q (.bl (decide (x=.non))) H1
def A0(ta:TE):TE:=λσ H Q=>ta σ H λx H1=>Q (.bl (!decide (x=.non))) H1
theorem aN.none_iff{x:V}{v:Value}(r:aN x v):(v==Value.none)=decide (x=.non):=by
 cases x with
 |non=>cases r;rfl
 |bl _=>cases r;rfl
 |int _=>obtain⟨t,rfl⟩:=r;rfl
 |str _=>obtain⟨t,rfl⟩:=r;rfl
 |byt _=>obtain⟨t,rfl⟩:=r;rfl
 |flt _=>obtain⟨t,rfl⟩:=r;rfl
 |ref _=>cases r;rfl
 |ty _=>cases r;rfl
theorem nB{j pos'}(c:PE X a ta):PC X .Is a (.Constant .none j pos') (Cy ta):=by
 intro pins s σ H Q I h;refine bx (c pins s σ H _ I h) λv e⟨x,H1,b,d,q1⟩=>?_;exact Constant_none (is_none_gen ⟨.bl _,H1,b,by rw[d.none_iff];rfl,q1⟩)
theorem v_{j pos'}(c:PE X a ta):PC X .IsNot a (.Constant .none j pos') (A0 ta):=by
 intro pins s σ H Q I h;refine bx (c pins s σ H _ I h) λv e⟨x,H1,b,d,q1⟩=>?_;exact Constant_none (isnot_none_gen ⟨.bl _,H1,b,by rw[d.none_iff];rfl,q1⟩)
def tB(t:TE):TT:=λσ H Q=>t σ H λx H1=>∃c,x=.bl c/\Q c H1
theorem sk{c:CmpOp}{t:TE}(h:PC X c a b t)(h1:behindInMarks c b=false:=by first|exact mf _ Qd Qd|rfl):PE X (.Compare a [c] [b] pos) t:=λpins s σ H Q I hw=>wpAny_Compare1 (h pins s σ H Q I hw) h1
theorem da{e:CmpOp}{t:TE}(h:PC X e a b t)(h1:behindInMarks e b=false:=by first|exact mf _ Qd Qd|rfl):PT X (.Compare a [e] [b] pos) (tB t):=by
 intro pins s σ H Q I hw;refine wpAny_isTrue_Compare1 (bx (h pins s σ H _ I hw) λv i h1=>bx h1 λu j h2=>bx h2 λc k⟨x,H1,f,g,q1⟩=>?_) h1;obtain⟨d,rfl,q⟩:=q1;cases g;exact wpAny_truthy_bool ⟨H1,f,q⟩
theorem bb{e:Expr}{t:TE}(h:PE X e t)(b:∀whole,isTrue e X.env whole=(do let v<-whole;standAt e.pos;holding [v] (truthy v)):=by intro _;rfl):PT X e (tB t):=by
 intro pins s σ H Q I hw;refine isTrue_plain (bx (h pins s σ H _ I hw) λv f⟨x,H1,a,c,q1⟩=>?_) (b _);obtain⟨d,rfl,q⟩:=q1;cases c;exact wpAny_truthy_bool ⟨H1,a,q⟩
variable{tA tB':TT}{rest:List Expr}
def CG(t u:TT):TT:=λσ H Q=>t σ H λc H1=>if c=true then u σ H1 Q else Q false H1
def DO(t u:TT):TT:=λσ H Q=>t σ H λc H1=>if c=true then Q true H1 else u σ H1 Q
def Cw(t:TT):TT:=λσ H Q=>t σ H λc H1=>Q (!c) H1
theorem vO(b:PT X a tA):PW X (.BoolOp .And [a] pos) tA:=by
 intro f pins s σ H Q I h;refine isTrue_and (bx (b pins s σ H Q I h) λc d e=>?_);cases c with
 |true=>exact isTrue_and_nil e
 |false=>exact e
theorem eN(b:PT X a tA):PW X (.BoolOp .Or [a] pos) tA:=by
 intro f pins s σ H Q I h;refine isTrue_or (bx (b pins s σ H Q I h) λc d e=>?_);cases c with
 |false=>exact isTrue_or_nil e
 |true=>exact e
theorem zQ(e:PT X a tA)(f:PW X (.BoolOp .And (b::rest) pos) tB'):PW X (.BoolOp .And (a::b::rest) pos) (CG tA tB'):=by
 intro i pins s σ H Q I h;refine isTrue_and (bx (e pins s σ H _ I h) λc g⟨H1,d,q1⟩=>?_);cases c with
 |true=>exact f i pins g σ H1 Q d q1
 |false=>exact⟨H1,d,q1⟩
theorem gE(e:PT X a tA)(f:PW X (.BoolOp .Or (b::rest) pos) tB'):PW X (.BoolOp .Or (a::b::rest) pos) (DO tA tB'):=by
 intro i pins s σ H Q I h;refine isTrue_or (bx (e pins s σ H _ I h) λc g⟨H1,d,q1⟩=>?_);cases c with
 |true=>exact⟨H1,d,q1⟩
 |false=>exact f i pins g σ H1 Q d q1
theorem d6(b:PT X a tA):PT X (.UnaryOp .Not a pos) (Cw tA):=by
 intro pins s σ H Q I h;exact isTrue_not (b pins s σ H (λc H1=>Q (!c) H1) I h)
def A_(ta tb:TE):TE:=λσ H Q=>ta σ H λx H1=>∃c,x=.bl c/\if c=true then tb σ H1 Q else Q (.bl false) H1
def Cv(ta tb:TE):TE:=λσ H Q=>ta σ H λx H1=>∃c,x=.bl c/\if c=true then Q (.bl true) H1 else tb σ H1 Q
def AZ(ta:TE):TE:=λσ H Q=>ta σ H λx H1=>∃c,x=.bl c/\Q (.bl (!c)) H1
theorem je{b}{t:TE}(h:PE X a t):PE X (.BoolOp b [a] pos) t:=λpins s σ H Q I hw=>BoolOp_one (h pins s σ H Q I hw)
theorem nA(e:PE X a ta)(f:PE X (.BoolOp .And (b::rest) pos) tb):PE X (.BoolOp .And (a::b::rest) pos) (A_ ta tb):=by
 intro pins s σ H Q I h;refine BoolOp_and (bx (e pins s σ H _ I h) λv i⟨x,H1,d,g,q1⟩=>?_);obtain⟨c,rfl,q1⟩:=q1;cases g;refine wpAny_truthy_bool ?_;cases c with
 |true=>exact f pins i σ H1 Q d q1
 |false=>exact⟨.bl false,H1,d,rfl,q1⟩
theorem yF(e:PE X a ta)(f:PE X (.BoolOp .Or (b::rest) pos) tb):PE X (.BoolOp .Or (a::b::rest) pos) (Cv ta tb):=by
 intro pins s σ H Q I h;refine BoolOp_or (bx (e pins s σ H _ I h) λv i⟨x,H1,d,g,q1⟩=>?_);obtain⟨c,rfl,q1⟩:=q1;cases g;refine wpAny_truthy_bool ?_;cases c with
 |false=>exact f pins i σ H1 Q d q1
 |true=>exact⟨.bl true,H1,d,rfl,q1⟩
theorem zV(d:PE X a ta):PE X (.UnaryOp .Not a pos) (AZ ta):=by
 intro pins s σ H Q I h;refine UnaryOp_ (bx (d pins s σ H _ I h) λv f⟨x,H1,b,e,q1⟩=>?_);obtain⟨c,rfl,q1⟩:=q1;cases e;exact not_of (wpAny_truthy_bool ⟨.bl (!c),H1,b,rfl,q1⟩)
def DP(t:TT)(ta tb:TE):TE:=λσ H Q=>t σ H λc H1=>if c=true then ta σ H1 Q else tb σ H1 Q
theorem fm{c:Expr}(j:PT X c tA)(g:PE X a ta)(i:PE X b tb):PE X (.IfExp c a b pos) (DP tA ta tb):=by
 intro pins s σ H Q I h;refine wpAny_IfExp (bx (j pins s σ H _ I h) λd f⟨H1,e,q1⟩=>?_);cases d with
 |true=>exact g pins f σ H1 Q e q1
 |false=>exact i pins f σ H1 Q e q1
end
def bp(K:PySem.W.Frag)(H:Hp)(a:Addr)(xs:List V):Prop:=
 Rd H a (.lst xs)\/
  ∃(o:Obj)(b:Array Value)(n:Nat),K.lookup a=some o/\o.cls=.type "list"/\o.dict=none/\o.data=.seq b n/\b.size<=sizeLine/\bc xs b.toList
def bj(K:PySem.W.Frag)(H:Hp)(a:Addr)(xs:List V):Prop:=
 Rd H a (.tup xs)\/
  ∃(o:Obj)(b:Array Value)(n:Nat),K.lookup a=some o/\o.cls=.type "tuple"/\o.data=.seq b n/\b.size<=sizeLine/\bc xs b.toList
def Dd:Value->Option V
 |.none=>some .non
 |.bool b=>some (.bl b)
 |.int i _=>some (.int i)
 |.str x _=>some (.str x)
 |.bytes b _=>some (.byt b)
 |.float b _=>some (.flt b)
 |.ref a=>some (.ref a)
 |.type n=>some (.ty n)
 |_=>none
theorem aN.abs{x:V}{u:Value}(r:aN x u):Dd u=some x:=by
 cases x with
 |non=>cases r;rfl
 |bl _=>cases r;rfl
 |int _=>obtain⟨t,rfl⟩:=r;rfl
 |str _=>obtain⟨t,rfl⟩:=r;rfl
 |byt _=>obtain⟨t,rfl⟩:=r;rfl
 |flt _=>obtain⟨t,rfl⟩:=r;rfl
 |ref _=>cases r;rfl
 |ty _=>cases r;rfl
theorem aN.inj{x y:V}{u:Value}(r:aN x u)(q:aN y u):x=y:=Option.some.inj (r.abs.symm.trans q.abs)
theorem bc.inj:∀{xs ys:List V}{us:List Value},bc xs us->bc ys us->xs=ys
 |_,_,_,.nil,.nil=>rfl
 |_,_,_,.cons r t,.cons a t'=>by rw[r.inj a,bc.inj t t']
section
variable{X:Cx}{pins:List (Addr×Obj)}{σ:St}{H:Hp}{s:Shared}{a:Addr}{xs ys:List V}
theorem bp.of{K:PySem.W.Frag}(h:H a=some (.lst xs)):bp K H a xs:=.inl (.inl h)
theorem bj.of{K:PySem.W.Frag}(h:H a=some (.tup xs)):bj K H a xs:=.inl (.inl h)
theorem Inv.list(I:Inv X pins σ H s)(h:bp X.K H a xs):∃b:List Value,bc xs b/\PlainL s.heap a b.toArray/\xs.length<=sizeLine:=by
 rcases h with h|⟨o,b,n,d,c,hd,f,g,r⟩
 ·obtain⟨z,b,n,r,e⟩:=h.ok I.hok;exact⟨b,r,⟨_,n,e,rfl,rfl,rfl⟩,z⟩
 ·refine⟨b.toList,r,⟨o,n,I.kIn a o d,c,hd,by simpa using f⟩,?_⟩;have e:=r.length;simp only[Array.length_toList]at e;omega
theorem Inv.tuple(I:Inv X pins σ H s)(h:bj X.K H a xs):∃b:List Value,bc xs b/\IsTup s.heap a b.toArray/\xs.length<=sizeLine:=by
 rcases h with h|⟨o,b,n,d,c,f,g,r⟩
 ·obtain⟨z,b,r,p⟩:=h.ok I.hok;exact⟨b,r,p,z⟩
 ·refine⟨b.toList,r,⟨o,I.kIn a o d,c,n,by simpa using f⟩,?_⟩;have e:=r.length;simp only[Array.length_toList]at e;omega
theorem Inv.list_inj(I:Inv X pins σ H s)(h:bp X.K H a xs)(h':bp X.K H a ys):xs=ys:=by
 obtain⟨b,r,⟨o,n,e,_,_,d⟩,_⟩:=I.list h;obtain⟨its',f,⟨o',g,c,_,_,d'⟩,_⟩:=I.list h';rw[e]at c;cases c;rw[d]at d';injection d' with d1 _
 have:b=its':=by simpa using congrArg Array.toList d1
 subst this;exact r.inj f
theorem Inv.tuple_inj(I:Inv X pins σ H s)(h:bj X.K H a xs)(h':bj X.K H a ys):xs=ys:=by
 obtain⟨b,r,⟨o,e,_,n,d⟩,_⟩:=I.tuple h;obtain⟨its',f,⟨o',c,_,g,d'⟩,_⟩:=I.tuple h';rw[e]at c;cases c;rw[d]at d';injection d' with d1 _
 have:b=its':=by simpa using congrArg Array.toList d1
 subst this;exact r.inj f
end
abbrev Cx.wish(X:Cx)(E:Value->Shared->Prop):Cx:={X with xe:=E}
abbrev Cx.nox(X:Cx):Cx:=X.wish λ_ _=>False
theorem Cx.Ok.wish{X:Cx}(ok:X.Ok)(E:Value->Shared->Prop):(X.wish E).Ok :=
 ⟨ok.mod,ok.kind,ok.glob,ok.blt,ok.above,ok.inj,ok.has,ok.cab,ok.hd,ok.frames,ok.stk,ok.exf,ok.bs,ok.bsz,ok.noex,ok.exfs,ok.funs,ok.frf⟩
theorem Cx.Ok.unwish{X:Cx}{E:Value->Shared->Prop}(ok:(X.wish E).Ok):X.Ok:=
 ⟨ok.mod,ok.kind,ok.glob,ok.blt,ok.above,ok.inj,ok.has,ok.cab,ok.hd,ok.frames,ok.stk,ok.exf,ok.bs,ok.bsz,ok.noex,ok.exfs,ok.funs,ok.frf⟩
section
variable{X:Cx}{pins:List (Addr×Obj)}{σ:St}{H:Hp}{s:Shared}{E:Value->Shared->Prop}
theorem Inv.wish(I:Inv X pins σ H s)(E:Value->Shared->Prop):Inv (X.wish E) pins σ H s:=⟨I.ok.wish E,I.os,I.bare,I.base,I.loc,I.cell,I.free,I.freeC,I.pin,I.hok,I.len⟩
theorem Inv.unwish(I:Inv (X.wish E) pins σ H s):Inv X pins σ H s:=⟨I.ok.unwish,I.os,I.bare,I.base,I.loc,I.cell,I.free,I.freeC,I.pin,I.hok,I.len⟩
theorem SP.unwish{D:jT}{f:Flow}{s':Shared}(h:SP (X.wish E) pins D f s'):SP X pins D f s':=by
 cases f with
 |next=>obtain⟨a,H',I,q⟩:=h;exact⟨a,H',I.unwish,q⟩
 |brk=>obtain⟨a,H',I,q⟩:=h;exact⟨a,H',I.unwish,q⟩
 |cont=>obtain⟨a,H',I,q⟩:=h;exact⟨a,H',I.unwish,q⟩
 |ret u=>obtain⟨v,a,H',I,r,q⟩:=h;exact⟨v,a,H',I.unwish,r,q⟩
theorem PSs.nox{st:List Stmt}{t:TS}(h:PSs X.nox st t):PSs X st t:=λpins s σ H D I hw=>
 wpAny_mono (h pins s σ H D (I.wish _) hw) (λ_ _ q=>q.unwish) λ_ _ z=>False.elim z
end
section
variable{X:Cx}{st:Stmt}{rest:List Stmt}{t u:TS}{e:Expr}{te:TE}{pos:Pos}
def A1:TS:=λD σ H=>D.nx σ H
def aV(t u:TS):TS:=λD σ H=>t {D with nx:=u D} σ H
theorem au:PSs X [] A1:=λ_ _ σ H _ I h=>wpAny_execs_nil ⟨σ,H,I,h⟩
theorem ae(h1:PS X st t)(h2:PSs X rest u):PSs X (st::rest) (aV t u):=by
 intro pins s σ H D I h;refine wpAny_execs_cons (bx (h1 pins s σ H {D with nx:=u D} I h) λf c q=>?_);cases f with
 |next=>
  obtain⟨a,H',b,q⟩:=q;exact h2 pins c a H' D b q
 |ret v=>exact q
 |brk=>exact q
 |cont=>exact q
theorem ag(h1:PS X st t):PSs X [st] t:=by
 intro pins s σ H D I h;refine wpAny_execs_cons (bx (h1 pins s σ H D I h) λf a q=>?_);cases f with
 |next=>exact wpAny_execs_nil q
 |ret v=>exact q
 |brk=>exact q
 |cont=>exact q
theorem Inv.quiet{pins:List (Addr×Obj)}{σ:St}{H:Hp}{s:Shared}(I:Inv X pins σ H s):interactive X.env=false:=by simp[interactive,I.ok.kind]
def xY(te:TE):TS:=λD σ H=>te σ H λ_ H1=>D.nx σ H1
theorem aG(b:PE X e te)(c:swapsWith e none pos.line X.env=pure false:=by rfl):PS X (.Expr e pos) (xY te):=by
 intro pins s σ H D I h;exact wpAny_Expr_any (bx (b pins s σ H _ I h) λv f⟨x,H1,a,d,q1⟩=>⟨σ,H1,a,q1⟩) I.quiet c
def Ct(te:TE):TS:=λD σ H=>te σ H D.rt
theorem av(b:PE X e te):PS X (.Return (some e) pos) (Ct te):=by
 intro pins s σ H D I h;exact wpAny_Return_some (bx (b pins s σ H _ I h) λv d⟨x,H1,a,c,q1⟩=>⟨x,σ,H1,a,c,q1⟩)
def Cz(c:TT)(t u:TS):TS:=λD σ H=>c σ H λb H1=>if b=true then t D σ H1 else u D σ H1
theorem aH{c:Expr}{a b:List Stmt}{tc:TT}(j:PT X c tc)(g:PSs X a t)(i:PSs X b u):PS X (.If c a b pos) (Cz tc t u):=by
 intro pins s σ H D I h;refine wpAny_If (bx (j pins s σ H _ I h) λd f⟨H1,e,q1⟩=>?_);cases d with
 |true=>exact g pins f σ H1 D e q1
 |false=>exact i pins f σ H1 D e q1
def qS:TS:=λ_ _ _=>False
theorem cn:PS X st qS:=λ_ _ _ _ _ _ h=>h.elim
theorem dc{a:List Stmt}:PSs X a qS:=λ_ _ _ _ _ _ h=>h.elim
end
abbrev TG:=V->St->Hp->(St->Hp->Prop)->Prop
abbrev AC:=List V->St->Hp->(St->Hp->Prop)->Prop
def PG(X:Cx)(a:Expr)(t:TG):Prop:=
 ∀(pins:List (Addr×Obj))(s:Shared)(σ:St)(H:Hp)(v:V)(u:Value)(Q:St->Hp->Prop),Inv X pins σ H s->aN v u->t v σ H Q->
  wpAny (model X.prog X.w) X.A (assign a X.env u) (λ_ s'=>∃b H',Inv X pins b H' s'/\Q b H') X.xe s
def Co(X:Cx)(ts:List Expr)(t:AC):Prop:=
 ∀(pins:List (Addr×Obj))(s:Shared)(σ:St)(H:Hp)(vs:List V)(us:List Value)(Q:St->Hp->Prop),Inv X pins σ H s->bc vs us->t vs σ H Q->
  wpAny (model X.prog X.w) X.A (assignInOrder ((assignEach ts X.env).map (·.2)) us) (λ_ s'=>∃a H',Inv X pins a H' s'/\Q a H') X.xe s
section
variable{X:Cx}{pos:Pos}
def eV(i:Nat):TG:=λv σ H Q=>Q (σ.set i (some v)) H
theorem aO{i:Nat}{x:Str}(b:X.N.Nodup)(hi:X.N[i]?=some x)(d:Cp X.env.scope x)(c:X.fn x=true\/X.env.scope.names.lookup x=some .local:=by first|exact .inl rfl|exact .inr rfl|assumption):PG X (.Name x pos) (eV i):=by
 intro pins s σ H v u Q I r h;exact wpAny_assign_Name (iS I b hi d r (λs' a=>⟨_,H,a,h⟩) c)
def CW:AC:=λvs σ H Q=>vs=[]/\Q σ H
def BK(t:TG)(u:AC):AC:=λvs σ H Q=>∃v r,vs=v::r/\t v σ H λa H'=>u r a H' Q
theorem vV:Co X [] CW:=by
 intro pins s σ H vs us Q I r h;obtain⟨e,h⟩:=h;subst e;cases r;exact assignInOrder_nil ⟨σ,H,I,h⟩
theorem jc{e:Expr}{es:List Expr}{t:TG}{u:AC}(h1:PG X e t)(h2:Co X es u)
  (d:(assignEach (e::es) X.env).map (·.2)=assign e X.env::(assignEach es X.env).map (·.2):=by rfl):Co X (e::es) (BK t u):=by
 intro pins s σ H vs us Q I r h;obtain⟨v,i,c,h⟩:=h;subst c;cases r with
 |cons r f=>
  rw[d];refine assignInOrder_cons (bx (h1 pins s σ H _ _ _ I r h) λ_ g⟨a,H1,b,q1⟩=>?_);exact h2 pins g a H1 _ _ Q b f q1
def CV(K:PySem.W.Frag)(n:Nat)(t:AC):TG:=λv σ H Q=>∃a xs,v=.ref a/\bj K H a xs/\xs.length=n/\t xs σ H Q
theorem zT{es:List Expr}{k:Nat}{t:AC}{n:Nat}(i:X.calm=true)(h:Co X es t)
  (hn:(assignEach es X.env).length=n:=by rfl)(c:(assignEach es X.env).findIdx? (·.1)=none:=by rfl):PG X (.Tuple es k pos) (CV X.K n t):=by
 intro pins s σ H v u Q I r hw;obtain⟨a,xs,g,l,j,hw⟩:=hw;subst g;cases r;obtain⟨q,d,m,w⟩:=I.tuple l;refine assign_Tuple_tuple (I.ok.hd i) m (by simp[hn,<-j,d.length]) c λh' p=>?_;have f:Inv X pins σ H {s with heap:=h'}:=I.kept (t':=s.toks) λb o e=>p b o (Nat.ne_of_lt (Heap.lt_size e)) e;exact h pins _ σ H xs _ Q f (by simpa using d) hw
def A9(te:TE)(g:TG):TS:=λD σ H=>te σ H λx H1=>g x σ H1 D.nx
theorem aF{i:Nat}{x:Str}{e:Expr}{te:TE}{pos':Pos}(c:X.N.Nodup)(hi:X.N[i]?=some x)(j:Cp X.env.scope x)(d:PE X e te)(g:swapsWith e (some (.Name x pos')) pos.line X.env=pure false:=by rfl)(f:X.fn x=true\/X.env.scope.names.lookup x=some .local:=by first|exact .inl rfl|exact .inr rfl|assumption):
  PS X (.Assign [.Name x pos'] e pos) (A9 te (eV i)):=by
 intro pins s σ H D I h;refine wpAny_Assign_Name (bx (d pins s σ H _ I h) λv l⟨y,H1,a,k,q1⟩=>?_) g;exact iS a c hi j k (λm b=>⟨_,H1,b,q1⟩) f
end
section
variable{X:Cx}{pos:Pos}
def yZ(c:TT)(tb:TS):TS:=λD σ H=>∃W:Nat->St->Hp->Prop,(∃m,W m σ H)/\∀m σ H,W m σ H->
 c σ H λb H1=>if b=true then∃N:St->Hp->Prop,(∀a H',N a H'->∃d,d<m/\W d a H')/\tb {D with nx:=N,ct:=N,bk:=D.nx} σ H1 else D.nx σ H1
theorem rX{c:Expr}{e:List Stmt}{tc:TT}{tb:TS}(u:PassesOwn (model X.prog X.w) X.A X.env X.xe)(y:PT X c tc)(x:PSs X e tb):PS X (.While c e [] pos) (yZ tc tb):=by
 intro pins s σ H D I h;obtain⟨W,⟨m0,B⟩,i⟩:=h;refine wpAny_While (codeAny_whileLoop (λn s'=>∃j H',Inv X pins j H' s'/\W n j H') ?_ m0 ⟨σ,H,I,B⟩);rintro n z⟨d,H1,w,C⟩;refine wpAny_passesOwn u (bx (y pins z d H1 _ w (i n d H1 C)) λb A⟨H2,q,q2⟩=>?_);cases b with
 |true=>
  obtain⟨N,t,q2⟩:=q2;rw[if_pos rfl];refine wpAny_passesOwn u (bx (x pins A d H2 _ q q2) λf E q3=>?_);cases f with
  |next=>
   obtain⟨a,g,k,o⟩:=q3;obtain⟨m,l,p⟩:=t a g o;exact⟨m,l,a,g,k,p⟩
  |cont=>
   obtain⟨a,g,k,o⟩:=q3;obtain⟨m,l,p⟩:=t a g o;exact⟨m,l,a,g,k,p⟩
  |brk=>exact q3
  |ret v=>exact q3
 |false=>
  rw[if_neg Bool.false_ne_true];exact wpAny_execs_nil ⟨d,H2,q,q2⟩
end
structure It where
 go:Nat->Hp->Prop
 yld:Nat->Hp->V->Hp->Prop
 stop:Nat->Hp->Prop
def ip(X:Cx)(pins:List (Addr×Obj))(H:Hp)(b:Addr):Prop:=
 H b=none/\b≠X.env.locals/\b∉X.fs/\(b∈X.ex\/X.s₀.heap.objs.size<=b)/\(∀x c,X.env.cells.lookup x=some c->c≠b)/\∀p∈X.pn++pins,p.1≠b
theorem Inv.fpOk{X:Cx}{pins:List (Addr×Obj)}{σ:St}{H H':Hp}{s:Shared}{b:Addr}(I:Inv X pins σ H s)(a:s.heap.objs.size<=b)(hn:H' b=none):ip X pins H' b:=by
 refine⟨hn,Nat.ne_of_gt (Nat.lt_of_lt_of_le I.lt a),I.nofs a,.inr (Nat.le_trans I.sz a),λx c e z=>?_,λp d z=>?_⟩
 ·obtain⟨v,q⟩:=I.cell x c e;exact absurd (Nat.lt_of_lt_of_le q.lt (by rw[z];exact a)) (Nat.lt_irrefl _)
 ·exact absurd (Nat.lt_of_lt_of_le (Heap.lt_size (I.pin p d).1) (by rw[z];exact a)) (Nat.lt_irrefl _)
structure oh(P:Program)(w:World)(K:PySem.W.Frag)(tg:Expr)(J:It)(fp:List Addr)(it:Addr)(tn:Nat->Heap->Prop):Prop where
 mem:it∈fp
 obj:∀i h,tn i h->∀b∈fp,∃o,h.get? b=some o/\∀v,o.data≠ .cell v
 keep:∀i h h',tn i h->(∀b∈fp,∀o,h.get? b=some o->h'.get? b=some o)->tn i h'
 item:∀(X:Cx),X.prog=P->X.w=w->X.K=K->X.calm=true->∀(i:Nat)(pins:List (Addr×Obj))(s:Shared)(σ:St)(H:Hp)(E:Value->Shared->Prop),Inv X pins σ H s->(∀b∈fp,ip X pins H b)->tn i s.heap->J.go i H->
  wpAny (model P w) X.A (pyNext (.ref it)) (λr s1=>∃u,r=some u/\
   wpAny (model P w) X.A (letOwnedTupleGo tg (.ref it) u) (λ_ s2=>∃x H',Inv X pins σ H' s2/\aN x u/\J.yld i H x H'/\tn (i+1) s2.heap/\∀b∈fp,H' b=none) E s1) E s
 done:∀(X:Cx),X.prog=P->X.w=w->X.K=K->X.calm=true->∀(i:Nat)(pins:List (Addr×Obj))(s:Shared)(σ:St)(H:Hp)(E:Value->Shared->Prop),Inv X pins σ H s->(∀b∈fp,ip X pins H b)->tn i s.heap->J.stop i H->
  wpAny (model P w) X.A (pyNext (.ref it)) (λr s1=>r=none/\Inv X pins σ H s1) E s
 self:∀(A:Around)(i:Nat)(s:Shared)(Q:Value->Shared->Prop)(E:Value->Shared->Prop),tn i s.heap->Q (.ref it) s->wpAny (model P w) A (pyIter (.ref it)) Q E s
abbrev TI:=St->Hp->(It->Hp->Prop)->Prop
def Dh(X:Cx)(pins:List (Addr×Obj))(σ:St)(tg:Expr)(R:It->Hp->Prop)(a:Value)(c:Shared):Prop:=
 ∃(it:Addr)(fp:List Addr)(d:Nat->Heap->Prop)(J:It)(H':Hp),a=.ref it/\Inv X pins σ H' c/\oh X.prog X.w X.K tg J fp it d/\d 0 c.heap/\(∀b∈fp,ip X pins H' b)/\R J H'
def PI(X:Cx)(tg iter:Expr)(b:TI):Prop:=
 ∀(pins:List (Addr×Obj))(s:Shared)(σ:St)(H:Hp)(R:It->Hp->Prop),Inv X pins σ H s->b σ H R->
  wpAny (model X.prog X.w) X.A (eval iter X.env) (λv a=>wpAny (model X.prog X.w) X.A (pyIter v) (Dh X pins σ tg R) X.xe a) X.xe s
theorem j9{M:Model}{A:Around}{E:Value->Shared->Prop}{s:Shared}{tg:Expr}{it:Addr}{u:Value}{o:Obj}{n:String}{vs:Array Value}{Q:Unit->Shared->Prop}(c:s.heap.get? it=some o)(b:o.cls=.type n)(hd:o.data=.fields vs)
    (hn:["enumerate","zip","dict_itemiterator","dict_reverseitemiterator","odict_iterator","itertools.zip_longest","itertools.pairwise"].contains n=false)(a:Q () s):wpAny M A (letOwnedTupleGo tg (.ref it) u) Q E s:=by
  unfold letOwnedTupleGo;cases tg<;>first
    |exact wpAny_pure a
    |(cases u<;>first
        |exact wpAny_pure a
        | (refine wpAny_bind (wpAny_load c ?_)
           rw[b,hd];show wpAny M A (if(["enumerate","zip","dict_itemiterator","dict_reverseitemiterator","odict_iterator","itertools.zip_longest","itertools.pairwise"].contains n&&vs[0]? ==some (rawInt _))=true then _ else _) Q E s;rw[if_neg (by intro h;rw[hn,Bool.false_and]at h;cases h)];exact wpAny_pure a))
def AS(K:PySem.W.Frag)(a:Addr):It:=
 ⟨λi H=>∃xs x,bp K H a xs/\xs[i]?=some x,λi H x H'=>H'=H/\∀xs,bp K H a xs->xs[i]?=some x,λi H=>∃xs,bp K H a xs/\xs.length<=i⟩
def AR(K:PySem.W.Frag)(a:Addr):It:=
 ⟨λi H=>∃xs x,bj K H a xs/\xs[i]?=some x,λi H x H'=>H'=H/\∀xs,bj K H a xs->xs[i]?=some x,λi H=>∃xs,bj K H a xs/\xs.length<=i⟩
def AK(lo:Int)(n:Nat):It:=⟨λi _=>i<n,λi H x H'=>H'=H/\x=.int (lo+i),λi _=>n<=i⟩
theorem pM{P:Program}{w:World}{K:PySem.W.Frag}{tg:Expr}(a it:Addr):oh P w K tg (AS K a) [it] it (λi h=>h.IsListIter it a i) where
 mem:=Qs
 obj:=λi h st b f=>by
  have e:b=it:=by simpa using f
  subst e;obtain⟨o,e,c,d⟩:=st;exact⟨o,e,λv z=>by rw[d]at z;cases z⟩
 keep:=λi h h' st k=>st.at λo e=>k it Qs o e
 item:=by
  intro X y hw t F i pins s σ H E I j st A;subst y hw t;obtain⟨xs,x,l,B⟩:=A;obtain⟨C,D,p,O⟩:=I.list l;obtain⟨u,M,Q⟩:=D.get B;obtain⟨f0,f1,L,m,n,q⟩:=j it Qs;refine wpAny_pyNext_list_item st p.isList (x:=u) (by simpa using M) λh' g R=>?_;have G:Inv X pins σ H {s with heap:=h'}:=I.turned (t':=s.toks) (λb o f e=>(R.2 b f).trans e) f0 f1 m n q;obtain⟨o,e,c,d⟩:=id g;exact⟨u,rfl,j9 (s:={s with heap:=h'}) e c d Qd ⟨x,H,G,Q,⟨rfl,λys N=>by rw[I.list_inj N l];exact B⟩,g,λb f=>(j b f).1⟩⟩
 done:=by
  intro X y hw t F i pins s σ H E I j st A;subst y hw t;obtain⟨xs,l,B⟩:=A;obtain⟨C,D,p,O⟩:=I.list l;obtain⟨f0,f1,L,m,n,q⟩:=j it Qs;have S:=D.length;exact wpAny_pyNext_list_end (I.ok.hd F) st p.isList (by simp;omega) λh' J=>⟨rfl,I.turned (t':=s.toks) (λb o f e=>J b o f e) f0 f1 m n q⟩
 self:=λ_ _ _ _ _ st h=>wpAny_pyIter_listiter st h
theorem mQ{P:Program}{w:World}{K:PySem.W.Frag}{tg:Expr}(a it:Addr):oh P w K tg (AR K a) [it] it (λi h=>h.IsTupleIter it a i) where
 mem:=Qs
 obj:=λi h st b f=>by
  have e:b=it:=by simpa using f
  subst e;obtain⟨o,e,c,d⟩:=st;exact⟨o,e,λv z=>by rw[d]at z;cases z⟩
 keep:=λi h h' st k=>st.at λo e=>k it Qs o e
 item:=by
  intro X A hw y F i pins s σ H E I l st B;subst A hw y;obtain⟨xs,x,m,C⟩:=B;obtain⟨g,D,p,O⟩:=I.tuple m;obtain⟨u,M,Q⟩:=D.get C;obtain⟨f0,f1,L,n,q,t⟩:=l it Qs;refine wpAny_pyNext_tuple_item st (show s.heap.IsTuple a g.toArray from p) (x:=u) (by simpa using M) λh' j R=>?_;have G:Inv X pins σ H {s with heap:=h'}:=I.turned (t':=s.toks) (λb o f e=>(R.2 b f).trans e) f0 f1 n q t;obtain⟨o,e,c,d⟩:=id j;exact⟨u,rfl,j9 (s:={s with heap:=h'}) e c d Qd ⟨x,H,G,Q,⟨rfl,λys N=>by rw[I.tuple_inj N m];exact C⟩,j,λb f=>(l b f).1⟩⟩
 done:=by
  intro X A hw y F i pins s σ H E I l st B;subst A hw y;obtain⟨xs,m,C⟩:=B;obtain⟨g,D,p,O⟩:=I.tuple m;obtain⟨f0,f1,L,n,q,t⟩:=l it Qs;have S:=D.length;exact wpAny_pyNext_tuple_end (I.ok.hd F) st (show s.heap.IsTuple a g.toArray from p) (by simp;omega) λh' J=>⟨rfl,I.turned (t':=s.toks) (λb o f e=>J b o f e) f0 f1 n q t⟩
 self:=λ_ _ _ _ _ st h=>wpAny_pyIter_tupleiter st h
theorem mR{P:Program}{w:World}{K:PySem.W.Frag}{tg:Expr}(it:Addr)(lo:Int)(n:Nat):oh P w K tg (AK lo n) [it] it (λi h=>IsRangeIter h it (lo+(i:Nat)*1) ((n:Int)-(i:Nat)) 1) where
 mem:=Qs
 obj:=λi h st b a=>by
  have e:b=it:=by simpa using a
  subst e;exact⟨_,st,λv z=>by
   have C:Data.fields _=Data.cell v:=z;cases C⟩
 keep:=λi h h' st k=>k it Qs _ st
 item:=by
  intro X m hw l p i pins s σ H E I d st q;subst m hw l;obtain⟨f0,f1,y,f,g,j⟩:=d it Qs;have W:=Walks.range (prog:=X.prog) (w:=X.w) (I.ok.hd p) it lo 1 n;refine W.item i s _ _ q st λv h' tk A c B=>?_;obtain⟨t,rfl⟩:=A;have u:Inv X pins σ H {s with heap:=h',toks:=tk}:=I.turned (λb o a e=>B b o (by simpa using a) e) f0 f1 f g j;refine⟨_,rfl,j9 (s:={s with heap:=h',toks:=tk}) (n:="range_iterator") c rfl rfl Qd ⟨.int (lo+i),H,u,⟨t,?_⟩,⟨rfl,rfl⟩,c,λb a=>(d b a).1⟩⟩;rw[Int.mul_one]
 done:=by
  intro X m hw l p i pins s σ H E I d st q;subst m hw l;obtain⟨f0,f1,y,f,g,j⟩:=d it Qs;exact wpAny_pyNext_range_end (I.ok.hd p) st (by have:n<=i:=q;omega) λh' x=>⟨rfl,I.turned (t':=s.toks) (λb o a e=>x b o a e) f0 f1 f g j⟩
 self:=λ_ _ _ _ _ st h=>wpAny_pyIter_rangeiter st h
section
variable{X:Cx}{tg:Expr}
def BE(K:PySem.W.Frag)(tl:TE):TI:=λσ H R=>tl σ H λx H1=>∃a,x=.ref a/\(∃xs,bp K H1 a xs)/\R (AS K a) H1
def CT(K:PySem.W.Frag)(tl:TE):TI:=λσ H R=>tl σ H λx H1=>∃a,x=.ref a/\(∃xs,bj K H1 a xs)/\R (AR K a) H1
theorem bD{l:Expr}{tl:TE}(g:PE X l tl):PI X tg l (BE X.K tl):=by
 intro pins s σ H R I h;refine bx (g pins s σ H _ I h) λv d⟨x,H1,c,k,q1⟩=>?_;obtain⟨a,e,⟨xs,i⟩,q⟩:=q1;subst e;cases k;obtain⟨j,n,p,m⟩:=c.list i;refine wpAny_pyIter_list p.isList ?_;refine⟨d.heap.objs.size,[d.heap.objs.size],_,_,H1,rfl,c.kept (t':=d.toks) λb o e=>Heap.get?_push_of_some _ e,pM a _,⟨_,Heap.get?_push_size _ rfl,rfl,rfl⟩,λb f=>?_,q⟩;have e:b=d.heap.objs.size:=by simpa using f
 subst e;exact c.fpOk (Nat.le_refl _) (c.hok.fresh (Nat.le_refl _))
theorem jb{l:Expr}{tl:TE}(i:PE X l tl):PI X tg l (CT X.K tl):=by
 intro pins s σ H R I h;refine bx (i pins s σ H _ I h) λv c⟨x,H1,d,k,q1⟩=>?_;obtain⟨a,e,⟨xs,j⟩,q⟩:=q1;subst e;cases k;obtain⟨f,n,p,m⟩:=d.tuple j;refine wpAny_pyIter_tuple (show c.heap.IsTuple a f.toArray from p) ?_;refine⟨c.heap.objs.size,[c.heap.objs.size],_,_,H1,rfl,d.kept (t':=c.toks) λb o e=>Heap.get?_push_of_some _ e,mQ a _,⟨_,Heap.get?_push_size _ rfl,rfl,rfl⟩,λb g=>?_,q⟩;have e:b=c.heap.objs.size:=by simpa using g
 subst e;exact d.fpOk (Nat.le_refl _) (d.hok.fresh (Nat.le_refl _))
theorem rT{pins:List (Addr×Obj)}{σ:St}{H:Hp}{s:Shared}{R:It->Hp->Prop}{E:Value->Shared->Prop}{lo hi:Int}{t u v:Tok}{tk:Nat}(I:Inv X pins σ H s)(h1:-(2^62)<=lo)(h2:lo<2^62)(f:-(2^62)<=hi)(g:hi<2^62)
  (q:R (AK lo (hi-lo).toNat) H):wpAny (model X.prog X.w) X.A (pyIter (.ref s.heap.objs.size)) (Dh X pins σ tg R) E {s with heap:=s.heap.push {cls:=.type "range",data:=.fields #[.int lo t,.int hi u,.int 1 v]},toks:=tk}:=by
 refine wpAny_pyIter_range (IsRange.new ..) (small_one h1 h2 f g) ?_;have a:Inv X pins σ H {s with heap:=s.heap.push {cls:=.type "range",data:=.fields #[.int lo t,.int hi u,.int 1 v]},toks:=tk}:=I.kept λb o e=>Heap.get?_push_of_some _ e;refine⟨(s.heap.push {cls:=.type "range",data:=.fields #[.int lo t,.int hi u,.int 1 v]}).objs.size,[(s.heap.push {cls:=.type "range",data:=.fields #[.int lo t,.int hi u,.int 1 v]}).objs.size],_,_,H,rfl,
  a.kept (t':=tk) λb o e=>Heap.get?_push_of_some _ e,mR _ lo (hi-lo).toNat,?_,λb h=>?_,q⟩
 ·have c:lo+((0:Nat):Int)*1=lo:=Qs;have d:(((hi-lo).toNat:Nat):Int)-((0:Nat):Int)=Builtin.Range.rangeSize lo hi 1:=by rw[rangeSize_one];split<;>omega
  show IsRangeIter _ _ (lo+((0:Nat):Int)*1) ((((hi-lo).toNat:Nat):Int)-((0:Nat):Int)) 1;rw[c,d];exact Heap.get?_push_size _ rfl
 ·have e:b=(s.heap.push {cls:=.type "range",data:=.fields #[.int lo t,.int hi u,.int 1 v]}).objs.size:=by simpa using h
  subst e;exact a.fpOk (Nat.le_refl _) (a.hok.fresh (Nat.le_refl _))
def BC(ta:TA):TI:=λσ H R=>ta σ H λvs H1=>∃j:Int,vs=[.int j]/\-(2^62)<=j/\j<2^62/\R (AK 0 j.toNat) H1
theorem fH{a:Expr}{ta:TA}{p pos:Pos}(d:Gl X "range")(f:X.mg "range"=none)(c:PA X [a] ta)(g:starEach [a] X.env=[(false,eval a X.env)]:=by rfl):PI X tg (.Call (.Name "range" p) [a] [] pos) (BC ta):=by
 intro pins s σ H R I h;refine Call_ (h9 I d f boot_range (PyProof.Rows.callWith_type1 (bx (c pos pins s σ H _ I h) λus l⟨vs,H1,b,i,q1⟩=>?_) g rfl));obtain⟨j,e,q1,q2,q⟩:=q1;subst e;cases i with
 |cons r k=>
  cases k;obtain⟨t,rfl⟩:=r;exact call_range_1 (rT b Qo Qo q1 q2 (by simpa using q))
def CA(d:TI)(g:TG)(tb:TS):TS:=λD σ H=>d σ H λJ H1=>∃W:Nat->Nat->St->Hp->Prop,(∃m,W 0 m σ H1)/\∀i m σ H,W i m σ H->
 (J.stop i H/\D.nx σ H)\/(J.go i H/\∃N:St->Hp->Prop,(∀a H',N a H'->∃c,c<m/\W (i+1) c a H')/\∀x H',J.yld i H x H'->g x σ H' λb H2=>tb {D with nx:=N,ct:=N,bk:=D.nx} b H2)
def ja(fp:List Addr)(h:Heap):List (Addr×Obj):=fp.filterMap λb=>(h.get? b).map λo=>(b,o)
theorem eO{fp:List Addr}{h:Heap}{b:Addr}{o:Obj}(a:b∈fp)(e:h.get? b=some o):(b,o)∈ja fp h:=List.mem_filterMap.mpr ⟨b,a,by rw[e];rfl⟩
theorem qm{fp:List Addr}{h:Heap}{p:Addr×Obj}(d:p∈ja fp h):p.1∈fp/\h.get? p.1=some p.2:=by
 obtain⟨b,c,e⟩:=List.mem_filterMap.mp d;cases q:h.get? b with
 |none=>rw[q]at e;cases e
 |some o=>
  rw[q]at e;have a:(b,o)=p:=Option.some.inj e;subst a;exact⟨c,q⟩
theorem Inv.pinned{pins:List (Addr×Obj)}{σ:St}{H:Hp}{s:Shared}{fp:List Addr}(I:Inv X pins σ H s)(g:∀b∈fp,ip X pins H b)(h:∀b∈fp,∃o,s.heap.get? b=some o/\∀v,o.data≠ .cell v):Inv X (pins++ja fp s.heap) σ H s:=
 I.pins_of λp i=>(List.mem_append.mp i).elim (λz=>I.pin p (List.mem_append_right _ z)) λz=>by
  obtain⟨c,e⟩:=qm z;obtain⟨f0,f1,f,_⟩:=g p.1 c;obtain⟨o,a,d⟩:=h p.1 c;rw[e]at a;cases a;exact⟨e,f0,f1,f,d⟩
theorem Inv.unpinned{pins pl:List (Addr×Obj)}{σ:St}{H:Hp}{s:Shared}(I:Inv X (pins++pl) σ H s):Inv X pins σ H s:=I.pins_of λp a=>I.pin p (List.mem_append_right _ (List.mem_append_left _ a))
theorem cO{iter:Expr}{w:List Stmt}{wi:TI}{g:TG}{tb:TS}{pos:Pos}(B:PassesOwn (model X.prog X.w) X.A X.env X.xe)(Y:X.calm=true)(hi:PI X tg iter wi)(hg:PG X tg g)(l:PSs X w tb)
  (hs:∀x,foldedSetIterable iter X.env x=pure x:=by intro _;rfl):PS X (.For tg iter w [] pos) (CA wi g tb):=by
 intro pins s σ H D I h;refine wpAny_For (bx (hi pins s σ H _ I h) λv s1 h1=>bx h1 λxa s2 h2=>?_) hs;obtain⟨it,fp,tn,J,H2,e,I2,T,Q,V,W,⟨m0,w0⟩,G⟩:=h2;subst e;have p:∀{H':Hp},(∀b∈fp,H' b=none)->∀b∈fp,ip X pins H' b:=λhn b l=>⟨hn b l,(V b l).2⟩;refine codeAny_forLoop_any (λn s'=>∃i q H',Inv X pins q H' s'/\tn i s'.heap/\(∀b∈fp,H' b=none)/\W i n q H') ?_ m0 ⟨0,σ,H2,I2,Q,λb l=>(V b l).1,w0⟩;rintro n Z⟨i,t,K,U,E,A,w3⟩;rcases G i n t K w3 with⟨stop,qn⟩|⟨go,N,hN,F⟩
 ·refine wpAny_passesOwn B (bx (T.done X rfl rfl rfl Y i pins Z t K X.xe U (p A) E stop) λr s4⟨O,I4⟩=>?_);subst O;exact wpAny_execs_nil ⟨t,K,I4,qn⟩
 ·refine wpAny_passesOwn B (bx (T.item X rfl rfl rfl Y i pins Z t K X.xe U (p A) E go) λr s4⟨u,O,h4⟩=>?_);subst O;refine wpAny_passesOwn B (bx h4 λ_ s5⟨x,S,I5,r5,y5,z,M⟩=>?_);have L:=I5.pinned (p M) (T.obj _ _ z);refine wpAny_passesOwn B (bx (hg _ s5 t S x u _ L r5 (F x S y5)) λ_ s6⟨R,H6,I6,q6⟩=>?_);refine wpAny_passesOwn B (bx (l _ s6 R H6 _ I6 q6) λf P y=>?_);have k:∀{a:St}{c:Hp},Inv X (pins++ja fp s5.heap) a c P->N a c->∃m,m<n/\∃i q H',Inv X pins q H' P/\tn i P.heap/\(∀b∈fp,H' b=none)/\W i m q H':=λ{a c}j C=>by
   obtain⟨m',hm,w7⟩:=hN a c C;refine⟨m',hm,i+1,a,c,j.unpinned,T.keep _ _ _ z λb l o e=>(j.pin (b,o) (List.mem_append_right _ (List.mem_append_right _ (eO l e)))).1,λb l=>?_,w7⟩;obtain⟨o,e,d⟩:=T.obj _ _ z b l;exact(j.pin (b,o) (List.mem_append_right _ (List.mem_append_right _ (eO l e)))).2.1
  cases f with
  |next=>obtain⟨a,c,j,C⟩:=y;exact k j C
  |cont=>obtain⟨a,c,j,C⟩:=y;exact k j C
  |brk=>obtain⟨a,c,j,y⟩:=y;exact⟨a,c,j.unpinned,y⟩
  |ret v=>obtain⟨x7,a,c,j,r7,y⟩:=y;exact⟨x7,a,c,j.unpinned,r7,y⟩
end
theorem cC{K:PySem.W.Frag}{a:Addr}{xs:List V}{g:TG}{tb:TS}{D:jT}{σ:St}{H:Hp}(b:Nat->St->Hp->Prop)(h0:b 0 σ H)(j:∀i σ H,i<=xs.length->b i σ H->bp K H a xs)
  (k:∀i x σ H,xs[i]?=some x->b i σ H->g x σ H λd H2=>tb {D with nx:=b (i+1),ct:=b (i+1),bk:=D.nx} d H2)(hd:∀σ H,b xs.length σ H->D.nx σ H):
  ∃W:Nat->Nat->St->Hp->Prop,(∃m,W 0 m σ H)/\∀i m σ H,W i m σ H->
   ((AS K a).stop i H/\D.nx σ H)\/((AS K a).go i H/\∃N:St->Hp->Prop,(∀c H',N c H'->∃h,h<m/\W (i+1) h c H')/\∀x H',(AS K a).yld i H x H'->g x σ H' λd H2=>tb {D with nx:=N,ct:=N,bk:=D.nx} d H2):=by
 refine⟨λi m σ H=>m=xs.length-i/\i<=xs.length/\b i σ H,⟨xs.length,Qs,Nat.zero_le _,h0⟩,?_⟩;rintro i m σ H⟨rfl,hi,p⟩;have q:=j i σ H hi p;by_cases f:i<xs.length
 ·refine .inr ⟨⟨xs,xs[i],q,by simp[f]⟩,b (i+1),λc H' l=>⟨xs.length-(i+1),Qo,rfl,f,l⟩,λx H' y=>?_⟩;obtain⟨e,y⟩:=y;subst e;exact k i x σ _ (y xs q) p
 ·have e:i=xs.length:=Qo;subst e;exact .inl ⟨⟨xs,q,Nat.le_refl _⟩,hd σ H p⟩
theorem pw{K:PySem.W.Frag}{a:Addr}{xs:List V}{g:TG}{tb:TS}{D:jT}{σ:St}{H:Hp}(b:Nat->St->Hp->Prop)(h0:b 0 σ H)(j:∀i σ H,i<=xs.length->b i σ H->bj K H a xs)
  (k:∀i x σ H,xs[i]?=some x->b i σ H->g x σ H λd H2=>tb {D with nx:=b (i+1),ct:=b (i+1),bk:=D.nx} d H2)(hd:∀σ H,b xs.length σ H->D.nx σ H):
  ∃W:Nat->Nat->St->Hp->Prop,(∃m,W 0 m σ H)/\∀i m σ H,W i m σ H->
   ((AR K a).stop i H/\D.nx σ H)\/((AR K a).go i H/\∃N:St->Hp->Prop,(∀c H',N c H'->∃h,h<m/\W (i+1) h c H')/\∀x H',(AR K a).yld i H x H'->g x σ H' λd H2=>tb {D with nx:=N,ct:=N,bk:=D.nx} d H2):=by
 refine⟨λi m σ H=>m=xs.length-i/\i<=xs.length/\b i σ H,⟨xs.length,Qs,Nat.zero_le _,h0⟩,?_⟩;rintro i m σ H⟨rfl,hi,p⟩;have q:=j i σ H hi p;by_cases f:i<xs.length
 ·refine .inr ⟨⟨xs,xs[i],q,by simp[f]⟩,b (i+1),λc H' l=>⟨xs.length-(i+1),Qo,rfl,f,l⟩,λx H' y=>?_⟩;obtain⟨e,y⟩:=y;subst e;exact k i x σ _ (y xs q) p
 ·have e:i=xs.length:=Qo;subst e;exact .inl ⟨⟨xs,q,Nat.le_refl _⟩,hd σ H p⟩
theorem ka{lo:Int}{n:Nat}{g:TG}{tb:TS}{D:jT}{σ:St}{H:Hp}(a:Nat->St->Hp->Prop)(h0:a 0 σ H)
  (h:∀i σ H,i<n->a i σ H->g (.int (lo+i)) σ H λd H2=>tb {D with nx:=a (i+1),ct:=a (i+1),bk:=D.nx} d H2)(hd:∀σ H,a n σ H->D.nx σ H):
  ∃W:Nat->Nat->St->Hp->Prop,(∃m,W 0 m σ H)/\∀i m σ H,W i m σ H->
   ((AK lo n).stop i H/\D.nx σ H)\/((AK lo n).go i H/\∃N:St->Hp->Prop,(∀c H',N c H'->∃f,f<m/\W (i+1) f c H')/\∀x H',(AK lo n).yld i H x H'->g x σ H' λd H2=>tb {D with nx:=N,ct:=N,bk:=D.nx} d H2):=by
 refine⟨λi m σ H=>m=n-i/\i<=n/\a i σ H,⟨n,Qs,Nat.zero_le _,h0⟩,?_⟩;rintro i m σ H⟨rfl,hi,p⟩;by_cases b:i<n
 ·refine .inr ⟨b,a (i+1),λc H' j=>⟨n-(i+1),Qo,rfl,b,j⟩,λx H' y=>?_⟩;obtain⟨e,y⟩:=y;subst e y;exact h i σ _ b p
 ·have e:i=n:=Qo;subst e;exact .inl ⟨Nat.le_refl _,hd σ H p⟩
abbrev R2:=V->V->Hp->VK->Prop
def im(X:Cx)(f:Value->Value->Sem Value)(r:R2):Prop:=
 ∀(pins:List (Addr×Obj))(s:Shared)(σ:St)(H:Hp)(x y:V)(v u:Value)(Q:VK),Inv X pins σ H s->aN x v->aN y u->r x y H Q->
  wpAny (model X.prog X.w) X.A (f v u) (EP X pins σ Q) X.xe s
def Df(X:Cx)(f:Value->Sem Value)(r:V->Hp->VK->Prop):Prop:=
 ∀(pins:List (Addr×Obj))(s:Shared)(σ:St)(H:Hp)(x:V)(v:Value)(Q:VK),Inv X pins σ H s->aN x v->r x H Q->
  wpAny (model X.prog X.w) X.A (f v) (EP X pins σ Q) X.xe s
def dL(X:Cx)(f:Value)(r:List V->Hp->VK->Prop):Prop:=
 ∀(pins:List (Addr×Obj))(s:Shared)(σ:St)(H:Hp)(xs:List V)(us:List Value)(Q:VK),Inv X pins σ H s->bc xs us->r xs H Q->
  wpAny (model X.prog X.w) X.A (call f us) (EP X pins σ Q) X.xe s
def AN(r:R2)(ta tb:TE):TE:=λσ H Q=>ta σ H λx H1=>tb σ H1 λy H2=>r x y H2 Q
def DM(r:V->Hp->VK->Prop)(ta:TE):TE:=λσ H Q=>ta σ H λx H1=>r x H1 Q
def rI(C:Int->Int->Prop)(g:Int->Int->V):R2:=λx y H Q=>∃i j,x=.int i/\y=.int j/\C i j/\Q (g i j) H
def zO(g:Int->Int->V):R2:=λx y H Q=>∃i j,x=.int i/\y=.int j/\Q (g i j) H
def rU(g:Int->V):V->Hp->VK->Prop:=λx H Q=>∃i,x=.int i/\Q (g i) H
section
variable{X:Cx}{a b c:Expr}{ta tb tc:TE}{pos:Pos}
theorem Av(j:PE X a ta)(k:PE X b tb){pins:List (Addr×Obj)}{s:Shared}{σ:St}{H:Hp}{R:V->V->Hp->Prop}(I:Inv X pins σ H s)
  (h:ta σ H λx H1=>tb σ H1 λy H2=>R x y H2){Q:Value->Shared->Prop}{f:Value->Value->Sem Value}
  (l:∀v u e x y H2,Inv X pins σ H2 e->aN x v->aN y u->R x y H2->wpAny (model X.prog X.w) X.A (f v u) Q X.xe e):
  wpAny (model X.prog X.w) X.A (eval a X.env) (λv c=>wpAny (model X.prog X.w) X.A (eval b X.env) (λu d=>wpAny (model X.prog X.w) X.A (f v u) Q X.xe d) X.xe c) X.xe s:=by
 refine bx (j pins s σ H _ I h) λv o⟨x,H1,g,m,q1⟩=>?_;refine bx (k pins o σ H1 _ g q1) λu e⟨y,H2,i,n,q2⟩=>?_;exact l v u e x y H2 i m n q2
theorem aU{c:Operator}{r:R2}(g:im X (binaryOp c) r)(e:PE X a ta)(f:PE X b tb):PE X (.BinOp a c b pos) (AN r ta tb):=by
 intro pins s σ H Q I h;exact wpAny_BinOp (Av e f I h λv u k x y H2 d i j q=>g pins k σ H2 x y v u Q d i j q)
theorem lX{b:UnaryOp}{r:V->Hp->VK->Prop}(e:Df X (unaryOp b) r)(d:PE X a ta):PE X (.UnaryOp b a pos) (DM r ta):=by
 intro pins s σ H Q I h;exact UnaryOp_ (bx (d pins s σ H _ I h) λv g⟨x,H1,c,f,q1⟩=>e pins g σ H1 x v Q c f q1)
theorem CP{f:Value->Value->Sem Value}{C:Int->Int->Prop}{g:Int->Int->Int}
  (a:∀(i j:Int)(t u:Tok)(s:Shared)(Q:Value->Shared->Prop)(E:Value->Shared->Prop),C i j->Q (.int (g i j) s.toks) {s with toks:=s.toks+1}->wpAny (model X.prog X.w) X.A (f (.int i t) (.int j u)) Q E s):
  im X f (rI C λi j=>.int (g i j)):=by
 intro pins s σ H x y v u Q I c d h;obtain⟨i,j,rfl,rfl,b,q⟩:=h;obtain⟨t,rfl⟩:=c;obtain⟨t',rfl⟩:=d;exact a i j t t' s _ _ b ⟨.int (g i j),H,I.tok _,⟨_,rfl⟩,q⟩
theorem Bs{f:Value->Value->Sem Value}{g:Int->Int->Int}
  (a:∀(i j:Int)(t u:Tok)(s:Shared)(Q:Value->Shared->Prop)(E:Value->Shared->Prop),Q (.int (g i j) s.toks) {s with toks:=s.toks+1}->wpAny (model X.prog X.w) X.A (f (.int i t) (.int j u)) Q E s):
  im X f (zO λi j=>.int (g i j)):=by
 intro pins s σ H x y v u Q I b c h;obtain⟨i,j,rfl,rfl,q⟩:=h;obtain⟨t,rfl⟩:=b;obtain⟨t',rfl⟩:=c;exact a i j t t' s _ _ ⟨.int (g i j),H,I.tok _,⟨_,rfl⟩,q⟩
theorem Ab{f:Value->Value->Sem Value}{g:Int->Int->Bool}
  (a:∀(i j:Int)(t u:Tok)(s:Shared)(Q:Value->Shared->Prop)(E:Value->Shared->Prop),Q (.bool (g i j)) s->wpAny (model X.prog X.w) X.A (f (.int i t) (.int j u)) Q E s):
  im X f (zO λi j=>.bl (g i j)):=by
 intro pins s σ H x y v u Q I b c h;obtain⟨i,j,rfl,rfl,q⟩:=h;obtain⟨t,rfl⟩:=b;obtain⟨t',rfl⟩:=c;exact a i j t t' s _ _ ⟨.bl (g i j),H,I,rfl,q⟩
def Du(i j:Int):Prop:=0<j/\j<1073741824
def Dt(i j:Int):Prop:=0<=j/\j<=1000000/\i.natAbs<2^64
theorem ft:im X (binaryOp .Add) (zO λi j=>.int (i+j)):=Bs λ_ _ _ _ _ _ _ q=>add_int q
theorem zZ:im X (binaryOp .Sub) (zO λi j=>.int (i-j)):=Bs λ_ _ _ _ _ _ _ q=>sub_int q
theorem dU:im X (binaryOp .FloorDiv) (rI Du λi j=>.int (i/j)):=CP λi j _ _ _ _ _ a q=>by
 have h1:(0:Int)<j:=a.1;have h2:j<1073741824:=a.2;exact floordiv_int Qo (by rw[Int.fdiv_eq_ediv_of_nonneg i Qo];exact q) (.inl (PyProof.noPylong_small Qo))
theorem d8:im X (binaryOp .Mod) (rI (λ_ j=>0<j) λi j=>.int (i%j)):=CP λi j _ _ _ _ _ a q=>by
 have h1:(0:Int)<j:=a;exact mod_int' Qo (by rw[Int.fmod_eq_emod_of_nonneg i Qo];exact q)
theorem z_:im X (binaryOp .Pow) (rI Dt λi j=>.int (i^j.toNat)):=CP λ_ _ _ _ _ _ _ a q=>pow_int_small a.1 a.2.1 a.2.2 q
theorem DL{f:Value->Sem Value}{g:Int->Int}
  (a:∀(i:Int)(t:Tok)(s:Shared)(Q:Value->Shared->Prop)(E:Value->Shared->Prop),Q (.int (g i) s.toks) {s with toks:=s.toks+1}->wpAny (model X.prog X.w) X.A (f (.int i t)) Q E s):
  Df X f (rU λi=>.int (g i)):=by
 intro pins s σ H x v Q I b h;obtain⟨i,rfl,q⟩:=h;obtain⟨t,rfl⟩:=b;exact a i t s _ _ ⟨.int (g i),H,I.tok _,⟨_,rfl⟩,q⟩
theorem iR:Df X (unaryOp .USub) (rU λi=>.int (-i)):=DL λ_ _ _ _ _ q=>neg_int q
end
def Be:V->V->Bool
 |.non,.non=>true|.non,.int _=>true|.int _,.non=>true|.non,.bl _=>true|.bl _,.non=>true|.non,.str _=>true|.str _,.non=>true
 |.int _,.int _=>true|.bl _,.bl _=>true|.str _,.str _=>true|.byt _,.byt _=>true
 |.int _,.str _=>true|.str _,.int _=>true|.bl _,.str _=>true|.str _,.bl _=>true
 |_,_=>false
def DV:R2:=λx y H Q=>Be x y=true/\Q (.bl (decide (x=y))) H
def DU:R2:=λx y H Q=>Be x y=true/\Q (.bl (!decide (x=y))) H
theorem pE{i j:Int}:decide (V.int i=V.int j)=(i==j):=by
 rw[Bool.eq_iff_iff];simp
theorem tX{i j:Bool}:decide (V.bl i=V.bl j)=(i==j):=by
 rw[Bool.eq_iff_iff];simp
theorem pD{i j:Str}:decide (V.str i=V.str j)=(i==j):=by
 rw[Bool.eq_iff_iff];simp
theorem pF{i j:Array UInt8}:decide (V.byt i=V.byt j)=(i.toList==j.toList):=by
 rw[Bool.eq_iff_iff];cases i;cases j;simp
section
variable{X:Cx}{a b c:Expr}{ta tb tc:TE}{pos:Pos}
theorem bh{pins:List (Addr×Obj)}{σ:St}{H:Hp}{s:Shared}{Q:VK}{k a:Bool}(I:Inv X pins σ H s)(q:Q (.bl k) H)(e:k=a):EP X pins σ Q (.bool a) s:=by
 subst e;exact⟨.bl k,H,I,rfl,q⟩
theorem bS:im X (compareOp .Eq) DV:=by
 intro pins s σ H x y v u Q I c a h;obtain⟨b,q⟩:=h;cases x with
 |non=>
  cases c;cases y with
  |non=>cases a;exact PySem.EqNone.eq_none_none (bh I q Qs)
  |bl j=>cases a;exact PySem.EqNone.eq_none_bool (bh I q Qs)
  |int j=>obtain⟨t',rfl⟩:=a;exact PySem.EqNone.eq_none_int (bh I q Qs)
  |str j=>obtain⟨t',rfl⟩:=a;exact PySem.EqNone.eq_none_str (bh I q Qs)
  |_=>exact absurd (show false=true from b) Bool.false_ne_true
 |bl i=>
  cases c;cases y with
  |non=>cases a;exact PySem.EqNone.eq_bool_none (bh I q Qs)
  |bl j=>cases a;exact eq_bool (bh I q tX)
  |str j=>obtain⟨t',rfl⟩:=a;exact PySem.EqMixed.eq_bool_str (bh I q Qs)
  |_=>exact absurd (show false=true from b) Bool.false_ne_true
 |int i=>
  obtain⟨t,rfl⟩:=c;cases y with
  |non=>cases a;exact PySem.EqNone.eq_int_none (bh I q Qs)
  |int j=>obtain⟨t',rfl⟩:=a;exact eq_int (bh I q pE)
  |str j=>obtain⟨t',rfl⟩:=a;exact PySem.EqMixed.eq_int_str (bh I q Qs)
  |_=>exact absurd (show false=true from b) Bool.false_ne_true
 |str i=>
  obtain⟨t,rfl⟩:=c;cases y with
  |non=>cases a;exact PySem.EqNone.eq_str_none (bh I q Qs)
  |bl j=>cases a;exact PySem.EqMixed.eq_str_bool (bh I q Qs)
  |int j=>obtain⟨t',rfl⟩:=a;exact PySem.EqMixed.eq_str_int (bh I q Qs)
  |str j=>obtain⟨t',rfl⟩:=a;exact eq_str (bh I q pD)
  |_=>exact absurd (show false=true from b) Bool.false_ne_true
 |byt i=>
  obtain⟨t,rfl⟩:=c;cases y with
  |byt j=>obtain⟨t',rfl⟩:=a;exact PySem.W.eq_bytes (bh I q pF)
  |_=>exact absurd (show false=true from b) Bool.false_ne_true
 |_=>cases y<;>exact absurd (show false=true from b) Bool.false_ne_true
theorem Br:im X (compareOp .NotEq) DU:=by
 intro pins s σ H x y v u Q I c a h;obtain⟨b,q⟩:=h;cases x with
 |non=>
  cases c;cases y with
  |non=>cases a;exact PySem.EqNone.ne_none_none (bh I q Qs)
  |bl j=>cases a;exact PySem.EqNone.ne_none_bool (bh I q Qs)
  |int j=>obtain⟨t',rfl⟩:=a;exact PySem.EqNone.ne_none_int (bh I q Qs)
  |str j=>obtain⟨t',rfl⟩:=a;exact PySem.EqNone.ne_none_str (bh I q Qs)
  |_=>exact absurd (show false=true from b) Bool.false_ne_true
 |bl i=>
  cases c;cases y with
  |non=>cases a;exact PySem.EqNone.ne_bool_none (bh I q Qs)
  |bl j=>cases a;exact ne_bool (bh I q (congrArg not tX))
  |str j=>obtain⟨t',rfl⟩:=a;exact PySem.EqMixed.ne_bool_str (bh I q Qs)
  |_=>exact absurd (show false=true from b) Bool.false_ne_true
 |int i=>
  obtain⟨t,rfl⟩:=c;cases y with
  |non=>cases a;exact PySem.EqNone.ne_int_none (bh I q Qs)
  |int j=>obtain⟨t',rfl⟩:=a;exact ne_int (bh I q (congrArg not pE))
  |str j=>obtain⟨t',rfl⟩:=a;exact PySem.EqMixed.ne_int_str (bh I q Qs)
  |_=>exact absurd (show false=true from b) Bool.false_ne_true
 |str i=>
  obtain⟨t,rfl⟩:=c;cases y with
  |non=>cases a;exact PySem.EqNone.ne_str_none (bh I q Qs)
  |bl j=>cases a;exact PySem.EqMixed.ne_str_bool (bh I q Qs)
  |int j=>obtain⟨t',rfl⟩:=a;exact PySem.EqMixed.ne_str_int (bh I q Qs)
  |str j=>obtain⟨t',rfl⟩:=a;exact ne_str (bh I q (congrArg not pD))
  |_=>exact absurd (show false=true from b) Bool.false_ne_true
 |byt i=>
  obtain⟨t,rfl⟩:=c;cases y with
  |byt j=>obtain⟨t',rfl⟩:=a;exact PySem.W.ne_bytes (bh I q (congrArg not pF))
  |_=>exact absurd (show false=true from b) Bool.false_ne_true
 |_=>cases y<;>exact absurd (show false=true from b) Bool.false_ne_true
theorem yG:im X (compareOp .Lt) (zO λi j=>.bl (decide (i<j))):=Ab λ_ _ _ _ _ _ _ q=>lt_int q
theorem yH:im X (compareOp .LtE) (zO λi j=>.bl (decide (i<=j))):=Ab λ_ _ _ _ _ _ _ q=>le_int q
theorem yI:im X (compareOp .Gt) (zO λi j=>.bl (decide (j<i))):=Ab λ_ _ _ _ _ _ _ q=>gt_int q
theorem p8:im X (compareOp .In) (λx y H Q=>∃i j,x=.str i/\y=.str j/\Q (.bl (!(Builtin.Str.occurrences j i 0 j.length 1).isEmpty)) H):=by
 intro pins s σ H x y v u Q I a b h;obtain⟨i,j,rfl,rfl,q⟩:=h;obtain⟨t,rfl⟩:=a;obtain⟨t',rfl⟩:=b;exact in_str (bh I q rfl)
theorem aM(b:Expr){a:CmpOp}(h:a≠ .In:=by decide)(h2:a≠ .NotIn:=by decide):behindInMarks a b=false:=by
 have c:(a==CmpOp.In)=false:=by cases a<;>first|rfl|exact absurd rfl h
 have d:(a==CmpOp.NotIn)=false:=by cases a<;>first|rfl|exact absurd rfl h2
 cases b<;>simp[behindInMarks,c,d]
theorem dR{c:CmpOp}{r:R2}(i:im X (compareOp c) r)(e:PE X a ta)(f:PE X b tb)(g:behindInMarks c b=false):PE X (.Compare a [c] [b] pos) (AN r ta tb):=by
 intro pins s σ H Q I h;exact wpAny_Compare1 (Av e f I h λv u l x y H2 d j k q=>i pins l σ H2 x y v u Q d j k q) g
def AX(t:TE):TT:=λσ H Q=>t σ H λx H'=>∃k,x=.bl k/\Q k H'
theorem aE{d:CmpOp}{r:R2}(o:im X (compareOp d) r)(l:PE X a ta)(m:PE X b tb)(n:behindInMarks d b=false):PT X (.Compare a [d] [b] pos) (AX (AN r ta tb)):=by
 intro pins s σ H Q I h;refine wpAny_isTrue_Compare1 (bx (l pins s σ H _ I h) λv w⟨x,H1,g,p,q1⟩=>bx (m pins w σ H1 _ g q1) λu A⟨y,H2,i,q,q2⟩=>
  bx (o pins A σ H2 x y v u _ i p q q2) λc B⟨z,f,j,t,k,e,q3⟩=>?_) n
 subst e;cases t;exact wpAny_truthy_bool ⟨f,j,q3⟩
def zG(r c:R2)(ta tb tc:TE):TE:=λσ H Q=>ta σ H λx H1=>tb σ H1 λy H2=>r x y H2 λz a=>∃k,z=.bl k/\
 (if k=true then tc σ a λw' b=>c y w' b Q else Q (.bl false) a)
theorem sm{i f:CmpOp}{r m:R2}(D:im X (compareOp i) r)(g:im X (compareOp f) m)(w:PE X a ta)(A:PE X b tb)(B:PE X c tc)
  (C:lastMarks [i,f] [b,c]=false:=by with_unfolding_all rfl):PE X (.Compare a [i,f] [b,c] pos) (zG r m ta tb tc):=by
 intro pins s σ H Q I h;refine Compare_chain (bx (w pins s σ H _ I h) λv K⟨x,H1,p,F,q1⟩=>chain_link (bx (A pins K σ H1 _ p q1) λu L⟨y,H2,q,n,q2⟩=>
  bx (D pins L σ H2 x y v u _ q F n q2) λd M⟨z,j,l,G,k,e,q3⟩=>?_)) C
 subst e;cases G;refine wpAny_truthy_bool ?_;cases k with
 |false=>exact ite_ff ⟨.bl false,j,l,rfl,q3⟩
 |true=>exact ite_tt (chain_last (bx (B pins M σ j _ l q3) λw' N⟨O,o,t,J,E⟩=>g pins N σ o y O u w' Q t n J E))
theorem jm:(sizeLine:Nat)<2^63:=by rw[sizeLine_eq];decide
theorem bT:im X (binaryOp .Add) (λx y H Q=>∃i j,x=.str i/\y=.str j/\i.length+j.length<=sizeLine/\Q (.str (i++j)) H):=by
 intro pins s σ H x y v u Q I b c h;obtain⟨i,j,rfl,rfl,a,q⟩:=h;obtain⟨t,rfl⟩:=b;obtain⟨t',rfl⟩:=c;exact add_str (λt' tk=>⟨.str (i++j),H,I.tok _,⟨_,rfl⟩,q⟩) a
theorem fe{x:V}{us:List Value}(r:bc [x] us):∃u,us=[u]/\aN x u:=by
 cases r with
 |cons a b=>cases b;exact⟨_,rfl,a⟩
theorem ot{x y:V}{us:List Value}(r:bc [x,y] us):∃u w',us=[u,w']/\aN x u/\aN y w':=by
 cases r with
 |cons a b=>
  cases b with
  |cons c d=>cases d;exact⟨_,_,rfl,a,c⟩
theorem qJ:dL X (.type "int") (λxs H Q=>(∃i,xs=[.int i]/\Q (.int i) H)\/∃k,xs=[.bl k]/\Q (.int (if k then 1 else 0)) H):=by
 intro pins s σ H xs us Q I r h;rcases h with⟨i,rfl,q⟩|⟨k,rfl,q⟩
 ·obtain⟨u,rfl,t,rfl⟩:=fe r;exact call_int_int ⟨.int i,H,I,⟨_,rfl⟩,q⟩
 ·obtain⟨u,rfl,a⟩:=fe r;cases a;exact call_int_bool ⟨.int (if k then 1 else 0),H,I.tok _,⟨_,rfl⟩,q⟩
end
structure ObjM(h:Heap)(x dx C:Addr)(mA:Str->Option Value):Prop where
 obj:h.get? x=some (PySem.W.instObj C dx)
 ns:h.Ns1 dx mA
 ne:dx≠x
theorem j4{h:Heap}{dx:Addr}{mA:Str->Option Value}(n:h.Ns1 dx mA):∃od,h.get? dx=some od/\∀name,PySem.W.lookIn name od=some (mA name):=by
 obtain⟨o,es,ep,g,hd,d,_,f⟩:=n;refine⟨o,g,λname=>?_⟩;have e:=f name;unfold nsFind findBy at e;rw[<-Array.find?_toList]at e;unfold PySem.W.lookIn;rw[hd];dsimp only;split
 ·rename_i y q;rw[q]at e;exact congrArg some e
 ·rename_i q;rw[q]at e;have a:es.toList.any (·.refKey)=false:=by
   rw[List.any_eq_false];intro y i;obtain⟨z,t,b⟩:=d y (Array.mem_toList_iff.mp i);simp[DictEntry.refKey,b]
  have c:¬es.toList.any (·.refKey)=true:=by rw[a];exact Bool.false_ne_true
  rw[if_neg c];exact congrArg some e
theorem ObjM.look{h:Heap}{x dx C:Addr}{mA:Str->Option Value}(I:ObjM h x dx C mA):∃od,PySem.W.InstAt h x (PySem.W.instObj C dx) C (some od)/\∀name,PySem.W.lookIn name od=some (mA name):=
 let⟨od,b,a⟩:=j4 I.ns
 ⟨od,⟨I.obj,rfl,rfl,b⟩,a⟩
section
variable{prog:Program}{w:World}{A:Around}{E:Value->Shared->Prop}{s:Shared}{K:PySem.W.Frag}{x dx C f:Addr}{mA:Str->Option Value}{name:Str}{v:Value}
theorem xH{a:Bool}{Q:Value->Shared->Prop}(X:K.In s.heap)(I:ObjM s.heap x dx C mA)(d:PySem.W.plainGet K C name=true)(e:PySem.W.hasDictIn K C=true)
  (c:PySem.W.findIn K (.ref C) name=some none)(g:mA name=some v)(b:PySem.W.handedIn v=true)(h:Q v {s with toks:=s.toks+1}):
  wpAny (model prog w) A (getAttr (.ref x) name a) Q E s:=by
 obtain⟨od,J,f⟩:=I.look;exact PySem.W.get_value X J (PySem.W.plainGet_of d).1 (PySem.W.findObj_own e c rfl (by rw[f,g])) b h
theorem tO{pl:Sem Bool}{Q:Value×List Value->Shared->Prop}(X:K.In s.heap)(I:ObjM s.heap x dx C mA)(a:PySem.W.plainGet K C name=true)
  (b:PySem.W.findIn K (.ref C) name=some (some (.ref f)))(d:PySem.W.isFn K (.ref f)=true)(e:mA name=none)(h:Q (.ref f,[.ref x]) s):
  wpAny (model prog w) A (getMethod (.ref x) name pl) Q E s:=by
 obtain⟨od,J,c⟩:=I.look;exact PySem.W.method_fn X J (PySem.W.plainGet_of a).1 (PySem.W.plainGet_of a).2 b (beq_iff_eq.mp d) (by show(PySem.W.lookIn name od).map (·.isSome)=some false;rw[c,e];rfl) h
theorem uY{ns:List Str}{Q:Unit->Shared->Prop}(X:K.In s.heap)(I:ObjM s.heap x dx C mA)
  (o:PySem.W.findIn K (.ref C) "__setattr__"=some (some (.builtin "object.__setattr__")))(n:PySem.W.plainOver K C=true)(p:PySem.W.takerIn K C name=some none)(m:PySem.W.hasDictIn K C=true)
  (hw:PySem.Within mA ns)(hsz:ns.length<=sizeLine)
  (h:∀h',ObjM h' x dx C (λy=>if y=name then some v else mA y)->Heap.SameBut dx s.heap h'->Q () {s with heap:=h',toks:=s.toks+2}):
  wpAny (model prog w) A (setAttr (.ref x) name v) Q E s:=by
 obtain⟨od,J,u⟩:=I.look;refine PySem.W.set_plain X J o (PySem.W.osa_open (s:={s with toks:=s.toks+1}) (r:=none) X J n p λb=>?_);obtain⟨t,l,f⟩:=PySem.W.any_some m;have q:s.heap.get? x=some ⟨.ref C,some dx,.plain,#[]⟩:=I.obj;refine wpAny_bind (wpAny_pure (wpAny_bind (wpAny_bind (wpAny_loadPart q (wpAny_bind (PySem.W.Looks.here (s:={s with toks:=s.toks+1}) (PySem.W.looks_clsIn X l) ?_))))));rw[f];refine wpAny_pure (a:=some dx) (wpAny_bind (wpAny_pure (wpAny_bind ?_)));refine wpAny_nsSet1 (s:={s with toks:=s.toks+1}) I.ns λh' c d=>?_;obtain⟨z,k,j,i,g,e⟩:=c.count (PySem.Within.cons name v hw);refine wpAny_bind (wpAny_lookBehind i (by rw[g];exact pastItsLine_dict (Nat.le_trans e (by rw[List.length_cons];omega))) ?_);exact wpAny_pure (h _ ⟨(d.2 _ (Ne.symm I.ne)).trans I.obj,c,I.ne⟩ d)
theorem tm{R:Result->Shared->Prop}{vs:List Value}{a:List (Str×Value)}(X:K.In s.heap)(c:PySem.W.makesIn K C=true)
  (hi:PySem.W.findIn K (.ref C) "__init__"=some (some (.ref f)))(b:PySem.W.typeIn K (.ref f)=some (.type "function"))
  (h:codeAny (model prog w) (A.under (.builtin "type.__call__" ⟨.ref C::vs,a⟩)) (.call (.ref f) ⟨.ref (s.heap.objs.size+1)::vs,a⟩) (PySem.W.InitBack (s.heap.objs.size+1) R)
   {s with heap:=(s.heap.push PySem.W.emptyDict).push (PySem.W.instObj C s.heap.objs.size)}):
  codeAny (model prog w) A (.call (.ref C) ⟨vs,a⟩) R s:=by
 obtain⟨e,g,d,t,os⟩:=s;exact PySem.W.make_core (PySem.W.makes_of X c) (PySem.W.looks_findIn X hi) (λself=>PySem.W.bind_fn X self b) (.inl rfl) h
end
def cR(f:Str)(v:V):List (Str×V)->List (Str×V)
 |[]=>[(f,v)]
 |(g,x)::r=>if g=f then(g,v)::r else(g,x)::cR f v r
theorem br(f g:Str)(v:V):∀fs:List (Str×V),(cR f v fs).lookup g=if g=f then some v else fs.lookup g
 |[]=>by
  show List.lookup g [(f,v)]=_;by_cases h:g=f
  ·have a:(g==f)=true:=beq_iff_eq.mpr h;simp only[List.lookup,a,if_pos h]
  ·have a:(g==f)=false:=beq_eq_false_iff_ne.mpr h;simp only[List.lookup,a,if_neg h]
 |(k,x)::r=>by
  have c:=br f g v r;rw[show cR f v ((k,x)::r)=(if k=f then(k,v)::r else(k,x)::cR f v r)from rfl];by_cases b:k=f
  ·rw[if_pos b];by_cases h:g=k
   ·have a:(g==k)=true:=beq_iff_eq.mpr h;simp only[List.lookup,a,if_pos (h.trans b)]
   ·have a:(g==k)=false:=beq_eq_false_iff_ne.mpr h;simp only[List.lookup,a,if_neg (λe:g=f=>h (e.trans b.symm))]
  ·rw[if_neg b];by_cases h:g=k
   ·have a:(g==k)=true:=beq_iff_eq.mpr h;simp only[List.lookup,a,if_neg (λe:g=f=>b (h.symm.trans e))]
   ·have a:(g==k)=false:=beq_eq_false_iff_ne.mpr h;simp only[List.lookup,a];exact c
theorem h_(f:Str)(v:V):∀fs:List (Str×V),f∈(cR f v fs).map (·.1)/\∀g,g∈fs.map (·.1)->g∈(cR f v fs).map (·.1)
 |[]=>⟨by simp[cR],λg h=>by simp at h⟩
 |(k,x)::r=>by
  obtain⟨i1,b⟩:=h_ f v r;rw[show cR f v ((k,x)::r)=(if k=f then(k,v)::r else(k,x)::cR f v r)from rfl];by_cases a:k=f
  ·rw[if_pos a];subst a;exact⟨Qs,λg h=>by simpa using h⟩
  ·rw[if_neg a];refine⟨?_,λg h=>?_⟩
   ·rw[List.map_cons];exact List.mem_cons_of_mem _ i1
   ·rw[List.map_cons]at h⊢;rcases List.mem_cons.mp h with e|e
    ·exact List.mem_cons.mpr (.inl e)
    ·exact List.mem_cons_of_mem _ (b g e)
theorem iu(f:Str)(v:V):∀fs:List (Str×V),(cR f v fs).length<=fs.length+1
 |[]=>by simp[cR]
 |(k,x)::r=>by
  have b:=iu f v r;rw[show cR f v ((k,x)::r)=(if k=f then(k,v)::r else(k,x)::cR f v r)from rfl];by_cases a:k=f
  ·rw[if_pos a,List.length_cons,List.length_cons];omega
  ·rw[if_neg a,List.length_cons,List.length_cons];omega
theorem RelO.some_of{v:V}{o:Option Value}(r:RelO (some v) o):∃u,o=some u/\aN v u:=by
 cases o with
 |none=>exact(show False from r).elim
 |some u=>exact⟨u,rfl,r⟩
theorem RelO.none_of{o:Option Value}(r:RelO none o):o=none:=by
 cases o with
 |none=>rfl
 |some u=>exact(show False from r).elim
theorem j8{v:V}{u:Value}(r:aN v u):PySem.W.handedIn u=true:=by
 cases v with
 |non=>cases(show u=Value.none from r);rfl
 |bl b=>cases(show u=Value.bool b from r);rfl
 |int i=>obtain⟨t,e⟩:=(show∃t,u=Value.int i t from r);cases e;rfl
 |str x=>obtain⟨t,e⟩:=(show∃t,u=Value.str x t from r);cases e;rfl
 |byt b=>obtain⟨t,e⟩:=(show∃t,u=Value.bytes b t from r);cases e;rfl
 |flt b=>obtain⟨t,e⟩:=(show∃t,u=Value.float b t from r);cases e;rfl
 |ref a=>cases(show u=Value.ref a from r);rfl
 |ty n=>cases(show u=Value.type n from r);rfl
section
variable{P:Program}{w:World}{H H':Hp}{h h':Heap}{a C dx:Addr}{fs fs':List (Str×V)}
theorem iM(hok:fb P w H h)(e:H a=some (.ins C dx fs)):∃mA,ObjM h a dx C mA/\(∀f,RelO (fs.lookup f) (mA f))/\PySem.Within mA (fs.map (·.1))/\fs.length<=1000/\H dx=some (.own a):=by
 obtain⟨d,z,ne,ob,mA,n,r,q⟩:=(show ObjOk P w H h a (.ins C dx fs)from hok a _ e);exact⟨mA,⟨ob,n,ne⟩,r,q,z,d⟩
end
structure ol(K:PySem.W.Frag)(C:Addr):Prop where
 pg:PySem.W.plainGet K C Str.empty=true
 hd:PySem.W.hasDictIn K C=true
 po:PySem.W.plainOver K C=true
 sa:PySem.W.findIn K (.ref C) "__setattr__"=some (some (.builtin "object.__setattr__"))
theorem ol.get{K:PySem.W.Frag}{C:Addr}(c:ol K C)(f:Str):PySem.W.plainGet K C f=true:=c.pg
def d_(K:PySem.W.Frag)(C:Addr)(f:Str):Prop:=PySem.W.findIn K (.ref C) f=some none
theorem d_.taker{K:PySem.W.Frag}{C:Addr}{f:Str}(n:d_ K C f):PySem.W.takerIn K C f=some none:=by
 unfold PySem.W.takerIn;rw[show PySem.W.findIn K (.ref C) f=some none from n];rfl
structure qL(K:PySem.W.Frag)(C:Addr)(m:Str)(f:Addr):Prop where
 at_:PySem.W.findIn K (.ref C) m=some (some (.ref f))
 fn:PySem.W.isFn K (.ref f)=true
 kp:PySem.W.keepIn K (.ref f)=true
section
variable{X:Cx}{pins:List (Addr×Obj)}{σ:St}{H:Hp}{s:Shared}{a C dx:Addr}{fs:List (Str×V)}{f:Str}{v:V}{A:Around}{E:Value->Shared->Prop}
theorem nZ{b:Bool}{Q:Value->Shared->Prop}(I:Inv X pins σ H s)(e:H a=some (.ins C dx fs))(c:ol X.K C)(n:d_ X.K C f)(l:fs.lookup f=some v)
  (h:∀u s',Inv X pins σ H s'->aN v u->Q u s'):wpAny (model X.prog X.w) A (getAttr (.ref a) f b) Q E s:=by
 obtain⟨mA,O,r,_,_,_⟩:=iM I.hok e;obtain⟨u,g,d⟩:=RelO.some_of (v:=v) (o:=mA f) (by rw[<-l];exact r f);exact xH I.kIn O (c.get f) c.hd n g (j8 d) (h u _ (I.tok _) d)
theorem jo{m:Str}{g:Addr}{pl:Sem Bool}{Q:Value×List Value->Shared->Prop}(I:Inv X pins σ H s)(e:H a=some (.ins C dx fs))(c:ol X.K C)(k:qL X.K C m g)(l:fs.lookup m=none)
  (h:Q (.ref g,[.ref a]) s):wpAny (model X.prog X.w) A (getMethod (.ref a) m pl) Q E s:=by
 obtain⟨mA,O,r,_,_,_⟩:=iM I.hok e;have hn:mA m=none:=RelO.none_of (by rw[<-l];exact r m);exact tO I.kIn O (c.get m) k.at_ k.fn hn h
theorem m_{y:V}{u:Value}{Q:Unit->Shared->Prop}(I:Inv X pins σ H s)(e:H a=some (.ins C dx fs))(c:ol X.K C)(n:d_ X.K C f)(w:fs.length<1000)(t:aN y u)
  (h:∀s',Inv X pins σ (upd H a (.ins C dx (cR f y fs))) s'->Q () s'):wpAny (model X.prog X.w) A (setAttr (.ref a) f u) Q E s:=by
 obtain⟨mA,O,r,j,_,i⟩:=iM I.hok e;have p:(fs.map (·.1)).length<=sizeLine:=by rw[List.length_map,sizeLine_eq];omega
 refine uY I.kIn O c.sa c.po n.taker c.hd j p λh' d v=>h _ ?_;have hd:∃o,h'.get? dx=some o:=let⟨o,_,_,k,_⟩:=d.ns;⟨o,k⟩;refine I.write (x:=a) (e:=dx) (by rw[e];exact True.intro) (.inr i) (λb q l z=>(v.2 b l).trans z) hd ?_;refine⟨by rw[ah O.ne];exact i,?_,O.ne,d.obj,_,d.ns,λg=>?_,λg m=>?_⟩
 ·have:=iu f y fs;omega
 ·show RelO ((cR f y fs).lookup g) (if g=f then some u else mA g);rw[br];by_cases q:g=f
  ·rw[if_pos q,if_pos q];exact t
  ·rw[if_neg q,if_neg q];exact r g
 ·by_cases q:g=f
  ·rw[q];exact(h_ f y fs).1
  ·refine(h_ f y fs).2 g (j g λz=>m ?_);show(if g=f then some u else mA g)=none;rw[if_neg q];exact z
theorem Inv.made(I:Inv X pins σ H s):Inv X pins σ (upd (upd H s.heap.objs.size (.own (s.heap.objs.size+1))) (s.heap.objs.size+1) (.ins C s.heap.objs.size []))
  {s with heap:=(s.heap.push PySem.W.emptyDict).push (PySem.W.instObj C s.heap.objs.size)}:=by
 have c:(s.heap.push PySem.W.emptyDict).get? s.heap.objs.size=some PySem.W.emptyDict:=Heap.get?_push_size s.heap rfl;have f:((s.heap.push PySem.W.emptyDict).push (PySem.W.instObj C s.heap.objs.size)).get? (s.heap.objs.size+1)=some (PySem.W.instObj C s.heap.objs.size):=by
  have:=Heap.get?_push_size (s.heap.push PySem.W.emptyDict) (o:=PySem.W.instObj C s.heap.objs.size) rfl;rwa[Heap.size_push]at this
 have g:(s.heap.push PySem.W.emptyDict).Ns s.heap.objs.size (λ_=>none):=⟨PySem.W.emptyDict,#[],_,c,rfl,(λe h=>absurd h Qs),λ_=>rfl⟩;have d:=I.laid (a:=s.heap.objs.size) (o:=.own (s.heap.objs.size+1)) (h':=s.heap.push PySem.W.emptyDict) (t':=s.toks) (λb u q=>Heap.get?_push_of_some _ q) (Nat.le_refl _) ⟨_,c⟩;refine d.laid (a:=s.heap.objs.size+1) (o:=.ins C s.heap.objs.size []) (t':=s.toks) (λb u q=>Heap.get?_push_of_some _ q) (Nat.le_of_eq (Heap.size_push _ _)) ?_;have ne:s.heap.objs.size≠s.heap.objs.size+1:=Nat.ne_of_lt (Nat.lt_succ_self _);refine⟨by rw[ah ne,ac],Nat.zero_le _,ne,f,λ_=>none,(Heap.Ns1.of_empty g).at λo q=>Heap.get?_push_of_some _ q,λ_=>True.intro,λy i=>absurd rfl i⟩
theorem pJ{prog:Program}{w:World}{env:Env}{e:Expr}{f:Str}{pos:Pos}{s:Shared}{Q:Value->Shared->Prop}(b:attributeBase e f env (eval e env)=eval e env)
  (h:wpAny (model prog w) A (eval e env) (λo a=>wpAny (model prog w) A (getAttr o f true) Q E a) E s):wpAny (model prog w) A (eval (.Attribute e f pos) env) Q E s:=
 Attribute_any_ h (by rw[arm_eval_Attribute,b])
end
def A5(K:PySem.W.Frag)(ta:TE)(f:Str):TE:=λσ H Q=>ta σ H λx H1=>∃a C dx fs v,x=.ref a/\H1 a=some (.ins C dx fs)/\ol K C/\d_ K C f/\fs.lookup f=some v/\Q v H1
def CH(K:PySem.W.Frag)(ta tv:TE)(f:Str):TS:=λD σ H=>tv σ H λy H1=>ta σ H1 λx H2=>∃a C dx fs,x=.ref a/\H2 a=some (.ins C dx fs)/\ol K C/\d_ K C f/\fs.length<1000/\
 D.nx σ (upd H2 a (.ins C dx (cR f y fs)))
section
variable{X:Cx}{o e value:Expr}{f:Str}{pos pos' tpos:Pos}{ta tv:TE}
theorem aY(j:PE X e ta)(i:attributeBase e f X.env (eval e X.env)=eval e X.env):PE X (.Attribute e f pos) (A5 X.K ta f):=by
 intro pins s σ H Q I h;refine pJ i (bx (j pins s σ H _ I h) λu o⟨x,H1,b,m,a,C,dx,fs,v,ex,g,c,n,l,q⟩=>?_);subst ex;obtain rfl:u=Value.ref a:=m;exact nZ b g c n l λt p d k=>⟨v,H1,d,k,q⟩
theorem hJ(i:PE X o ta)(k:PE X value tv)(j:swapsWith value (some (.Attribute o f pos')) pos.line X.env=pure false):PS X (.Assign [.Attribute o f pos'] value pos) (CH X.K ta tv f):=by
 intro pins s σ H D I h;refine plainObj_wpAny_Assign_Attribute (bx (k pins s σ H _ I h) λu v⟨y,H1,b,t,q⟩=>bx (i pins v σ H1 _ b q) λm w⟨x,H2,d,p,a,C,dx,fs,ex,g,c,n,l,q2⟩=>?_) j;subst ex;obtain rfl:m=Value.ref a:=p;exact m_ d g c n l t λz e=>⟨σ,_,e,q2⟩
end
section
variable{X:Cx}{pins:List (Addr×Obj)}{σ:St}{H:Hp}{s:Shared}{A:Around}{E:Value->Shared->Prop}{Q:Value->Shared->Prop}{c:Value}{b:Bool}
inductive gq(K:PySem.W.Frag)(H:Hp):V->Value->Prop where
 |non:gq K H .non (.type "NoneType")
 |bl (x:Bool):gq K H (.bl x) (.type "bool")
 |int (i:Int):gq K H (.int i) (.type "int")
 |str (x:Str):gq K H (.str x) (.type "str")
 |flt (x:UInt64):gq K H (.flt x) (.type "float")
 |lst {a:Addr} {xs:List V} (e:H a=some (.lst xs)):gq K H (.ref a) (.type "list")
 |frz {a:Addr} {o:Obj} {xs:List V} (e:H a=some (.frz o (.lst xs))):gq K H (.ref a) (.type "list")
 |tup {a:Addr} {xs:List V} (e:H a=some (.tup xs)):gq K H (.ref a) (.type "tuple")
 |dK {a:Addr} {kvs:List (aT×V)} (e:H a=some (.dK kvs)):gq K H (.ref a) (.type "dict")
 |dT {a:Addr} {kvs:List (List aT×V)} (e:H a=some (.dT kvs)):gq K H (.ref a) (.type "dict")
 | ins {a C dx:Addr} {fs:List (Str×V)} (e:H a=some (.ins C dx fs)) (cl:ol K C) (ha:PySem.W.findIn K (.ref C) "__class__"=some (some (.builtin "object.__class__")))
   (hn:PySem.W.specialIn K (.builtin "object.__class__") "__get__"=some (some (.builtin "getset_descriptor.__get__"))) (htk:PySem.W.takesIn K (.builtin "object.__class__")=some true)
   (hm:PySem.W.mroIn K C (.type "object")=some true):gq K H (.ref a) (.ref C)
theorem qv{x:V}{u t:Value}(I:Inv X pins σ H s)(f:aN x u)(ty:gq X.K H x t)(e:PySem.W.kitOne X.K t c=some b)(h:∀tk,Q (.bool b) {s with toks:=tk}):
  wpAny (model X.prog X.w) A (call (.builtin "isinstance") [u,c]) Q E s:=by
 cases ty with
 |non=>cases(show u=Value.none from f);exact PySem.W.kia_one PySem.W.kitx_none I.kIn True.intro e (λz=>nomatch z) h
 |bl y=>cases(show u=Value.bool y from f);exact PySem.W.kia_one PySem.W.kitx_bool I.kIn True.intro e (λz=>nomatch z) h
 |int i=>obtain⟨t,q⟩:=(show∃t,u=Value.int i t from f);cases q;exact PySem.W.kia_one PySem.W.kitx_int I.kIn True.intro e (λz=>nomatch z) h
 |str y=>obtain⟨t,q⟩:=(show∃t,u=Value.str y t from f);cases q;exact PySem.W.kia_one PySem.W.kitx_str I.kIn True.intro e (λz=>nomatch z) h
 |flt y=>obtain⟨t,q⟩:=(show∃t,u=Value.float y t from f);cases q;exact PySem.W.kia_one PySem.W.kitx_float I.kIn True.intro e (λz=>nomatch z) h
 | @lst a xs d=>
  cases(show u=Value.ref a from f);obtain⟨_,_,n,_,h1⟩:=(show ObjOk X.prog X.w H s.heap a (.lst xs)from I.hok a _ d);exact PySem.W.kia_one PySem.W.kitx_list I.kIn ⟨_,h1,rfl⟩ e (λz=>nomatch z) h
 | @frz a ob xs d=>
  cases(show u=Value.ref a from f);obtain⟨_,_,_,n,_,h1⟩:=(show ObjOk X.prog X.w H s.heap a (.frz ob (.lst xs))from I.hok a _ d);exact PySem.W.kia_one PySem.W.kitx_list I.kIn ⟨_,h1,rfl⟩ e (λz=>nomatch z) h
 | @tup a xs d=>
  cases(show u=Value.ref a from f);obtain⟨_,_,_,p⟩:=(show ObjOk X.prog X.w H s.heap a (.tup xs)from I.hok a _ d);obtain⟨o,h1,h2,_⟩:=p;exact PySem.W.kia_one PySem.W.kitx_tuple I.kIn ⟨o,h1,h2⟩ e (λz=>nomatch z) h
 | @dK a kvs d=>
  cases(show u=Value.ref a from f);obtain⟨_,_,vs,_,p⟩:=(show ObjOk X.prog X.w H s.heap a (.dK kvs)from I.hok a _ d);obtain⟨o,es,ep,h1,h2,_⟩:=p;exact PySem.W.kia_one PySem.W.kitx_dict I.kIn ⟨o,h1,h2.1⟩ e (λz=>nomatch z) h
 | @dT a kvs d=>
  cases(show u=Value.ref a from f);obtain⟨_,_,xs,_,o,es,ep,h1,h2,_⟩:=(show ObjOk X.prog X.w H s.heap a (.dT kvs)from I.hok a _ d);exact PySem.W.kia_one PySem.W.kitx_dict I.kIn ⟨o,h1,h2.1⟩ e (λz=>nomatch z) h
 | @ins a C dx fs d cl j hn g k=>
  cases(show u=Value.ref a from f);obtain⟨mA,O,_⟩:=iM I.hok d;obtain⟨od,J,_⟩:=O.look;exact PySem.W.kia_one (PySem.W.kitx_own (cl.get _) cl.hd j hn g k) I.kIn J e (λz=>nomatch z) h
end
structure be(k:Nat)(A:Around):Prop where
 hd:A.handled=none
 dp:A.depth+3*k+5<recursionLimit
 un:A.units+16*k+200<cLine
 gd:A.guards=some []
theorem be.mono{j k:Nat}{A:Around}(r:be k A)(h:j<=k):be j A:=⟨r.hd,by have:=r.dp;omega,by have:=r.un;omega,r.gd⟩
theorem be.deeper{k:Nat}{A:Around}(r:be (k+1) A)(env:Env):be k (A.deeper env):=
 ⟨r.hd,by have:=r.dp;show A.depth+1+3*k+5<_;omega,by have:=r.un;show A.units+3+16*k+200<_;omega,r.gd⟩
theorem nU{A:Around}{C:Addr}{us:List Value}{a:List (Str×Value)}:(A.under (.builtin "type.__call__" ⟨.ref C::us,a⟩)).depth=A.depth+1:=by
 first|rfl|simp[Around.under,Code.weight,Code.isCreation,Code.isGuard,Code.isCaller,Code.frames,Code.isFrame,guardIds]
theorem nR{A:Around}{C:Addr}{us:List Value}{a:List (Str×Value)}:(A.under (.builtin "type.__call__" ⟨.ref C::us,a⟩)).units=A.units+1:=by
 first|rfl|simp[Around.under,Code.cUnits,Code.frames,Code.isFrame]
theorem be.make{k:Nat}{A:Around}(r:be (k+1) A)(C:Addr)(us:List Value)(a:List (Str×Value)):be k (A.under (.builtin "type.__call__" ⟨.ref C::us,a⟩)):=
 ⟨r.hd,by have:=r.dp;rw[nU];omega,by have:=r.un;rw[nR];omega,by first|exact r.gd|(simpa[Around.under,Code.isGuard,guardIds]using r.gd)⟩
theorem be.depth{k:Nat}{A:Around}(r:be k A):A.depth<recursionLimit:=by have:=r.dp;omega
theorem be.units{k:Nat}{A:Around}(r:be k A):A.units+64<cLine:=by have:=r.un;omega
def gg:TA:=λ_ H Q=>Q [] H
def dC(ta:TE)(tr:TA):TA:=λσ H Q=>ta σ H λx H1=>tr σ H1 λxs H2=>Q (x::xs) H2
section
variable{X:Cx}{e:Expr}{es:List Expr}{te:TE}{t:TA}{pos:Pos}
theorem ad:PA X [] gg:=λ_ _ _ _ H Q I h=>Calls.spliced_nil ⟨[],H,I,.nil,h⟩
theorem aa(c:PE X e te)(d:PA X es t)(f:starEach (e::es) X.env=(false,eval e X.env)::starEach es X.env:=by rfl):PA X (e::es) (dC te t):=by
 intro pos pins s σ H Q I h;rw[f];show wpAny _ _ (spliced ((false,eval e X.env)::backTo pos (starEach es X.env))) _ _ s;refine Calls.spliced_cons (bx (c pins s σ H _ I h) λu j⟨x,H1,a,g,q1⟩=>?_);exact bx (d pos pins j σ H1 _ a q1) λus k⟨xs,H2,b,i,q2⟩=>⟨x::xs,H2,b,.cons g i,q2⟩
def mS(t:TA):TE:=λσ H Q=>t σ H λxs H1=>xs.length<=sizeLine/\∀p,H1 p=none->Q (.ref p) (upd H1 p (.tup xs))
def qT(t:TA):TE:=λσ H Q=>t σ H λxs H1=>xs.length<=sizeLine/\∀p,H1 p=none->Q (.ref p) (upd H1 p (.lst xs))
theorem aK{g}(h:PA X es t):PE X (.Tuple es g pos) (mS t):=by
 intro pins s σ H Q I f;refine wpAny_Tuple_spliced (bx (h pos pins s σ H _ I f) λus a⟨xs,H1,c,r,z,q⟩=>⟨by rw[<-r.length];exact z,?_⟩);have d:H1 a.heap.objs.size=none:=c.hok.fresh (Nat.le_refl _);refine⟨.ref a.heap.objs.size,upd H1 a.heap.objs.size (.tup xs),c.laid (t':=a.toks) (λb u e=>Heap.get?_push_of_some _ e) (Nat.le_refl _) ?_,rfl,q _ d⟩;exact⟨z,us,r,⟨_,Heap.get?_push_size _ rfl,rfl,_,rfl⟩⟩
theorem aR(h:PA X es t):PE X (.List es pos) (qT t):=by
 intro pins s σ H Q I f;refine wpAny_List_spliced (bx (h pos pins s σ H _ I f) λus a⟨xs,H1,c,r,z,q⟩=>⟨by rw[<-r.length];exact z,?_⟩);have d:H1 a.heap.objs.size=none:=c.hok.fresh (Nat.le_refl _);refine⟨.ref a.heap.objs.size,upd H1 a.heap.objs.size (.lst xs),c.laid (t':=a.toks) (λb u e=>Heap.get?_push_of_some _ e) (Nat.le_refl _) ?_,rfl,q _ d⟩;exact⟨z,us,0,r,Heap.get?_push_size _ rfl⟩
end
abbrev Sp:=List V->Hp->VK->XK->Prop
abbrev uJ:=List Env->Hp->Shared->XK->Value->Shared->Prop
structure Env0(P:Program)(w:World)(K:PySem.W.Frag)(mg:Str->Option Value)(base:Heap)(A:Around)(outer:List Env)(s:Shared)(H:Hp):Prop where
 frames:A.frames=some outer
 mod:Mod K mg base
 bs:∀b o,base.get? b=some o->s.heap.get? b=some o/\H b=none
 bsz:base.objs.size<=s.heap.objs.size
 funs:s.heap.FunFrames base outer
 frf:∀b∈frs outer,H b=none
 hok:fb P w H s.heap
 bare:AllBare s.gens
def CE(outer:List Env)(P:Program)(w:World)(H:Hp)(s:Shared)(Q:VK)(u:Value)(s':Shared):Prop:=
 ∃v H',s'.os=s.os/\AllBare s'.gens/\Un (frs outer) [] H H' s.heap s'.heap/\fb P w H' s'.heap/\aN v u/\Q v H'
def CR(CX:uJ)(outer:List Env)(P:Program)(w:World)(H:Hp)(s:Shared)(Q:VK)(E:XK)(r:Result)(s':Shared):Prop:=
 match r with
 |.ok (.ret u)=>CE outer P w H s Q u s'
 |.ok _=>False
 |.error e=>CX outer H s E e s'
structure FnOk(P:Program)(w:World)(K:PySem.W.Frag)(mg:Str->Option Value)(base:Heap)(CX:uJ)(k:Nat)(f:Addr)(fd:FuncData)(ps:List Str)(sp:Sp):Prop where
 len:∀vs H Q E,sp vs H Q E->vs.length=ps.length
 run:∀(A:Around)(outer:List Env)(s:Shared)(H:Hp)(args:Args)(us:List Value)(vs:List V)(Q:VK)(E:XK),be k A->Env0 P w K mg base A outer s H->BindsTo s fd args (ps.zip us)->bc vs us->sp vs H Q E->
  codeAny (model P w) A (.call (.ref f) args) (CR CX outer P w H s Q E) s
theorem Env0.make{P:Program}{w:World}{K:PySem.W.Frag}{mg:Str->Option Value}{base:Heap}{A:Around}{outer:List Env}{s:Shared}{H:Hp}(e:Env0 P w K mg base A outer s H)(C:Addr)(us:List Value)(a:List (Str×Value)):
  Env0 P w K mg base (A.under (.builtin "type.__call__" ⟨.ref C::us,a⟩)) outer s H:=⟨by first|exact e.frames|(simpa[Around.under,Code.envs,Code.isFrame,pushEnvs]using e.frames),e.mod,e.bs,e.bsz,e.funs,e.frf,e.hok,e.bare⟩
section
variable{X:Cx}{pins:List (Addr×Obj)}{σ:St}{H:Hp}{s s':Shared}
theorem Inv.env0(I:Inv X pins σ H s):Env0 X.prog X.w X.K X.mg X.base X.A X.stack s H:=
 ⟨I.ok.frames,I.ok.mod,I.bs,Nat.le_trans I.ok.bsz I.sz,I.stack,I.stkFree,I.hok,I.bare⟩
theorem Inv.after{Q:VK}{u:Value}(I:Inv X pins σ H s)(h:CE X.stack X.prog X.w H s Q u s'):EP X pins σ Q u s':=by
 obtain⟨v,H',os,bare,un,hok,r,q⟩:=h;obtain⟨c,g,d,t,a⟩:=s';obtain rfl:a=s.os:=os;exact⟨v,H',I.call (h':=c) (g':=g) (d':=d) (t':=t) (ch:=[]) un hok bare (λb z=>absurd z Qs),r,q⟩
end
def ou(sp:Sp)(dvs:List V)(E:XK)(t:TA):TE:=λσ H Q=>t σ H λvs H1=>sp (vs++dvs) H1 Q E
def ly(C:Addr)(m:Str)(sp:Sp)(dvs:List V)(E:XK)(ta:TE)(t:TA):TE:=λσ H Q=>ta σ H λx H1=>∃a dx fs,x=.ref a/\H1 a=some (.ins C dx fs)/\fs.lookup m=none/\
 t σ H1 λvs H2=>sp (x::(vs++dvs)) H2 Q E
def xX(C:Addr)(sp:Sp)(dvs:List V)(E:XK)(t:TA):TE:=λσ H Q=>t σ H λvs H1=>∀x dx,H1 x=none->H1 dx=none->dx≠x->
 sp (.ref x::(vs++dvs)) (upd (upd H1 dx (.own x)) x (.ins C dx [])) (λv H2=>v=.non/\Q (.ref x) H2) E
def c_(K:PySem.W.Frag)(fd:FuncData)(ps:List Str)(ds:List Value):Prop:=
 ∀(s:Shared)(us:List Value),K.In s.heap->(us++ds).length=ps.length->BindsTo s fd ⟨us,[]⟩ (ps.zip (us++ds))
theorem c_.all{K:PySem.W.Frag}{fd:FuncData}{ps:List Str}(h:∀us:List Value,us.length=ps.length->bindArgs fd ⟨us,[]⟩=pure (ps.zip us)):c_ K fd ps []:=λs us _ a=>by
 rw[List.append_nil]at a⊢;exact .of_eq (h us a)
def eT(CX:uJ)(X:Cx)(E:XK):Prop:=∀(pins:List (Addr×Obj))(σ:St)(H:Hp)(s:Shared)(e:Value)(s':Shared),Inv X pins σ H s->CX X.stack H s E e s'->X.xe e s'
section
variable{X:Cx}{CX:uJ}{k:Nat}{f C:Addr}{fd:FuncData}{ps:List Str}{sp:Sp}{dvs:List V}{ds:List Value}{E:XK}{x m:Str}{p pos apos:Pos}{e o:Expr}{es:List Expr}{ta:TE}{t:TA}
theorem nr{pins:List (Addr×Obj)}{σ:St}{H:Hp}{s:Shared}{Q:VK}{us:List Value}{vs:List V}(F:FnOk X.prog X.w X.K X.mg X.base CX k f fd ps sp)(i:be k X.A)(d:c_ X.K fd ps ds)(hd:bc dvs ds)(j:eT CX X E)
  (I:Inv X pins σ H s)(r:bc vs us)(h:sp (vs++dvs) H Q E):wpAny (model X.prog X.w) X.A (call (.ref f) us) (EP X pins σ Q) X.xe s:=by
 have b:bc (vs++dvs) (us++ds):=r.append hd;have g:(us++ds).length=ps.length:=by rw[<-b.length];exact F.len _ _ _ _ h
 refine wpAny_call (codeAny_mono (F.run X.A X.stack s H ⟨us,[]⟩ (us++ds) (vs++dvs) Q E i I.env0 (d s us I.kIn g) b h) λr s' a=>?_);cases r with
 |error e=>exact j pins σ H s e s' I a
 |ok c=>
  cases c with
  |ret u=>exact I.after a
  |next=>exact False.elim a
  |brk=>exact False.elim a
  |cont=>exact False.elim a
theorem oP(F:FnOk X.prog X.w X.K X.mg X.base CX k f fd ps sp)(n:be k X.A)(j:Gl X x)(m:X.mg x=some (.ref f))(l:PySem.W.keepIn X.K (.ref f)=true)(g:c_ X.K fd ps ds)(hd:bc dvs ds)(o:eT CX X E)
  (d:PA X (e::es) t)(a:(x==("__debug__":Str))=false:=by decide)(i:starEach (e::es) X.env=(false,eval e X.env)::starEach es X.env:=by rfl)(b:(backTo pos (starEach es X.env)).any (·.1)=false:=by rfl):
  PE X (.Call (.Name x p) (e::es) [] pos) (ou sp dvs E t):=by
 intro pins s σ H Q I h;refine wpAny_Call_Name_kw (eQ I j m ?_ a);refine PySem.W.callWith_K (h₀:=X.base) I.ok.mod.kin l (bx (d pos pins s σ H _ I h) λus u⟨vs,H1,c,r,q⟩=>⟨c.kIn,?_⟩) i b;exact nr F n g hd o c r q
theorem oN{pl:Sem Bool}(y:PE X o ta)(c:ol X.K C)(j:qL X.K C m f)(F:FnOk X.prog X.w X.K X.mg X.base CX k f fd ps sp)(z:be k X.A)(w:c_ X.K fd ps ds)(hd:bc dvs ds)(B:eT CX X E)(v:PA X (e::es) t)
  (d:starEach (e::es) X.env=(false,eval e X.env)::starEach es X.env:=by rfl)(b:(backTo pos (starEach es X.env)).any (·.1)=false:=by rfl)
  (A:eval (.Call (.Attribute o m apos) (e::es) [] pos) X.env=(do
   let n<-eval o X.env
   standAt apos.atName
   let(f,first)<-holding [n] (getMethod n m pl)
   callWith pos f first (backTo pos (starEach (e::es) X.env)) (backToKw pos (keywordEach [] X.env))):=by rfl):
  PE X (.Call (.Attribute o m apos) (e::es) [] pos) (ly C m sp dvs E ta t):=by
 intro pins s σ H Q I h;refine PySem.W.methodCall_KW (pl:=pl) (bx (y pins s σ H _ I h) λu G⟨x,H1,g,D,a,dx,fs,ex,p,l,q⟩=>?_) A;subst ex;obtain rfl:u=Value.ref a:=D;refine jo g p c j l ?_;refine PySem.W.callWith_K (first:=[.ref a]) (h₀:=X.base) I.ok.mod.kin j.kp (bx (v pos pins G σ H1 _ g q) λus J⟨vs,H2,i,r,q2⟩=>⟨i.kIn,?_⟩) d b;exact nr (us:=.ref a::us) (vs:=.ref a::vs) F z w hd B i (.cons rfl r) q2
theorem sf{pl:Sem Bool}(j:PE X o ta)(c:ol X.K C)(d:qL X.K C m f)(F:FnOk X.prog X.w X.K X.mg X.base CX k f fd ps sp)(n:be k X.A)(i:c_ X.K fd ps ds)(hd:bc dvs ds)(t:eT CX X E)
  (p:eval (.Call (.Attribute o m apos) [] [] pos) X.env=(do
   let e<-eval o X.env
   standAt apos.atName
   let(f,first)<-holding [e] (getMethod e m pl)
   callWith pos f first (backTo pos (starEach [] X.env)) (backToKw pos (keywordEach [] X.env))):=by rfl):
  PE X (.Call (.Attribute o m apos) [] [] pos) (ly C m sp dvs E ta gg):=by
 intro pins s σ H Q I h;refine PySem.W.methodCall_KW (pl:=pl) (bx (j pins s σ H _ I h) λu w⟨x,H1,b,v,a,dx,fs,ex,g,l,q⟩=>?_) p;subst ex;obtain rfl:u=Value.ref a:=v;refine jo b g c d l ?_;exact PySem.W.callWith_K0 (first:=[.ref a]) b.kIn d.kp (nr (us:=[.ref a]) (vs:=[.ref a]) F n i hd t b (.cons rfl .nil) q)
structure Mk(K:PySem.W.Frag)(C f:Addr):Prop where
 makes:PySem.W.makesIn K C=true
 init:PySem.W.findIn K (.ref C) "__init__"=some (some (.ref f))
 fn:PySem.W.isFn K (.ref f)=true
 kp:PySem.W.keepIn K (.ref C)=true
theorem rJ{pins:List (Addr×Obj)}{σ:St}{H:Hp}{s:Shared}{Q:VK}{us:List Value}{vs:List V}(M:Mk X.K C f)(F:FnOk X.prog X.w X.K X.mg X.base CX k f fd ps sp)(n:be (k+1) X.A)(l:c_ X.K fd ps ds)(hd:bc dvs ds)
  (o:eT CX X E)(I:Inv X pins σ H s)(r:bc vs us)
  (h:∀x dx,H x=none->H dx=none->dx≠x->sp (.ref x::(vs++dvs)) (upd (upd H dx (.own x)) x (.ins C dx [])) (λv H2=>v=.non/\Q (.ref x) H2) E):
  wpAny (model X.prog X.w) X.A (call (.ref C) us) (EP X pins σ Q) X.xe s:=by
 have c:=h (s.heap.objs.size+1) s.heap.objs.size (I.hok.fresh (Nat.le_succ _)) (I.hok.fresh (Nat.le_refl _)) (Nat.ne_of_lt (Nat.lt_succ_self _));have b:=Inv.made (C:=C) I;have d:bc (V.ref (s.heap.objs.size+1)::(vs++dvs)) (Value.ref (s.heap.objs.size+1)::(us++ds)):=.cons rfl (r.append hd);have m:(Value.ref (s.heap.objs.size+1)::us++ds).length=ps.length:=by
  have e:=d.length;rw[F.len _ _ _ _ c]at e;exact e.symm
 refine wpAny_call (tm (f:=f) I.kIn M.makes M.init (beq_iff_eq.mp M.fn) (codeAny_mono (F.run _ X.stack _ _ ⟨Value.ref (s.heap.objs.size+1)::us,[]⟩ (Value.ref (s.heap.objs.size+1)::(us++ds)) _ _ E (n.make C us [])
  (b.env0.make C us []) (l _ (Value.ref (s.heap.objs.size+1)::us) b.kIn m) d c) λr s' a=>?_))
 cases r with
 |error e=>exact o pins σ _ _ e s' b a
 |ok j=>
  cases j with
  |ret u=>
   obtain⟨v,H',g,p,i,q3⟩:=b.after a;subst i;exact⟨p,⟨V.ref (s.heap.objs.size+1),H',g,rfl,q3⟩⟩
  |next=>exact False.elim a
  |brk=>exact False.elim a
  |cont=>exact False.elim a
theorem sh(M:Mk X.K C f)(F:FnOk X.prog X.w X.K X.mg X.base CX k f fd ps sp)(e:be (k+1) X.A)(c:Gl X x)(d:X.mg x=some (.ref C))(b:c_ X.K fd ps ds)(hd:bc dvs ds)(g:eT CX X E)
  (a:(x==("__debug__":Str))=false:=by decide):PE X (.Call (.Name x p) [] [] pos) (xX C sp dvs E gg):=by
 intro pins s σ H Q I h;refine wpAny_Call_Name_kw (eQ I c d ?_ a);exact PySem.W.callWith_K0 I.kIn M.kp (rJ (us:=[]) M F e b hd g I .nil h)
end
structure ax(N P:List Str)(sc:Scope):Prop where
 kind:sc.kind=.function
 co:sc.isCoroutine=false
 gen:sc.isGenerator=false
 nd:N.Nodup
 pre:N.take P.length=P
 par:∀x∈P,sc.names.lookup x=some .local \/sc.names.lookup x=some .cell
 nofree:∀y∈sc.names,y.2≠ .free
theorem kh{b:Str->Option NameKind}{x:Str}:∀{a:List (Str×Value)}{m:Str->Option Value},(∀v,(x,v)∉a)->bindL b a m x=m x
 |[],_,_=>rfl
 |(n,v)::r,m,h=>by
  unfold bindL;rw[kh λw hw=>h w (List.mem_cons_of_mem _ hw)];split
  ·have:x≠n:=by rintro rfl;exact h v List.mem_cons_self
   simp[this]
  ·rfl
theorem kj{b:Str->Option NameKind}{x:Str}:∀{a:List (Str×Value)}{m:Str->Option Value},(∀v,(x,v)∉a)->bindC b a m x=m x
 |[],_,_=>rfl
 |(n,v)::r,m,h=>by
  unfold bindC;rw[kj λw hw=>h w (List.mem_cons_of_mem _ hw)];split
  ·rfl
  ·have:x≠n:=by rintro rfl;exact h v List.mem_cons_self
   simp[this]
theorem ki{a:Str->Option NameKind}{x:Str}{v:Value}:∀{P:List Str}{vs:List Value}{i:Nat}{m:Str->Option Value},P.Nodup->P[i]?=some x->vs[i]?=some v->a x=some .local ->
  bindL a (P.zip vs) m x=some v
 |[],_,_,_,_,h,_,_=>by simp at h
 |_::_,[],_,_,_,_,h,_=>by simp at h
 |p::P,w::vs,0,m,nd,h1,h2,b=>by
  simp at h1 h2;subst h1;subst h2;show bindL a ((p,w)::P.zip vs) m p=_;unfold bindL;rw[kh λv c=>(List.nodup_cons.mp nd).1 (List.of_mem_zip c).1,if_pos b];simp
 |p::P,w::vs,i+1,m,nd,h1,h2,b=>by
  show bindL a ((p,w)::P.zip vs) m x=_;unfold bindL;exact ki (i:=i) (List.nodup_cons.mp nd).2 (by simpa using h1) (by simpa using h2) b
theorem km{a:Str->Option NameKind}{x:Str}{v:Value}:∀{P:List Str}{vs:List Value}{i:Nat}{m:Str->Option Value},P.Nodup->P[i]?=some x->vs[i]?=some v->a x≠some .local ->
  bindC a (P.zip vs) m x=some v
 |[],_,_,_,_,h,_,_=>by simp at h
 |_::_,[],_,_,_,_,h,_=>by simp at h
 |p::P,w::vs,0,m,nd,h1,h2,b=>by
  simp at h1 h2;subst h1;subst h2;show bindC a ((p,w)::P.zip vs) m p=_;unfold bindC;rw[kj λv c=>(List.nodup_cons.mp nd).1 (List.of_mem_zip c).1,if_neg b];simp
 |p::P,w::vs,i+1,m,nd,h1,h2,b=>by
  show bindC a ((p,w)::P.zip vs) m x=_;unfold bindC;exact km (i:=i) (List.nodup_cons.mp nd).2 (by simpa using h1) (by simpa using h2) b
def gv(N:List Str)(vs:List V):St:=vs.map some++List.replicate (N.length-vs.length) none
def kZ(CX:uJ)(P:Program)(w:World)(K:PySem.W.Frag)(mg:Str->Option Value)(base:Heap)(N:List Str)(qual:Str)(scope:Scope)(f:Addr)(b:Value)(A:Around)(outer:List Env)(s:Shared)(H:Hp)(E:XK):Cx where
 prog:=P
 w:=w
 K:=K
 mg:=mg
 base:=base
 A:=A.deeper (envOfC qual scope s.heap.objs.size f b)
 N:=N
 s₀:=s
 H₀:=H
 env:=envOfC qual scope s.heap.objs.size f b
 outer:=outer
 stack:=envOfC qual scope s.heap.objs.size f b::outer
 ex:=[]
 calm:=true
 fn:=λ_=>true
 pn:=[]
 xe:=λe s'=>wpAny (model P w) (A.deeper (envOfC qual scope s.heap.objs.size f b)) (leaving (envOfC qual scope s.heap.objs.size f b) e) (λ_ a=>CX outer H s E e a) (λc a=>CX outer H s E c a) s'
theorem mJ{a:Scope}{n:Nat}{x:Str}(h:a.names.lookup x=some .cell):∃c,(cellsFrom n a.names []).lookup x=some c:=by
 have q:=PySem.W.cellsFrom_some a.names n [] (.inl h);exact Option.isSome_iff_exists.mp q
theorem qw{CX:uJ}{P:Program}{w:World}{K:PySem.W.Frag}{mg:Str->Option Value}{base:Heap}{N ps:List Str}{qual:Str}{scope:Scope}{f:Addr}{m:Value}{A:Around}{outer:List Env}{s B:Shared}{H:Hp}{E:XK}{us:List Value}{vs:List V}
  (S:ax N ps scope)(hd:A.handled=none)(d:Env0 P w K mg base A outer s H)(I:vs.length=ps.length)(r:bc vs us)
  (x:InCallC s s.heap.objs.size (bindL (envOfC qual scope s.heap.objs.size f m).kindOf (ps.zip us) λ_=>none) (cellsFrom (s.heap.objs.size+1) scope.names []) (bindC (envOfC qual scope s.heap.objs.size f m).kindOf (ps.zip us) λ_=>none) B):
  Inv (kZ CX P w K mg base N qual scope f m A outer s H E) [] (gv N vs) H B:=by
 have D:ps.length<=N.length:=by have:=congrArg List.length S.pre;rw[List.length_take]at this;omega
 obtain⟨h1,tk,rfl,o⟩:=x.done;have j:∀b:Addr,b∉(kZ CX P w K mg base N qual scope f m A outer s H E).ex:=λb z=>absurd (show b∈([]:List Addr)from z) Qs;refine⟨⟨d.mod,S.kind,rfl,rfl,Nat.le_refl _,λy z c h1 h2=>?_,λy g=>?_,λy c _ h=>?_,λ_=>hd,Around.frames_deeper d.frames,.inr ⟨rfl,rfl⟩,λb z=>absurd z (j b),d.bs,d.bsz,λb _ _=>j b,λb z=>absurd z (j b),d.funs,d.frf⟩,
  rfl,d.bare,Un.kept o,⟨_,x.toInCall.ns,λi y v h1 h2 G=>?_⟩,λy c h=>⟨_,x.cell y c h⟩,d.hok.fresh (Nat.le_refl _),λy c h=>?_,λp l=>absurd (show p∈([]:List (Addr×Obj))from l) Qs,d.hok.kept o,?_⟩
 ·exact name_of_addr x.apart (PySem.mem_of_lookup h1) (PySem.mem_of_lookup h2)
 ·have g:scope.names.lookup y=some .cell \/scope.names.lookup y=some .free:=g;rcases g with g|g
  ·exact mJ g
  ·exact absurd rfl (S.nofree _ (PySem.mem_of_lookup g))
 ·exact Nat.le_of_lt (x.above y c (PySem.mem_of_lookup h))
 ·have hi:i<vs.length:=by
   unfold gv at h2;by_cases hi:i<vs.length
   ·exact hi
   ·rw[List.getElem?_append_right (by simpa using hi)]at h2;rw[List.getElem?_replicate]at h2;split at h2<;>cases h2
  have C:vs[i]?=some v:=by
   unfold gv at h2;rw[List.getElem?_append_left (by simpa using hi),List.getElem?_map]at h2;cases e:vs[i]? with
   |none=>rw[e]at h2;cases h2
   |some a=>rw[e]at h2;cases h2;rfl
  obtain⟨u,t,F⟩:=r.get C;have l:ps[i]?=some y:=by
   rw[<-S.pre,List.getElem?_take_of_lt Qo];exact h1
  have ndP:ps.Nodup:=by rw[<-S.pre];exact S.nd.sublist (List.take_sublist _ _)
  refine⟨u,F,?_⟩;rcases S.par y (List.mem_of_getElem? l)with k|k
  ·exact .inl ⟨k,ki ndP l t k⟩
  ·obtain⟨c,e⟩:=mJ (n:=s.heap.objs.size+1) k;refine .inr ⟨.inl k,c,e,?_⟩;have q:=x.cell y c e;rw[km ndP l t (by show scope.names.lookup y≠_;rw[k];decide)]at q;exact q
 ·exact d.hok.fresh (Nat.le_of_lt (x.above y c (PySem.mem_of_lookup h)))
 ·unfold gv;show _=N.length;rw[List.length_append,List.length_map,List.length_replicate];omega
theorem yR{CX:uJ}{P:Program}{w:World}{K:PySem.W.Frag}{mg:Str->Option Value}{base:Heap}{k:Nat}{f:Addr}{name qual:Str}{c:Arguments}{d:List Stmt}{scope:Scope}{O kV l R a ct oc:Value}{M od:Option Addr}
  {F:Array (Option Value)}{N ps:List Str}{sp:Sp}(lk:K.lookup f=some ⟨oc,od,.func (PySem.W.fnOf name qual c d scope O kV l R M a ct),F⟩)(B:PySem.W.codeIn K a qual=true)(S:ax N ps scope)
  (len:∀vs H Q E,sp vs H Q E->vs.length=ps.length)
  (h:∀(A:Around)(outer:List Env)(s:Shared)(H:Hp)(vs:List V)(Q:VK)(E:XK),be k (A.deeper (envOfC qual scope s.heap.objs.size f a))->sp vs H Q E->
   ∃t,PSs (kZ CX P w K mg base N qual scope f a A outer s H E) d t/\t {nx:=λ_ H'=>Q .non H',rt:=Q} (gv N vs) H):
  FnOk P w K mg base CX (k+1) f (PySem.W.fnOf name qual c d scope O kV l R M a ct) ps sp:=by
 refine⟨len,λA outer s H args us vs Q E C m W r z=>?_⟩;have Y:=len _ _ _ _ z;have L:K.In s.heap:=m.mod.kin.keeps λb o e=>(m.bs b o e).1;have D:s.heap.NoLimit:=m.mod.nolimit.keeps λb o e=>(m.bs b o e).1;have i:∀y∈ps.zip us,scope.names.lookup y.1=some .local \/(scope.names.lookup y.1=some .cell/\((cellsFrom (s.heap.objs.size+1) scope.names []).lookup y.1).isSome=true):=λ⟨n,v⟩hy=>by
  rcases S.par n (List.of_mem_zip hy).1 with q|q
  ·exact .inl q
  ·exact .inr ⟨q,PySem.W.cellsFrom_some _ _ _ (.inl q)⟩
 refine codeAny_call_function C.depth (L _ _ lk) rfl S.co S.gen rfl (PySem.W.codeRec_of L B) (W _ _ _ _ ?_);refine wpAny_newFunctionEnv_cells S.kind i λenv X T x=>?_;subst X;refine⟨D.keeps x.toInCall.keep,codeAny_func ?_⟩;obtain⟨t,ht,Z⟩:=h A outer s H vs Q E (C.deeper _) z;have I:Inv (kZ CX P w K mg base N qual scope f a A outer s H E) [] (gv N vs) H T:=qw S C.hd m Y r x;refine wpAny_mono (ht [] T (gv N vs) H _ I Z) (λU s' j=>?_) λe s' j=>j;have p:∀{g:St}{H':Hp}{v:V}{u:Value},Inv (kZ CX P w K mg base N qual scope f a A outer s H E) [] g H' s'->aN v u->Q v H'->CE outer P w H s Q u s':=
  λ{g H' v u}J G q=>⟨v,H',J.os,J.bare,J.base,J.hok,G,q⟩
 cases U with
 |ret u=>
  obtain⟨v,g,H',J,G,q⟩:=j;exact p J G q
 |next=>
  obtain⟨g,H',J,q⟩:=j;exact p (v:=V.non) (u:=Value.none) J rfl q
 |brk=>
  obtain⟨_,_,_,q⟩:=j;exact False.elim q
 |cont=>
  obtain⟨_,_,_,q⟩:=j;exact False.elim q
section
variable{X:Cx}{x:Str}{p pos:Pos}{e:Expr}{es:List Expr}{t:TA}{id T:String}{r:List V->Hp->VK->Prop}
def Dv(r:List V->Hp->VK->Prop)(t:TA):TE:=λσ H Q=>t σ H λvs H1=>r vs H1 Q
theorem aI(f:dL X (.builtin id) r)(i:Gl X x)(j:X.mg x=none)(k:bootBuiltins x=some (.builtin id))(d:PA X (e::es) t)(hn:x≠"__name__":=by decide)(a:(x==("__debug__":Str))=false:=by decide)
  (g:starEach (e::es) X.env=(false,eval e X.env)::starEach es X.env:=by rfl)(b:(backTo pos (starEach es X.env)).any (·.1)=false:=by rfl):PE X (.Call (.Name x p) (e::es) [] pos) (Dv r t):=by
 intro pins s σ H Q I h;refine wpAny_Call_Name_kw (h9 I i j k ?_ hn a);exact PyProof.Rows.callWith_builtin1 (bx (d pos pins s σ H _ I h) λus m⟨vs,H1,c,l,q1⟩=>f pins m σ H1 vs us Q c l q1) g b
theorem b6(f:dL X (.type T) r)(i:Gl X x)(j:X.mg x=none)(k:bootBuiltins x=some (.type T))(d:PA X (e::es) t)(hn:x≠"__name__":=by decide)(a:(x==("__debug__":Str))=false:=by decide)
  (g:starEach (e::es) X.env=(false,eval e X.env)::starEach es X.env:=by rfl)(b:(backTo pos (starEach es X.env)).any (·.1)=false:=by rfl):PE X (.Call (.Name x p) (e::es) [] pos) (Dv r t):=by
 intro pins s σ H Q I h;refine wpAny_Call_Name_kw (h9 I i j k ?_ hn a);exact PyProof.Rows.callWith_type1 (bx (d pos pins s σ H _ I h) λus m⟨vs,H1,c,l,q1⟩=>f pins m σ H1 vs us Q c l q1) g b
end
section
variable{κ:Type}[DecidableEq κ]
def valV(kvs:List (κ×V))(k:κ):Option V:=(kvs.find? λkv=>decide (kv.1=k)).map (·.2)
def b5(kvs:List (κ×V))(k:κ)(v:V):List (κ×V):=
 if(kvs.any λkv=>decide (kv.1=k))=true then kvs.map (λkv=>if kv.1=k then(kv.1,v)else kv)else kvs++[(k,v)]
def gc(kvs:List (κ×V))(k:κ):List (κ×V):=kvs.filter λkv=>decide (kv.1≠k)
theorem bH{p:κ×V}{r:List (κ×V)}{k:κ}(e:p.1=k):valV (p::r) k=some p.2:=by simp[valV,List.find?_cons,e]
theorem bI{p:κ×V}{r:List (κ×V)}{k:κ}(e:¬p.1=k):valV (p::r) k=valV r k:=by simp[valV,List.find?_cons,e]
theorem cH(k:κ):∀kvs:List (κ×V),(kvs.any λkv=>decide (kv.1=k))=(valV kvs k).isSome
 |[]=>rfl
 |p::r=>by
  rw[List.any_cons];by_cases e:p.1=k
  ·simp only[bH e,decide_eq_true e,Bool.true_or,Option.isSome_some]
  ·rw[bI e,decide_eq_false e,Bool.false_or];exact cH k r
theorem lu(k j:κ)(y:V):∀kvs:List (κ×V),valV (kvs.map λkv=>if kv.1=k then(kv.1,y)else kv) j=(valV kvs j).map λx=>if j=k then y else x
 |[]=>rfl
 |p::r=>by
  have a:=lu k j y r;rw[List.map_cons];by_cases h:p.1=k
  ·rw[if_pos h];by_cases e:p.1=j
   ·rw[bH (p:=(p.1,y)) e,bH e,Option.map_some,if_pos (e.symm.trans h)]
   ·rw[bI (p:=(p.1,y)) e,bI e,a]
  ·rw[if_neg h];by_cases e:p.1=j
   ·rw[bH (p:=p) e,bH e,Option.map_some,if_neg (λz=>h (e.trans z))]
   ·rw[bI (p:=p) e,bI e,a]
theorem jV(k j:κ)(y:V):∀kvs:List (κ×V),valV kvs k=none->valV (kvs++[(k,y)]) j=if j=k then some y else valV kvs j
 |[],_=>by
  by_cases e:k=j
  ·rw[if_pos e.symm];exact bH (p:=(k,y)) e
  ·rw[if_neg (λz=>e z.symm)];exact bI (p:=(k,y)) e
 |p::r,hn=>by
  rw[List.cons_append];have a:¬p.1=k:=λz=>by rw[bH z]at hn;cases hn
  rw[bI a]at hn;have b:=jV k j y r hn;by_cases e:p.1=j
  ·rw[bH e,bH e,if_neg (λz=>a (e.trans z))]
  ·rw[bI e,bI e,b]
theorem lp(kvs:List (κ×V))(k j:κ)(y:V):valV (b5 kvs k y) j=if j=k then some y else valV kvs j:=by
 unfold b5;by_cases a:(kvs.any λkv=>decide (kv.1=k))=true
 ·rw[if_pos a,lu];rw[cH]at a;by_cases e:j=k
  ·obtain⟨x,b⟩:=Option.isSome_iff_exists.mp a;rw[if_pos e,e,b,Option.map_some,if_pos rfl]
  ·rw[if_neg e];cases valV kvs j with
   |none=>rfl
   |some x=>rw[Option.map_some,if_neg e]
 ·rw[if_neg a];refine jV k j y kvs ?_;rw[cH]at a;cases q:valV kvs k with
  |none=>rfl
  |some x=>rw[q]at a;exact(a rfl).elim
theorem dW(kvs:List (κ×V))(k:κ)(v:V):(b5 kvs k v).length<=kvs.length+1:=by
 unfold b5;split
 ·rw[List.length_map];omega
 ·rw[List.length_append,List.length_cons,List.length_nil];omega
theorem dG{kvs:List (κ×V)}{k:κ}(v:V)(h:valV kvs k=none):b5 kvs k v=kvs++[(k,v)]:=by
 unfold b5;rw[cH,h];exact if_neg Qd
theorem RelO.isSome_eq{o:Option V}{u:Option Value}(r:RelO o u):o.isSome=u.isSome:=by
 cases o with
 |none=>cases u with
  |none=>rfl
  |some _=>exact(show False from r).elim
 |some _=>cases u with
  |none=>exact(show False from r).elim
  |some _=>rfl
theorem RelO.getD{o:Option V}{u:Option Value}{d:V}{d':Value}(r:RelO o u)(rd:aN d d'):aN (o.getD d) (u.getD d'):=by
 cases o with
 |none=>cases u with
  |none=>exact rd
  |some _=>exact(show False from r).elim
 |some _=>cases u with
  |none=>exact(show False from r).elim
  |some _=>exact r
theorem KV.val{kvs:List (κ×V)}{vs:List (κ×Value)}(r:KV kvs vs)(k:κ):RelO (valV kvs k) (valueAt vs k):=by
 unfold KV at r;induction r with
 |nil=>exact True.intro
 | @cons p q ps c h t d=>
  obtain⟨h1,h2⟩:=h;by_cases e:p.1=k
  ·have a:q.1=k:=h1.symm.trans e;have b:valueAt (q::c) k=some q.2:=by simp[valueAt,List.find?_cons,a]
   rw[bH e,b];exact h2
  ·have a:¬q.1=k:=λz=>e (h1.trans z);have b:valueAt (q::c) k=valueAt c k:=by simp[valueAt,List.find?_cons,a]
   rw[bI e,b];exact d
theorem KV.any{kvs:List (κ×V)}{vs:List (κ×Value)}(r:KV kvs vs)(k:κ):(kvs.any λkv=>decide (kv.1=k))=vs.any λkv=>decide (kv.1=k):=by
 unfold KV at r;induction r with
 |nil=>rfl
 |cons h t a=>rw[List.any_cons,List.any_cons,a,h.1]
theorem KV.repl{kvs:List (κ×V)}{vs:List (κ×Value)}(r:KV kvs vs)(k:κ){y:V}{u:Value}(b:aN y u):
  KV (kvs.map λkv=>if kv.1=k then(kv.1,y)else kv) (vs.map λkv=>if kv.1=k then(kv.1,u)else kv):=by
 unfold KV at r⊢;induction r with
 |nil=>exact .nil
 | @cons p q ps c h t a=>
  rw[List.map_cons,List.map_cons];refine .cons ?_ a;obtain⟨h1,h2⟩:=h;by_cases e:p.1=k
  ·rw[if_pos e,if_pos (h1.symm.trans e)];exact⟨h1,b⟩
  ·rw[if_neg e,if_neg (λz=>e (h1.trans z))];exact⟨h1,h2⟩
theorem KV.put{kvs:List (κ×V)}{vs:List (κ×Value)}(r:KV kvs vs)(k:κ){y:V}{u:Value}(a:aN y u):KV (b5 kvs k y) (stored vs k u):=by
 unfold b5 stored;rw[r.any k];by_cases e:(vs.any λkv=>decide (kv.1=k))=true
 ·rw[if_pos e,if_pos e];exact r.repl k a
 ·rw[if_neg e,if_neg e];exact Paired.snoc r ⟨rfl,a⟩
theorem KV.drop{kvs:List (κ×V)}{vs:List (κ×Value)}(r:KV kvs vs)(k:κ):KV (gc kvs k) (without vs k):=by
 unfold KV at r⊢;unfold gc without;induction r with
 |nil=>exact .nil
 | @cons p q ps f h t c=>
  obtain⟨h1,h2⟩:=h;rw[List.filter_cons,List.filter_cons];by_cases e:p.1=k
  ·have a:¬decide (p.1≠k)=true:=by simp[e]
   have b:¬decide (q.1≠k)=true:=by simp[h1.symm.trans e]
   rw[if_neg a,if_neg b];exact c
  ·have d:¬q.1=k:=λz=>e (h1.trans z);have a:decide (p.1≠k)=true:=by simp[e]
   have b:decide (q.1≠k)=true:=by simp[d]
   rw[if_pos a,if_pos b];exact .cons ⟨h1,h2⟩ c
theorem KV.length{kvs:List (κ×V)}{vs:List (κ×Value)}(r:KV kvs vs):kvs.length=vs.length:=Paired.length r
theorem tW(kvs:List (κ×V))(k:κ):(gc kvs k).length<=kvs.length:=List.length_filter_le _ _
end
theorem gb{P:Program}{w:World}{k:aT}{u:Value}(r:aN (kV k) u):(aX P w).is k u=true:=by
 cases k with
 |inl i=>obtain⟨t,e⟩:=(show∃t,u=Value.int i t from r);subst e;exact mi P w i t
 |inr x=>obtain⟨t,e⟩:=(show∃t,u=Value.str x t from r);subst e;exact mh P w x t
theorem j6{P:Program}{w:World}:∀{a:List aT}{us:List Value},bc (a.map kV) us->ItemsAre (aX P w) a us
 |[],_,r=>by rw[List.map_nil]at r;cases r;exact .nil
 |k::a,_,r=>by
  rw[List.map_cons]at r;cases r with
  |cons h t=>exact .cons (gb h) (j6 t)
abbrev KT(H:Hp):List (List aT×V)->List (List aT×Addr×Value)->Prop:=Paired λp q=>p.1=q.1/\H q.2.1=some (.tup (p.1.map kV))/\aN p.2 q.2.2
theorem KT.val{H:Hp}{kvs:List (List aT×V)}{xs:List (List aT×Addr×Value)}(r:KT H kvs xs)(k:List aT):RelO (valV kvs k) ((atKey xs k).map (·.2)):=by
 induction r with
 |nil=>exact True.intro
 | @cons p q ps c h t d=>
  obtain⟨h1,_,h2⟩:=h;by_cases e:p.1=k
  ·have a:q.1=k:=h1.symm.trans e;have b:atKey (q::c) k=some q.2:=by simp[atKey,List.find?_cons,a]
   rw[bH e,b];exact h2
  ·have a:¬q.1=k:=λz=>e (h1.trans z);have b:atKey (q::c) k=atKey c k:=by simp[atKey,List.find?_cons,a]
   rw[bI e,b];exact d
theorem KT.repl{H:Hp}{kvs:List (List aT×V)}{xs:List (List aT×Addr×Value)}(r:KT H kvs xs)(k:List aT){y:V}{u:Value}(c:aN y u):
  KT H (kvs.map λkv=>if kv.1=k then(kv.1,y)else kv) (xs.map (putAt k u)):=by
 induction r with
 |nil=>exact .nil
 | @cons p q ps d h t b=>
  rw[List.map_cons,List.map_cons];refine .cons ?_ b;obtain⟨h1,h2,a⟩:=h;unfold putAt;by_cases e:p.1=k
  ·rw[if_pos e,if_pos (h1.symm.trans e)];exact⟨h1,h2,c⟩
  ·rw[if_neg e,if_neg (λz=>e (h1.trans z))];exact⟨h1,h2,a⟩
theorem KT.put{H:Hp}{kvs:List (List aT×V)}{xs:List (List aT×Addr×Value)}(r:KT H kvs xs)(k:List aT){b:Addr}{y:V}{u:Value}(c:H b=some (.tup (k.map kV)))(a:aN y u):
  KT H (b5 kvs k y) (storedH xs k b u):=by
 have e:(kvs.any λkv=>decide (kv.1=k))=(atKey xs k).isSome:=by
  rw[cH,(r.val k).isSome_eq,Option.isSome_map]
 unfold b5 storedH;rw[e];by_cases q:(atKey xs k).isSome=true
 ·rw[if_pos q,if_pos q];exact r.repl k a
 ·rw[if_neg q,if_neg q];exact Paired.snoc r ⟨rfl,c,a⟩
theorem KT.keeps{H H':Hp}{kvs:List (List aT×V)}{xs:List (List aT×Addr×Value)}(r:KT H kvs xs)(a:∀b ys,H b=some (.tup ys)->H' b=some (.tup ys)):KT H' kvs xs:=
 Paired.mapP r λ_ _ z=>⟨z.1,a _ _ z.2.1,z.2.2⟩
section
variable{P:Program}{w:World}{H:Hp}{h:Heap}{a:Addr}
theorem yD{u:HO}(ok:fb P w H h)(e:Rd H a u):ObjOk P w H h a u:=e.ok ok
theorem dJ{kvs:List (aT×V)}(ok:fb P w H h)(e:Rd H a (.dK kvs)):kvs.length<=sizeLine/\(a==sysModules)=false/\∃vs,KV kvs vs/\h.DictOf (aX P w) a vs:=
 show ObjOk P w H h a (.dK kvs)from yD ok e
theorem pC{kvs:List (aT×V)}(ok:fb P w H h)(e:H a=some (.dK kvs)):kvs.length<=sizeLine/\(a==sysModules)=false/\∃vs,KV kvs vs/\h.DictOf (aX P w) a vs:=dJ ok (.inl e)
theorem ia{c:List aT}(ok:fb P w H h)(e:H a=some (.tup (c.map kV))):(tupleKind (aX P w)).is h c a:=by
 obtain⟨_,b,r,o,h1,h2,n,d⟩:=(show ObjOk P w H h a (.tup (c.map kV))from ok a _ e);exact⟨o,b.toArray,n,h1,h2,d,by simpa using j6 r⟩
theorem jv{kvs:List (List aT×V)}(ok:fb P w H h)(e:Rd H a (.dT kvs)):kvs.length<=sizeLine/\(a==sysModules)=false/\
  ∃xs,KT H kvs xs/\h.DictOfH (tupleKind (aX P w)) a xs:=by
 obtain⟨z,y,xs,r,o,es,ep,h1,h2,d,f,g⟩:=(show ObjOk P w H h a (.dT kvs)from yD ok e);refine⟨z,y,xs,r,o,es,ep,h1,h2,d,f,λx b=>?_,g⟩;have all:∀{l:List (List aT×V)}{m:List (List aT×Addr×Value)},KT H l m->∀x∈m,(tupleKind (aX P w)).is h x.1 x.2.1:=by
  intro l m q;induction q with
  |nil=>intro x b;exact nomatch b
  | @cons p q ps j c t i=>
   intro x b;rcases List.mem_cons.mp b with e|b
   ·subst e;exact ia ok (by rw[<-c.1];exact c.2.1)
   ·exact i x b
 exact all r x b
theorem BP{kvs:List (List aT×V)}(ok:fb P w H h)(e:H a=some (.dT kvs)):kvs.length<=sizeLine/\(a==sysModules)=false/\
  ∃xs,KT H kvs xs/\h.DictOfH (tupleKind (aX P w)) a xs:=jv ok (.inl e)
end
def cD(H:Hp)(a:Addr)(y:V)(r:Option V):Prop:=
 (∃kvs k,Rd H a (.dK kvs)/\y=kV k/\r=valV kvs k)\/∃kvs k b,Rd H a (.dT kvs)/\y=.ref b/\H b=some (.tup (k.map kV))/\r=valV kvs k
def iC(H:Hp)(a:Addr)(y v:V)(H':Hp):Prop:=
 (∃kvs k,H a=some (.dK kvs)/\y=kV k/\kvs.length<sizeLine/\H'=upd H a (.dK (b5 kvs k v)))\/
 ∃kvs k b,H a=some (.dT kvs)/\y=.ref b/\H b=some (.tup (k.map kV))/\kvs.length<sizeLine/\H'=upd H a (.dT (b5 kvs k v))
theorem cD.k{H:Hp}{a:Addr}{kvs:List (aT×V)}{k:aT}(e:H a=some (.dK kvs)):cD H a (kV k) (valV kvs k):=.inl ⟨kvs,k,.inl e,rfl,rfl⟩
theorem iC.k{H:Hp}{a:Addr}{kvs:List (aT×V)}{k:aT}{v:V}(e:H a=some (.dK kvs))(b:kvs.length<sizeLine):iC H a (kV k) v (upd H a (.dK (b5 kvs k v))):=.inl ⟨kvs,k,e,rfl,b,rfl⟩
section
variable{X:Cx}{pins:List (Addr×Obj)}{σ:St}{H:Hp}{s:Shared}{a:Addr}{y v:V}{u r:Value}{o:Option V}{A:Around}{E:Value->Shared->Prop}
theorem Inv.big(I:Inv X pins σ H s):sysModules<s.heap.objs.size:=by
 have h:mainGlobals<s.heap.objs.size:=(I.mod.glob.keeps I.bk).lt;exact Nat.lt_trans Qd h
theorem qG{Q:Value->Shared->Prop}(q:A.units+1<cLine)(I:Inv X pins σ H s)(g:cD H a y (some v))(j:aN y u)(h:∀w' s',Inv X pins σ H s'->aN v w'->Q w' s'):
  wpAny (model X.prog X.w) A (getItem (.ref a) u) Q E s:=by
 rcases g with⟨kvs,k,e,f,l⟩|⟨kvs,k,b,e,f,m,l⟩
 ·subst f;obtain⟨z,hd,vs,c,dd⟩:=dJ I.hok e;obtain⟨w',hw,d⟩:=RelO.some_of (v:=v) (o:=valueAt vs k) (by rw[l];exact c.val k);exact wpAny_getItem_of (gb j) dd.mapOf hw (h w' _ (I.tok _) d)
 ·subst f;cases(show u=Value.ref b from j);obtain⟨z,hd,xs,c,dd⟩:=jv I.hok e;obtain⟨w',hw,d⟩:=RelO.some_of (v:=v) (o:=(atKey xs k).map (·.2)) (by rw[l];exact c.val k);obtain⟨p,n,i⟩:=Option.map_eq_some_iff.mp hw;refine wpAny_getItem_heap (tupleKind_room_in1 q) (ia I.hok m) dd n ?_;rw[i];exact h w' _ (I.tok _) d
theorem CZ{Q:Value->Shared->Prop}(j:A.units+1<cLine)(I:Inv X pins σ H s)(g:cD H a y o)(f:aN y u)(h:∀s',Inv X pins σ H s'->Q (.bool o.isSome) s'):
  wpAny (model X.prog X.w) A (compareOp .In u (.ref a)) Q E s:=by
 rcases g with⟨kvs,k,e,d,l⟩|⟨kvs,k,b,e,d,i,l⟩
 ·subst d;obtain⟨z,hd,vs,c,dd⟩:=dJ I.hok e;refine wpAny_in_of (gb f) hd dd.mapOf ?_;rw[<-(c.val k).isSome_eq,<-l];exact h _ (I.tok _)
 ·subst d;cases(show u=Value.ref b from f);obtain⟨z,hd,xs,c,dd⟩:=jv I.hok e;refine wpAny_in_heap (tupleKind_room_in1 j) (ia I.hok i) hd dd ?_;have q:=(c.val k).isSome_eq;rw[Option.isSome_map]at q;rw[<-q,<-l];exact h _ (I.tok _)
theorem xN{Q:Value->Shared->Prop}(j:A.units+1<cLine)(I:Inv X pins σ H s)(g:cD H a y o)(f:aN y u)(h:∀s',Inv X pins σ H s'->Q (.bool (!o.isSome)) s'):
  wpAny (model X.prog X.w) A (compareOp .NotIn u (.ref a)) Q E s:=by
 rcases g with⟨kvs,k,e,d,l⟩|⟨kvs,k,b,e,d,i,l⟩
 ·subst d;obtain⟨z,hd,vs,c,dd⟩:=dJ I.hok e;refine wpAny_notIn_of (gb f) hd dd.mapOf ?_;rw[<-(c.val k).isSome_eq,<-l];exact h _ (I.tok _)
 ·subst d;cases(show u=Value.ref b from f);obtain⟨z,hd,xs,c,dd⟩:=jv I.hok e;refine wpAny_notIn_heap (tupleKind_room_in1 j) (ia I.hok i) hd dd ?_;have q:=(c.val k).isSome_eq;rw[Option.isSome_map]at q;rw[<-q,<-l];exact h _ (I.tok _)
theorem gQ{h':Heap}{t':Nat}{ob:HO}(I:Inv X pins σ H s)(g:Cg (H a))(f:Heap.SameBut a s.heap h')(d:∃q,h'.get? a=some q)(new:ObjOk X.prog X.w (upd H a ob) h' a ob):
  Inv X pins σ (upd H a ob) {s with heap:=h',toks:=t'}:=
 I.write (x:=a) (e:=a) g (.inl rfl) (λb q c z=>(f.2 b c).trans z) d new
theorem jw{P:Program}{w:World}{H':Hp}{h':Heap}{kvs:List (aT×V)}{vs:List (aT×Value)}(z:kvs.length<=sizeLine)(hd:(a==sysModules)=false)(b:KV kvs vs)(dd:h'.DictOf (aX P w) a vs):
  ObjOk P w H' h' a (.dK kvs):=⟨z,hd,vs,b,dd⟩
theorem qD{H':Hp}{Q:Unit->Shared->Prop}(G:A.units+1<cLine)(I:Inv X pins σ H s)(g:iC H a y v H')(x:aN y u)(w:aN v r)(h:∀s',Inv X pins σ H' s'->Q () s'):
  wpAny (model X.prog X.w) A (setItem (.ref a) u r) Q E s:=by
 rcases g with⟨kvs,k,e,m,l,j⟩|⟨kvs,k,b,e,m,t,l,j⟩
 ·subst m j;obtain⟨z,hd,vs,d,dd⟩:=pC I.hok e;have p:vs.length<=sizeLine:=by rw[<-d.length];exact z
  have n:(b5 kvs k v).length<=sizeLine:=by have:=dW kvs k v;omega
  refine wpAny_setItem_pairs (hsz:=p) (gb x) dd λh' f o=>h _ ?_;have F:∃q,h'.get? a=some q:=let⟨q,_,_,i,_⟩:=f;⟨q,i⟩;exact gQ I (by rw[e];exact True.intro) o F (jw n hd (d.put k w) f)
 ·subst m j;cases(show u=Value.ref b from x);obtain⟨z,hd,xs,d,dd⟩:=BP I.hok e;have p:xs.length<=sizeLine:=by rw[<-Paired.length d];exact z
  have n:(b5 kvs k v).length<=sizeLine:=by have:=dW kvs k v;omega
  refine wpAny_setItem_heap (hsz:=p) (tupleKind_room_in1 G) (ia I.hok t) dd λh' f o=>h _ ?_;obtain⟨q,es,ep,i,h2,B,C,_,D⟩:=f;refine gQ I (by rw[e];exact True.intro) o ⟨q,i⟩ ⟨n,hd,_,(d.put k t w).keeps λc ys ec=>?_,q,es,ep,i,h2,B,C,D⟩;rw[ah (bM ec e (λz=>nomatch z))];exact ec
end
section
variable{X:Cx}{pins:List (Addr×Obj)}{σ:St}{H:Hp}{s:Shared}{a:Addr}{kvs:List (aT×V)}{k:aT}{u:Value}{A:Around}{E:Value->Shared->Prop}
theorem BQ{v:V}{b:List Value}{Q:Value->Shared->Prop}(I:Inv X pins σ H s)(e:H a=some (.dK kvs))(g:aN (kV k) u)(l:valV kvs k=some v)(j:b=[]\/∃x,b=[x])
  (h:∀w' s',Inv X pins σ (upd H a (.dK (gc kvs k))) s'->aN v w'->Q w' s'):wpAny (model X.prog X.w) A (call (.builtin "dict.pop") (.ref a::u::b)) Q E s:=by
 obtain⟨z,hd,vs,c,dd⟩:=pC I.hok e;obtain⟨w',hw,f⟩:=RelO.some_of (v:=v) (o:=valueAt vs k) (by rw[<-l];exact c.val k);have p:(keyPart u).isSome=true:=by
  cases k with
  |inl i=>obtain⟨t,q⟩:=(show∃t,u=Value.int i t from g);subst q;rfl
  |inr x=>obtain⟨t,q⟩:=(show∃t,u=Value.str x t from g);subst q;rfl
 have m:argsOk "dict.pop" ⟨.ref a::u::b,[]⟩:=by
  rcases j with q|⟨x,q⟩
  ·subst q;exact PySem.F.args_dict_pop_2 _ _
  ·subst q;exact PySem.F.args_dict_pop_3 _ _ _
 refine call_meetsIn PySem.F.slot_dict_pop dd.typeIs PySem.F.entry_dict_pop m (meets_dict_pop_there (aX X.prog X.w) a (gb g) b j p)
  ⟨vs,w',dd,by rw[<-c.length];exact z,hw,λh' d y=>h w' _ ?_ f⟩
 have n:∃q,h'.get? a=some q:=let⟨q,_,_,w,_⟩:=d;⟨q,w⟩;exact gQ I (by rw[e];exact True.intro) y n (jw (Nat.le_trans (tW kvs k) z) hd (c.drop k) d)
theorem BR{Q:Value->Shared->Prop}(I:Inv X pins σ H s)(e:Rd H a (.dK kvs))(h:∀t s',Inv X pins σ H s'->Q (.int kvs.length t) s'):wpAny (model X.prog X.w) A (call (.builtin "len") [.ref a]) Q E s:=by
 obtain⟨z,hd,vs,b,dd⟩:=dJ I.hok e;refine call_len_dict hd dd (by rw[<-b.length];rw[sizeLine_eq]at z;omega) ?_;rw[<-b.length];exact h _ _ (I.tok _)
end
def Ce(i:Expr):Prop:=∀b a,subscripted i false b a=operate [b,a] (getItem b a)
theorem uS{prog:Program}{w:World}{A:Around}{E:Value->Shared->Prop}{s:Shared}{env:Env}{value a:Expr}{pos:Pos}{T id:String}{Q:Value->Shared->Prop}
  (l:typeLookup (.type T) "__getitem__"=pure (some (.builtin id)))(m:Ce a)
  (h:wpAny (model prog w) A (eval value env) (λo d=>wpAny (model prog w) A (eval a env) (λi b=>b.TypeIs o T/\wpAny (model prog w) A (getItem o i) Q E b) E d) E s):
  wpAny (model prog w) A (eval (.Subscript value a pos) env) Q E s:=by
 refine Subscript_ (wpAny_mono h (λo d g=>wpAny_mono g (λi b c=>?_) λ_ _ x=>x) λ_ _ x=>x);obtain⟨k,c⟩:=c;unfold subscriptTail;refine wpAny_bind ?_;rw[getitemInPython_of_ne k.not_modules];refine wpAny_bind (wpAny_specialOf k l ?_);have f:wpAny (model prog w) A (subscripted a false o i) (λr e=>wpAny (model prog w) A (letTemporaryGo value o r>>=λ_=>pure r) Q E e) E b:=by
  rw[m o i];exact wpAny_operating (wpAny_mono c (λr e j=>wpAny_bind (wpAny_letTemporaryGo (wpAny_pure j))) λ_ _ x=>x)
 first
  |exact wpAny_pure (wpAny_bind f)
  |exact wpAny_bind (wpAny_pure (wpAny_bind f))
  |exact wpAny_bind f
theorem mF{X:Cx}{pins:List (Addr×Obj)}{σ:St}{H:Hp}{s:Shared}{a:Addr}{y:V}{o:Option V}(I:Inv X pins σ H s)(g:cD H a y o):s.TypeIs (.ref a) "dict":=by
 rcases g with⟨kvs,k,e,_,_⟩|⟨kvs,k,b,e,_,_,_⟩
 ·obtain⟨_,_,vs,_,dd⟩:=dJ I.hok e;exact dd.typeIs
 ·obtain⟨_,_,xs,_,dd⟩:=jv I.hok e;exact dd.typeIs
def A7(td ty:TE):TE:=λσ H Q=>td σ H λx H1=>ty σ H1 λy H2=>∃a v,x=.ref a/\cD H2 a y (some v)/\Q v H2
def CC(ty td:TE):TE:=λσ H Q=>ty σ H λy H1=>td σ H1 λx H2=>∃a o,x=.ref a/\cD H2 a y o/\Q (.bl o.isSome) H2
def uR(ty td:TE):TE:=λσ H Q=>ty σ H λy H1=>td σ H1 λx H2=>∃a o,x=.ref a/\cD H2 a y o/\Q (.bl (!o.isSome)) H2
def Bg(td ty tv:TE):TS:=λD σ H=>tv σ H λv H1=>td σ H1 λx H2=>ty σ H2 λy c=>∃a b,x=.ref a/\iC c a y v b/\D.nx σ b
section
variable{X:Cx}{o i e value:Expr}{pos pos' tpos:Pos}{td ty tv:TE}
theorem cG(k:X.A.units+1<cLine)(f:PE X o td)(hi:PE X i ty)(j:Ce i):PE X (.Subscript o i pos) (A7 td ty):=by
 intro pins s σ H Q I h;refine uS PySem.F.slot_dict_getitem.lookup j (bx (f pins s σ H _ I h) λu n⟨x,H1,d,l,q1⟩=>bx (hi pins n σ H1 _ d q1) λp q⟨y,H2,c,m,a,v,ex,g,q2⟩=>?_);subst ex;obtain rfl:u=Value.ref a:=l;exact⟨mF c g,qG k c g m λw' t e b=>⟨v,H2,e,b,q2⟩⟩
theorem jf(f:X.A.units+1<cLine)(hi:PE X i ty)(e:PE X o td):PC X .In i o (CC ty td):=by
 intro pins s σ H Q I h;refine bx (hi pins s σ H _ I h) λn m⟨y,H1,b,l,q1⟩=>bx (e pins m σ H1 _ b q1) λu p⟨x,H2,c,k,a,j,ex,g,q2⟩=>?_;subst ex;obtain rfl:u=Value.ref a:=k;exact CZ f c g l λq d=>⟨.bl j.isSome,H2,d,rfl,q2⟩
theorem dw(f:X.A.units+1<cLine)(hi:PE X i ty)(e:PE X o td):PC X .NotIn i o (uR ty td):=by
 intro pins s σ H Q I h;refine bx (hi pins s σ H _ I h) λn m⟨y,H1,b,l,q1⟩=>bx (e pins m σ H1 _ b q1) λu p⟨x,H2,c,k,a,j,ex,g,q2⟩=>?_;subst ex;obtain rfl:u=Value.ref a:=k;exact xN f c g l λq d=>⟨.bl (!j.isSome),H2,d,rfl,q2⟩
theorem dQ(l:X.A.units+1<cLine)(j:PE X o td)(hi:PE X i ty)(m:PE X value tv)(k:swapsWith value (some (.Subscript o i pos')) pos.line X.env=pure false):
  PS X (.Assign [.Subscript o i pos'] value pos) (Bg td ty tv):=by
 intro pins s σ H D I h;refine wpAny_Assign_Subscript (bx (m pins s σ H _ I h) λr t⟨v,H1,c,n,q1⟩=>bx (j pins t σ H1 _ c q1) λu w⟨x,H2,d,p,q2⟩=>bx (hi pins w σ H2 _ d q2) λA B⟨y,z,e,q,a,b,ex,g,q3⟩=>?_) k;subst ex;obtain rfl:u=Value.ref a:=p;exact qD l e g q n λC f=>⟨σ,b,f,q3⟩
end
theorem mE{P:Program}{w:World}{H:Hp}(h:Heap)(a:sysModules<h.objs.size):ObjOk P w H (h.push {cls:=.type "dict",data:=.dict #[]}) h.objs.size (.dK []):=
 ⟨Nat.zero_le _,beq_eq_false_iff_ne.mpr (Ne.symm (Nat.ne_of_lt a)),[],.nil,Heap.DictOf.new h⟩
def zE:TE:=λ_ H Q=>∀p,H p=none->Q (.ref p) (upd H p (.dK []))
section
variable{X:Cx}{pos:Pos}
theorem fo:PE X (.Dict [] [] pos) zE:=λpins s σ H Q I h=>
 wpAny_Dict_empty ⟨.ref s.heap.objs.size,_,I.laid (a:=s.heap.objs.size) (o:=.dK []) (t':=s.toks) (λ_ _ q=>Heap.get?_push_of_some _ q) (Nat.le_refl _) (mE s.heap I.big),rfl,h _ (I.hok.fresh (Nat.le_refl _))⟩
end
def mT:List (TE×TE)->St->Hp->(List (V×V)->Hp->Prop)->Prop
 |[],_,H,Q=>Q [] H
 |(tk,tv)::r,σ,H,Q=>tk σ H λx H1=>tv σ H1 λy H2=>mT r σ H2 λps a=>Q ((x,y)::ps) a
abbrev VV:List (V×V)->List (Value×Value)->Prop:=Paired λp q=>aN p.1 q.1/\aN p.2 q.2
def PPs(X:Cx)(pos:Pos)(b:List (Option Expr))(a:List Expr)(c:List (TE×TE)):Prop:=
 ∀(pins:List (Addr×Obj))(s:Shared)(σ:St)(H:Hp)(Q:List (V×V)->Hp->Prop),Inv X pins σ H s->mT c σ H Q->
  wpAny (model X.prog X.w) X.A (evalPairs (pairTrees b a X.env pos)) (λvs s'=>∃ps H',Inv X pins σ H' s'/\VV ps vs/\Q ps H') X.xe s
theorem vT{X:Cx}{pos:Pos}:PPs X pos [] [] []:=λpins s σ H Q I h=>pairTrees_nil_walk ⟨[],H,I,.nil,h⟩
theorem rZ{X:Cx}{pos:Pos}{k v:Expr}{c:List (Option Expr)}{vs:List Expr}{tk tv:TE}{a:List (TE×TE)}(i:PE X k tk)(l:PE X v tv)(j:PPs X pos c vs a):
  PPs X pos (some k::c) (v::vs) ((tk,tv)::a):=λpins s σ H Q I h=>
 pairTrees_cons_walk (bx (i pins s σ H _ I h) λu o⟨x,H1,e,m,q1⟩=>bx (l pins o σ H1 _ e q1) λt p⟨y,H2,f,n,q2⟩=>
  bx (j pins p σ H2 _ f q2) λws q⟨ps,d,g,b,q3⟩=>⟨(x,y)::ps,d,g,.cons ⟨m,n⟩ b,q3⟩)
def cz(kvs a:List (aT×V)):List (aT×V):=a.foldl (λacc kv=>b5 acc kv.1 kv.2) kvs
theorem KV.merge:∀{a:List (aT×V)}{b:List (aT×Value)}{kvs:List (aT×V)}{vs:List (aT×Value)},KV a b->KV kvs vs->KV (cz kvs a) (merged vs b):=by
 intro a b kvs vs r;unfold KV at r;induction r generalizing kvs vs with
 |nil=>intro q;exact q
 | @cons p q ps f h t c=>
  intro d;have e:KV (b5 kvs p.1 p.2) (stored vs q.1 q.2):=by
   have:=d.put p.1 h.2;rw[<-h.1];exact this
  exact c e
theorem d9:∀(a kvs:List (aT×V)),(cz kvs a).length<=kvs.length+a.length
 |[],kvs=>by show kvs.length<=kvs.length+0;omega
 |p::r,kvs=>by
  have h1:=d9 r (b5 kvs p.1 p.2);have h2:=dW kvs p.1 p.2;show(cz (b5 kvs p.1 p.2) r).length<=_;rw[List.length_cons];omega
theorem jA{P:Program}{w:World}:∀{kvs:List (aT×V)}{ws:List (Value×Value)},VV (kvs.map λkv=>(kV kv.1,kv.2)) ws->∃d,Carries (aX P w) ws d/\KV kvs d
 |[],_,r=>by rw[List.map_nil]at r;cases r;exact⟨[],True.intro,.nil⟩
 |p::kvs,_,r=>by
  rw[List.map_cons]at r;cases r with
  | @cons a b f bs h t=>
   obtain⟨d,c,q⟩:=jA (P:=P) (w:=w) t;obtain⟨g,e⟩:=b;exact⟨(p.1,e)::d,⟨gb h.1,rfl,c⟩,.cons ⟨rfl,h.2⟩ q⟩
def A6(a:List (TE×TE)):TE:=λσ H Q=>∀p,H p=none->mT a σ (upd H p (.dK [])) λps H2=>H2 p=some (.dK [])/\∃kvs:List (aT×V),ps=kvs.map (λkv=>(kV kv.1,kv.2))/\kvs.length<=15/\Q (.ref p) (upd H2 p (.dK (cz [] kvs)))
theorem vY{X:Cx}{pos:Pos}{b:List (Option Expr)}{d:List Expr}{i:List (TE×TE)}(h:PPs X pos b d i)(g:b.all (·.isSome)=true)(p:b.length=d.length)(h0:b≠ [])
  (j:b.length<=15):PE X (.Dict b d pos) (A6 i):=by
 intro pins s σ H Q I q;have hn:=I.hok.fresh (Nat.le_refl s.heap.objs.size);have m:=I.laid (a:=s.heap.objs.size) (o:=.dK []) (h':=s.heap.push {cls:=.type "dict",data:=.dict #[]}) (t':=s.toks) (λ_ _ q=>Heap.get?_push_of_some _ q) (Nat.le_refl _) (mE s.heap I.big);refine wpAny_Dict_walk (knd:=aX X.prog X.w) g p h0 j (bx (h pins _ σ _ _ m (q _ hn)) λws D⟨ps,H2,l,k,e,kvs,ep,C,q2⟩=>?_);subst ep;obtain⟨A,c,y⟩:=jA (P:=X.prog) (w:=X.w) k;obtain⟨z,hd,B,x,dd⟩:=pC l.hok e;cases x;refine⟨A,c,dd,λh' f u=>⟨.ref s.heap.objs.size,_,?_,rfl,q2⟩⟩;have v:(cz [] kvs).length<=sizeLine:=by
  have h1:=d9 kvs [];rw[List.length_nil]at h1;rw[sizeLine_eq];omega
 have n:∃q,h'.get? s.heap.objs.size=some q:=let⟨q,_,_,t,_⟩:=f;⟨q,t⟩;exact gQ l (by rw[e];exact True.intro) u n (jw v hd (y.merge .nil) f)
structure M1(X:Cx)(o:Expr)(m:Str)(apos:Pos)(e:Expr)(cpos:Pos):Prop where
 base:attributeBase o m X.env (eval o X.env)=eval o X.env
 few:((backTo cpos (starEach [e] X.env)).all (λx=>!x.1)&&(backToKw cpos (keywordEach [] X.env)).all (λx=>x.1.isSome)
  &&decide (([e]:List Expr).length +([]:List Keyword).length +(if([]:List Keyword).isEmpty then 0 else 1)<30))=true
 line:(apos.endLine==cpos.line)=true
 trees:backTo cpos (starEach [e] X.env)=[(false,eval e X.env)]
structure M2(X:Cx)(o:Expr)(m:Str)(apos:Pos)(e f:Expr)(cpos:Pos):Prop where
 base:attributeBase o m X.env (eval o X.env)=eval o X.env
 few:((backTo cpos (starEach [e,f] X.env)).all (λx=>!x.1)&&(backToKw cpos (keywordEach [] X.env)).all (λx=>x.1.isSome)
  &&decide (([e,f]:List Expr).length +([]:List Keyword).length +(if([]:List Keyword).isEmpty then 0 else 1)<30))=true
 line:(apos.endLine==cpos.line)=true
 trees:backTo cpos (starEach [e,f] X.env)=[(false,eval e X.env),(false,eval f X.env)]
def Cr(H:Hp)(a:Addr):Prop:=(∃kvs,Rd H a (.dK kvs))\/∃kvs,Rd H a (.dT kvs)
theorem nW{X:Cx}{pins:List (Addr×Obj)}{σ:St}{H:Hp}{s:Shared}{a:Addr}(I:Inv X pins σ H s)(d:Cr H a):
  s.TypeIs (.ref a) "dict"/\(∀b,Value.ref a=.ref b->∃ob,s.heap.get? b=some ob/\ob.dict=none)/\(a==sysModules)=false:=by
 rcases d with⟨kvs,e⟩|⟨kvs,e⟩
 ·obtain⟨_,hd,vs,_,dd⟩:=dJ I.hok e;refine⟨dd.typeIs,λb q=>?_,hd⟩;cases q;obtain⟨ob,_,_,h1,h2,_⟩:=dd;exact⟨ob,h1,h2.2.1⟩
 ·obtain⟨_,hd,xs,_,dd⟩:=jv I.hok e;refine⟨dd.typeIs,λb q=>?_,hd⟩;cases q;obtain⟨ob,_,_,h1,h2,_⟩:=dd;exact⟨ob,h1,h2.2.1⟩
section
variable{X:Cx}{pins:List (Addr×Obj)}{σ:St}{H:Hp}{s:Shared}{a:Addr}{y d:V}{u r:Value}{o:Option V}{A:Around}{E:Value->Shared->Prop}
theorem At{Q:Value->Shared->Prop}(m:A.units+1<cLine)(I:Inv X pins σ H s)(g:cD H a y o)(i:aN y u)(rd:aN d r)(h:∀w' s',Inv X pins σ H s'->aN (o.getD d) w'->Q w' s'):
  wpAny (model X.prog X.w) A (call (.builtin "dict.get") [.ref a,u,r]) Q E s:=by
 rcases g with⟨kvs,k,e,f,l⟩|⟨kvs,k,b,e,f,j,l⟩
 ·subst f;obtain⟨z,hd,vs,c,dd⟩:=dJ I.hok e;refine call_meetsIn PySem.F.slot_dict_get dd.typeIs PySem.F.entry_dict_get (PySem.F.args_dict_get_3 _ _ _) (meets_dict_get_default (aX X.prog X.w) a (gb i) hd r) ⟨_,dd.mapOf,h _ _ (I.tok _) ?_⟩;rw[l];exact(c.val k).getD rd
 ·subst f;cases(show u=Value.ref b from i);obtain⟨z,hd,xs,c,dd⟩:=jv I.hok e;refine call_meetsIn PySem.F.slot_dict_get dd.typeIs PySem.F.entry_dict_get (PySem.F.args_dict_get_3 _ _ _) (meetsH_dict_get_default (tupleKind (aX X.prog X.w)) a b hd r) ⟨tupleKind_room_in1 m,k,xs,ia I.hok j,dd,h _ _ (I.tok _) ?_⟩;rw[l];exact(c.val k).getD rd
end
def zF(td ty tx:TE):TE:=λσ H Q=>td σ H λx H1=>∃a,x=.ref a/\Cr H1 a/\ty σ H1 λy H2=>tx σ H2 λz b=>∃o,cD b a y o/\Q (o.getD z) b
def zD(td ty:TE):TE:=λσ H Q=>td σ H λx H1=>∃a,x=.ref a/\Cr H1 a/\ty σ H1 λy H2=>∃kvs k v,H2 a=some (.dK kvs)/\y=kV k/\valV kvs k=some v/\Q v (upd H2 a (.dK (gc kvs k)))
section
variable{X:Cx}{o e f:Expr}{apos cpos:Pos}{td ty tx:TE}
theorem sj(t:X.A.units+1<cLine)(q:PE X o td)(n:PE X e ty)(p:PE X f tx)(m:M2 X o "get" apos e f cpos):PE X (.Call (.Attribute o "get" apos) [e,f] [] cpos) (zF td ty tx):=by
 intro pins s σ H Q I h;refine wpAny_Call_method m.base m.few m.line PySem.F.plainAttrs_dict PySem.F.slot_dict_get PySem.F.type_dict_get (bx (q pins s σ H _ I h) λu B⟨x,H1,c,v,a,ex,d,q1⟩=>?_);subst ex;obtain rfl:u=Value.ref a:=v;obtain⟨t1,t2,_⟩:=nW c d;refine⟨t1,t2,?_⟩;rw[m.trees];refine Calls.callWith_builtin rfl (Calls.evalArgs_plain (Calls.spliced_cons (bx (n pins B σ H1 _ c q1) λE C⟨y,H2,j,w,q2⟩=>
  Calls.spliced_cons (bx (p pins C σ H2 _ j q2) λD G⟨z,i,k,A,F,g,q3⟩=>Calls.spliced_nil ?_))))
 exact At t k g w A λw' J l b=>⟨_,i,l,b,q3⟩
theorem lY(p:PE X o td)(n:PE X e ty)(m:M1 X o "pop" apos e cpos):PE X (.Call (.Attribute o "pop" apos) [e] [] cpos) (zD td ty):=by
 intro pins s σ H Q I h;refine wpAny_Call_method m.base m.few m.line PySem.F.plainAttrs_dict PySem.F.slot_dict_pop PySem.F.type_dict_pop (bx (p pins s σ H _ I h) λu w⟨x,H1,c,q,a,ex,d,q1⟩=>?_);subst ex;obtain rfl:u=Value.ref a:=q;obtain⟨t1,t2,_⟩:=nW c d;refine⟨t1,t2,?_⟩;rw[m.trees];refine Calls.callWith_builtin rfl (Calls.evalArgs_plain (Calls.spliced_cons (bx (n pins w σ H1 _ c q1) λz A⟨y,H2,f,t,kvs,k,v,i,j,l,q2⟩=>Calls.spliced_nil ?_)));subst j;exact BQ f i t l (.inl rfl) λw' B g b=>⟨v,_,g,b,q2⟩
end
end L2
namespace HT
open PySem PyProof.Rows
section
variable{prog:Program}{w:World}{A:Around}{E:Value->Shared->Prop}{s:Shared}
def sIx(n d:Nat):Option Int->Nat
 |none=>d
 |some v=>if v<0 then(v+(n:Int)).toNat else min v.toNat n
theorem i9(n d:Nat):sIx n d none=d:=rfl
theorem kF(n d k:Nat):sIx n d (some (k:Int))=min k n:=by
 show(if(k:Int)<0 then((k:Int)+(n:Int)).toNat else min (k:Int).toNat n)=min k n;rw[if_neg Qo,Int.toNat_natCast]
theorem zK(n d:Nat)(hd:d<=n)(o:Option Int):sIx n d o<=n:=by
 cases o with
 |none=>exact hd
 |some v=>
  show(if v<0 then(v+(n:Int)).toNat else min v.toNat n)<=n;by_cases a:v<0
  ·rw[if_pos a];omega
  ·rw[if_neg a];exact Nat.min_le_right _ _
theorem k_(v:Int)(n d:Nat):(if v<0 then max (v+(n:Int)) 0 else min v (n:Int))=((sIx n d (some v):Nat):Int):=by
 show(if v<0 then max (v+(n:Int)) 0 else min v (n:Int))=(((if v<0 then(v+(n:Int)).toNat else min v.toNat n):Nat):Int);by_cases a:v<0
 ·simp only[if_pos a];omega
 ·simp only[if_neg a];omega
theorem n_(lo hi:Option Int)(n:Nat):Builtin.Slice.sliceAdjust lo hi 1 (n:Int)=(((sIx n 0 lo:Nat):Int),((sIx n n hi:Nat):Int)):=by
 have h1:¬((1:Int)<0):=Qo;unfold Builtin.Slice.sliceAdjust;simp only[h1,if_false];refine Prod.ext ?_ ?_
 ·cases lo with
  |none=>rfl
  |some v=>exact k_ v n 0
 ·cases hi with
  |none=>rfl
  |some v=>exact k_ v n n
theorem nw(i j:Nat):Builtin.Slice.slicePlaces (i:Int) (j:Int) 1=j-i:=by
 unfold Builtin.Slice.slicePlaces;have h1:(1:Int)>0:=Qo;simp only[h1,if_true,Int.ediv_one];split<;>omega
theorem i7{v:Value}{o:Option Int}{Q:Option Int->Shared->Prop}(p:IsPart v o)(h:Q o s):wpAny (model prog w) A (Builtin.Slice.slicePartIndex v) Q E s:=by
 cases p with
 |none=>exact slicePart_none h
 |int i t=>exact slicePart_int h
theorem gY{e:Addr}{c d:Value}{lo hi:Option Int}{n:Nat}{Q:Int×Int×Nat->Shared->Prop}(g:s.heap.IsSliceOf e c d .none)(pl:IsPart c lo)(i:IsPart d hi)
  (h:Q (((sIx n 0 lo:Nat):Int),1,sIx n n hi-sIx n 0 lo) s):wpAny (model prog w) A (Builtin.Slice.sliceApplied (.ref e) (pure (n:Int))) Q E s:=by
 obtain⟨os,b,f,a⟩:=id g;unfold Builtin.Slice.sliceApplied Builtin.Slice.sliceFields;refine wpAny_bind (wpAny_bind (wpAny_field b a (x:=c) rfl (wpAny_bind (wpAny_field b a (x:=d) rfl (wpAny_bind (wpAny_field b a (x:=.none) rfl (wpAny_pure ?_)))))));refine wpAny_bind (slicePart_none ?_);show wpAny _ _ (if((1:Int)==0)=true then _ else _) _ _ s;rw[if_neg Qd];refine wpAny_bind (i7 pl (wpAny_bind (i7 i (wpAny_bind (wpAny_pure ?_)))));show wpAny _ _ (match Builtin.Slice.sliceAdjust lo hi 1 (n:Int)with|(lo,hi)=>pure (lo,(1:Int),Builtin.Slice.slicePlaces lo hi 1)) _ _ s;rw[n_ lo hi n];show wpAny _ _ (pure (((sIx n 0 lo:Nat):Int),(1:Int),Builtin.Slice.slicePlaces ((sIx n 0 lo:Nat):Int) ((sIx n n hi:Nat):Int) 1)) _ _ s;rw[nw];exact wpAny_pure h
theorem r_(xs:Array Value)(i k:Nat):((List.range k).filterMap λ(m:Nat)=>xs[((i:Int)+(m:Int)*1).toNat]?).toArray=((xs.toList.drop i).take k).toArray:=by
 have e:(λ(m:Nat)=>xs[((i:Int)+(m:Int)*1).toNat]?)=λm=>xs[i+m]?:=by
  funext m;have:((i:Int)+(m:Int)*1).toNat=i+m:=Qo;rw[this]
 rw[e];have:=pick_run xs i k;rw[List.filterMap_map]at this;have a:((λx=>xs[x]?)∘λx=>i+x)=λm=>xs[i+m]?:=rfl;rw[a]at this;rw[this]
theorem gJ{t g:Addr}{items:Array Value}{j k:Value}{lo hi:Option Int}{Q:Value->Shared->Prop}(b:IsTup s.heap t items)(i:s.heap.IsSliceOf g j k .none)(pl:IsPart j lo)(n:IsPart k hi)
  (hw:¬(sIx items.size 0 lo=0/\sIx items.size items.size hi=items.size))
  (h:Q (.ref s.heap.objs.size) {s with heap:=s.heap.push {cls:=.type "tuple",data:=.seq ((items.toList.drop (sIx items.size 0 lo)).take (sIx items.size items.size hi-sIx items.size 0 lo)).toArray }})
  (hsz:items.size<=sizeLine):wpAny (model prog w) A (getItem (.ref t) (.ref g)) Q E s:=by
 have a:sizeOk (.seq ((items.toList.drop (sIx items.size 0 lo)).take (sIx items.size items.size hi-sIx items.size 0 lo)).toArray):=by
  show((items.toList.drop (sIx items.size 0 lo)).take (sIx items.size items.size hi-sIx items.size 0 lo)).toArray.size<=sizeLine;rw[List.size_toArray,List.length_take,List.length_drop,Array.length_toList];omega
 have o:sIx items.size items.size hi<=items.size:=zK _ _ (Nat.le_refl _) hi;obtain⟨os,f,d,l⟩:=id i;have c:s.TypeIs (.ref g) "slice":=⟨os,f,d⟩;unfold getItem
 try with_reducible refine wpAny_holding ?_
 first|refine wpAny_bind (wpAny_pure ?_)|skip
 refine wpAny_bind (wpAny_sequenceKey b.typeIs Qd ?_);refine wpAny_bind (wpAny_callSpecial?_slot (name:=Str.ofString "__getitem__") b.typeIs PyProof.Rows.slot_tuple_getitem
  (wpAny_call_entry PyProof.Rows.slot_tuple_getitem b.typeIs entry_tuple_getitem ?_ (args_tuple_getitem _ _)))
 show wpAny _ _ (Builtin.Tuple.tupleItemsOf (.ref t)>>=_) _ _ s;refine wpAny_bind (tupleItemsOf_ b ?_);refine wpAny_bind (wpAny_typeOf c ?_);rw[if_pos Qd];refine wpAny_bind (gY i pl n ?_);have e:¬((((sIx items.size 0 lo:Nat):Int)==0&&(1:Int)==1&&(sIx items.size items.size hi-sIx items.size 0 lo)==items.size)=true):=by
  intro q;rw[Bool.and_eq_true,Bool.and_eq_true]at q;have q1:((sIx items.size 0 lo:Nat):Int)=0:=eq_of_beq q.1.1;have q2:sIx items.size items.size hi-sIx items.size 0 lo=items.size:=eq_of_beq q.2;exact hw ⟨Qo,Qo⟩
 show wpAny _ _ (if(((sIx items.size 0 lo:Nat):Int)==0&&(1:Int)==1&&(sIx items.size items.size hi-sIx items.size 0 lo)==items.size)=true then _ else _) _ _ s;rw[if_neg e,r_]
 first
  |exact wpAny_bind (m:=Builtin.Tuple.tupleExact _) (wpAny_newObj_type (wpAny_pure ⟨_,rfl,wpAny_pure h⟩) a)
  |exact wpAny_bind (m:=Builtin.Tuple.tupleExact _) (wpAny_newObj_type (wpAny_bind (wpAny_pure (wpAny_pure ⟨_,rfl,wpAny_pure h⟩))) a)
  |exact wpAny_bind (wpAny_bind (m:=Builtin.Tuple.tupleExact _) (wpAny_newObj_type (wpAny_pure (wpAny_pure ⟨_,rfl,wpAny_pure h⟩)) a))
  |exact wpAny_bind (wpAny_bind (m:=Builtin.Tuple.tupleExact _) (wpAny_newObj_type (wpAny_pure ⟨_,rfl,wpAny_pure h⟩) a))
end
end HT
namespace L2
open PySem PySem.Spec PyProof.Rows
abbrev TO:=St->Hp->(Option Int->Hp->Prop)->Prop
def PO(X:Cx)(e:Option Expr)(t:TO):Prop:=
 ∀(pins:List (Addr×Obj))(s:Shared)(σ:St)(H:Hp)(Q:Option Int->Hp->Prop),Inv X pins σ H s->t σ H Q->
  wpAny (model X.prog X.w) X.A (evalPart e X.env) (λu s'=>∃o H',Inv X pins σ H' s'/\IsPart u o/\Q o H') X.xe s
def uQ:TO:=λ_ H Q=>Q none H
def AY(t:TE):TO:=λσ H Q=>t σ H λx H1=>∃i,x=.int i/\Q (some i) H1
section
variable{X:Cx}{e:Expr}{te:TE}{lo hi:Option Expr}{tl th:TO}{pos p2:Pos}
theorem gG:PO X none uQ:=by
 intro pins s σ H Q I h;rw[evalPart_none];exact wpAny_pure ⟨none,H,I,.none,h⟩
theorem gF(h:PE X e te):PO X (some e) (AY te):=by
 intro pins s σ H Q I hw;rw[evalPart_some];refine bx (h pins s σ H _ I hw) λu c⟨x,H1,a,b,q1⟩=>?_;obtain⟨i,rfl,q⟩:=q1;obtain⟨t,rfl⟩:=b;exact⟨some i,H1,a,.int i t,q⟩
def Cl(X:Cx)(r:V->Option Int->Option Int->Hp->VK->Prop):Prop:=
 ∀(pins:List (Addr×Obj))(s:Shared)(σ:St)(H:Hp)(x:V)(v b c:Value)(lo hi:Option Int)(a:Addr)(Q:VK),Inv X pins σ H s->aN x v->s.heap.IsSliceOf a b c .none->IsPart b lo->IsPart c hi->r x lo hi H Q->
  ∃T id,typeLookup (.type T) "__getitem__"=pure (some (.builtin id))/\s.TypeIs v T/\wpAny (model X.prog X.w) X.A (getItem v (.ref a)) (EP X pins σ Q) X.xe s
def DN(r:V->Option Int->Option Int->Hp->VK->Prop)(te:TE)(tl th:TO):TE:=λσ H Q=>te σ H λx H1=>tl σ H1 λl H2=>th σ H2 λu a=>r x l u a Q
theorem fk{r:V->Option Int->Option Int->Hp->VK->Prop}(t:Cl X r)(n:PE X e te)(p:PO X lo tl)(y:PO X hi th):PE X (.Subscript e (.Slice lo hi none p2) pos) (DN r te tl th):=by
 intro pins s σ H Q I h;refine Subscript_ (bx (n pins s σ H _ I h) λv B⟨x,H1,g,A,q1⟩=>?_);refine wpAny_Slice (bx (p pins B σ H1 _ g q1) λc C⟨l,H2,i,pl,q2⟩=>bx (y pins C σ H2 _ i q2) λd a⟨u,f,j,z,q3⟩=>?_);rw[evalPart_none];refine wpAny_pure ?_;have k:Inv X pins σ f {a with heap:=a.heap.push {cls:=.type "slice",data:=.fields #[c,d,.none]}}:=j.kept (t':=a.toks) λb ob q=>Heap.get?_push_of_some _ q;obtain⟨T,id,m,w,o⟩:=t pins {a with heap:=a.heap.push {cls:=.type "slice",data:=.fields #[c,d,.none]}} σ f x v c d l u a.heap.objs.size Q k A (Heap.IsSliceOf.new ..) pl z q3;show wpAny (model X.prog X.w) X.A (subscriptTail e (.Slice lo hi none p2) v (.ref a.heap.objs.size)) (EP X pins σ Q) X.xe {a with heap:=a.heap.push {cls:=.type "slice",data:=.fields #[c,d,.none]}};exact tail_any (ops:=[.ref a.heap.objs.size,v]) w m o Qw
def eR(xs:List V)(lo hi:Option Int):List V:=(xs.drop (HT.sIx xs.length 0 lo)).take (HT.sIx xs.length xs.length hi-HT.sIx xs.length 0 lo)
theorem fA(xs:List V)(lo hi:Option Int):(eR xs lo hi).length<=xs.length:=by
 unfold eR;rw[List.length_take,List.length_drop];omega
def CJ(K:PySem.W.Frag):V->Option Int->Option Int->Hp->VK->Prop:=λx lo hi H Q=>∃a xs,x=.ref a/\bj K H a xs/\
 ¬(HT.sIx xs.length 0 lo=0/\HT.sIx xs.length xs.length hi=xs.length)/\∀p,H p=none->Q (.ref p) (upd H p (.tup (eR xs lo hi)))
theorem mZ:Cl X (CJ X.K):=by
 intro pins s σ H x v m n lo hi l Q I k g pl j h;obtain⟨a,xs,rfl,i,hw,q⟩:=h;cases k;obtain⟨d,r,e,f⟩:=I.tuple i;have c:d.toArray.size=xs.length:=by rw[List.size_toArray];exact r.length.symm
 refine⟨"tuple",_,PyProof.Rows.slot_tuple_getitem.lookup,e.typeIs,?_⟩;refine HT.gJ e g pl j (by rw[c];exact hw) ?_ (by rw[c];exact f);rw[c];refine⟨.ref s.heap.objs.size,_,I.laid (t':=s.toks) (o:=.tup (eR xs lo hi)) (λb ob q=>Heap.get?_push_of_some _ q) (Nat.le_refl _) ?_,rfl,q _ (I.hok.fresh (Nat.le_refl _))⟩;exact⟨Nat.le_trans (fA xs lo hi) f,_,(r.drop (HT.sIx xs.length 0 lo)).take (HT.sIx xs.length xs.length hi-HT.sIx xs.length 0 lo),IsTup.new _ _⟩
end
def yN(n:Nat)(i:Int):Option Nat:=if 0<=i then(if i<n then some i.toNat else none)else if-(n:Int)<=i then some (i+n).toNat else none
def ko{a:Type}(xs:List a)(i:Int):Option a:=(yN xs.length i).bind λj=>xs[j]?
theorem xF{n:Nat}{i:Int}{j:Nat}(h:yN n i=some j):seqIndex? i n=some j/\j<n/\-(n:Int)<=i/\i<n:=by
 unfold yN at h;by_cases h0:0<=i
 ·rw[if_pos h0]at h;by_cases h1:i<n
  ·rw[if_pos h1]at h;have e:i.toNat=j:=Option.some.inj h;exact⟨by rw[seqIndex_of h0 h1,e],Qo,Qo,h1⟩
  ·rw[if_neg h1]at h;cases h
 ·rw[if_neg h0]at h;by_cases h1:-(n:Int)<=i
  ·rw[if_pos h1]at h;have e:(i+n).toNat=j:=Option.some.inj h;exact⟨by rw[seqIndex_neg Qo h1,e],Qo,h1,Qo⟩
  ·rw[if_neg h1]at h;cases h
theorem le{a:Type}{xs:List a}{i:Int}{v:a}(h:ko xs i=some v):∃j,seqIndex? i xs.length=some j/\xs[j]?=some v/\j<xs.length/\-(xs.length:Int)<=i/\i<xs.length:=by
 unfold ko at h;cases e:yN xs.length i with
 |none=>rw[e]at h;cases h
 |some j=>
  rw[e]at h;obtain⟨h1,h2,b,c⟩:=xF e;exact⟨j,h1,h,h2,b,c⟩
theorem bU{a:Type}{xs:List a}{j:Nat}{v:a}(h:xs[j]?=some v):ko xs (j:Int)=some v:=by
 have b:j<xs.length:=(List.getElem?_eq_some_iff.mp h).1;have e:yN xs.length (j:Int)=some j:=by
  unfold yN;rw[if_pos Qo,if_pos Qo];simp
 unfold ko;rw[e];exact h
theorem jH{a:Type}(xs:List a)(v:a):ko (xs++[v]) (-1)=some v:=by
 have b:(xs++[v]).length=xs.length+1:=Qs;have e:yN (xs++[v]).length (-1)=some xs.length:=by
  unfold yN;rw[b,if_neg Qd,if_pos Qo];congr 1;omega
 unfold ko;rw[e];show(xs++[v])[xs.length]?=some v;simp
def xQ(b:Expr):Prop:=∀o i,subscripted b false o i=operate [o,i] (getItem o i)
def Ch(X:Cx)(r:R2):Prop:=
 ∀(value a:Expr)(pins:List (Addr×Obj))(s:Shared)(σ:St)(H:Hp)(x y:V)(v u:Value)(Q:VK),Inv X pins σ H s->aN x v->aN y u->r x y H Q->
  subscripted a false v u=operate [v,u] (getItem v u)->wpAny (model X.prog X.w) X.A (subscriptTail value a v u) (EP X pins σ Q) X.xe s
def Dp(X:Cx)(id:String)(r:V->List V->Hp->VK->Prop):Prop:=
 ∀(pins:List (Addr×Obj))(s:Shared)(σ:St)(H:Hp)(x:V)(xs:List V)(v:Value)(us:List Value)(Q:VK),Inv X pins σ H s->aN x v->bc xs us->r x xs H Q->
  wpAny (model X.prog X.w) X.A (call (.builtin id) (v::us)) (EP X pins σ Q) X.xe s
section
variable{X:Cx}{a b:Expr}{ta tb:TE}{pos:Pos}
theorem ay{r:R2}(f:Ch X r)(d:PE X a ta)(e:PE X b tb)(g:xQ b):PE X (.Subscript a b pos) (AN r ta tb):=by
 intro pins s σ H Q I h;exact Subscript_ (Av d e I h λv u k x y H2 c i j q=>f a b pins k σ H2 x y v u Q c i j q (g _ _))
def Bj(K:PySem.W.Frag):R2:=λx y H Q=>∃p xs i v,x=.ref p/\y=.int i/\bp K H p xs/\ko xs i=some v/\Q v H
def Bi(K:PySem.W.Frag):R2:=λx y H Q=>∃p xs i v,x=.ref p/\y=.int i/\bj K H p xs/\ko xs i=some v/\Q v H
def CM:R2:=λx y H Q=>∃z i c,x=.str z/\y=.int i/\z.length<=sizeLine/\ko z.cps.toList i=some c/\Q (.str ⟨#[c]⟩) H
theorem bF:Ch X (Bj X.K):=by
 intro value e pins s σ H x y v u Q I A B h g;obtain⟨p,xs,i,z,rfl,rfl,o,m,q⟩:=h;cases A;obtain⟨t,rfl⟩:=B;obtain⟨c,r,pl,D⟩:=I.list o;obtain⟨j,h1,h2,C,k,l⟩:=le m;obtain⟨w,f,d⟩:=r.get h2;have n:=r.length;have hn:=jm;have a:EP X pins σ Q w s:=⟨z,H,I,d,q⟩;by_cases h0:0<=i
 ·have b:i.toNat=j:=by
   rw[seqIndex_of h0 l]at h1;exact Option.some.inj h1
  exact item_listR pl.isList h0 Qo (by rw[b];simpa using f) a g
 ·have b:(i+(c.toArray.size:Int)).toNat=j:=by
   rw[seqIndex_neg Qo k]at h1;rw[List.size_toArray,<-n];exact Option.some.inj h1
  exact subscriptTail_builtinR (x:=w) pl.isList.typeIs slot_list_getitem.lookup
   (wpAny_getItem_list_neg (Q:=λr s'=>r=w/\EP X pins σ Q r s') pl.isList Qo (by rw[List.size_toArray]<;>omega) Qo (by rw[b];simpa using f) ⟨rfl,a⟩) g
theorem az:Ch X (Bi X.K):=by
 intro value c pins s σ H x y v u Q I m n h k;obtain⟨p,xs,i,z,rfl,rfl,g,e,q⟩:=h;cases m;obtain⟨t,rfl⟩:=n;obtain⟨l,r,pl,C⟩:=I.tuple g;obtain⟨j,h1,h2,o,A,B⟩:=le e;obtain⟨w,d,b⟩:=r.get h2;have f:=r.length;have hn:=jm;have a:EP X pins σ Q w s:=⟨z,H,I,b,q⟩;exact subscriptTail_builtinR (x:=w) pl.typeIs slot_tuple_getitem.lookup
  (getItem_tuple (j:=j) (Q:=λr s'=>r=w/\EP X pins σ Q r s') pl Qo Qo (by rw[List.size_toArray,<-f];exact h1) (by simpa using d) ⟨rfl,a⟩) k
theorem kR:Ch X CM:=by
 intro value a pins s σ H x y v u Q I m n h l;obtain⟨z,i,c,rfl,rfl,p,g,q⟩:=h;obtain⟨t,rfl⟩:=m;obtain⟨t',rfl⟩:=n;obtain⟨j,h1,h2,o,e,f⟩:=le g;have k:z.cps.toList.length=z.length:=by simp[Str.length]
 rw[k]at h1 e f;have hn:=jm;exact tail_any (typeIs_str s z t) slot_str_getitem.lookup (getItem_str (c:=c) (by
  have b:decide (i< -(2^63:Int))=false:=decide_eq_false Qo;have d:decide (i>=2^63)=false:=decide_eq_false Qo;rw[b,d,Bool.or_false]) (by rw[h1];simpa using h2) ⟨.str ⟨#[c]⟩,H,I.tok _,⟨_,rfl⟩,q⟩) l
theorem kA(lo hi:Option Int)(n:Nat):(sliceBounds lo hi none n).1=((HT.sIx n 0 lo:Nat):Int)/\(sliceBounds lo hi none n).2.1=((HT.sIx n n hi:Nat):Int)/\(sliceBounds lo hi none n).2.2=1:=by
 refine⟨?_,?_,rfl⟩
 ·cases lo with
  |none=>simp[sliceBounds,HT.sIx]
  |some i=>
   simp only[sliceBounds,HT.sIx,Option.getD_none,show(1:Int)>0 by decide,if_true];by_cases h:i<0
   ·simp only[h,if_true]<;>omega
   ·simp only[h,if_false]<;>omega
 ·cases hi with
  |none=>simp[sliceBounds,HT.sIx]
  |some i=>
   simp only[sliceBounds,HT.sIx,Option.getD_none,show(1:Int)>0 by decide,if_true];by_cases h:i<0
   ·simp only[h,if_true]<;>omega
   ·simp only[h,if_false]<;>omega
theorem jM(a:List Value)(lo hi:Option Int):slicePick a.toArray lo hi none=((a.drop (HT.sIx a.length 0 lo)).take (HT.sIx a.length a.length hi-HT.sIx a.length 0 lo)).toArray:=by
 obtain⟨h1,h2,b⟩:=kA lo hi a.toArray.size;unfold slicePick;rw[h1,h2,b];simp only[sliceRange_one,pick_run,List.size_toArray]<;>rfl
def CL(K:PySem.W.Frag):V->Option Int->Option Int->Hp->VK->Prop:=λx lo hi H Q=>∃a xs,x=.ref a/\bp K H a xs/\∀p,H p=none->Q (.ref p) (upd H p (.lst (eR xs lo hi)))
theorem uX:Cl X (CL X.K):=by
 intro pins s σ H x v m n lo hi l Q I k e pl j h;obtain⟨a,xs,rfl,f,q⟩:=h;cases k;obtain⟨i,r,d,g⟩:=I.list f;have c:=r.length;refine⟨"list",_,slot_list_getitem.lookup,d.isList.typeIs,?_⟩;refine wpAny_getItem_list_slice d.isList e pl j .none Qs ?_ (by rw[List.size_toArray]<;>omega);rw[jM,<-c];refine⟨.ref s.heap.objs.size,_,I.laid (t':=s.toks) (o:=.lst (eR xs lo hi)) (λb ob q=>Heap.get?_push_of_some _ q) (Nat.le_refl _) ?_,rfl,q _ (I.hok.fresh (Nat.le_refl _))⟩;exact⟨Nat.le_trans (fA xs lo hi) g,_,0,(r.drop (HT.sIx xs.length 0 lo)).take (HT.sIx xs.length xs.length hi-HT.sIx xs.length 0 lo),Heap.get?_push_size _ rfl⟩
def gK:V->Bool
 |.non=>true
 |.bl _=>true
 |.int _=>true
 |.str _=>true
 |_=>false
def xL:V->V->Bool
 |.non,.non=>true
 |.bl a,.bl b=>a==b
 |.bl a,.int b=>(if a then 1 else 0)==b
 |.int a,.bl b=>a==(if b then 1 else 0)
 |.int a,.int b=>a==b
 |.str a,.str b=>a==b
 |_,_=>false
theorem Ar{A:Around}{s:Shared}{y x:V}{u v:Value}(e:aN y u)(c:aN x v)(f:gK y=true)(d:gK x=true):SeqAt.EqAt A s u v (xL y x):=by
 cases y with
 |non=>
  cases e;cases x with
  |non=>cases c;exact SeqAt.EqAt.same _
  |bl b=>cases c;exact SeqAt.EqAt.none_bool b
  |int b=>obtain⟨t,rfl⟩:=c;exact SeqAt.EqAt.none_int b t
  |str b=>obtain⟨t,rfl⟩:=c;exact SeqAt.EqAt.none_str b t
  |_=>exact absurd (show false=true from d) Bool.false_ne_true
 |bl a=>
  cases e;cases x with
  |non=>cases c;exact SeqAt.EqAt.bool_none a
  |bl b=>cases c;exact SeqAt.EqAt.bool_bool a b
  |int b=>obtain⟨t,rfl⟩:=c;exact SeqAt.EqAt.bool_int a b t
  |str b=>obtain⟨t,rfl⟩:=c;exact SeqAt.EqAt.bool_str a b t
  |_=>exact absurd (show false=true from d) Bool.false_ne_true
 |int a=>
  obtain⟨t',rfl⟩:=e;cases x with
  |non=>cases c;exact SeqAt.EqAt.int_none a t'
  |bl b=>cases c;exact SeqAt.EqAt.int_bool a t' b
  |int b=>obtain⟨t,rfl⟩:=c;exact SeqAt.EqAt.int_int a t' b t
  |str b=>obtain⟨t,rfl⟩:=c;exact SeqAt.EqAt.int_str a t' b t
  |_=>exact absurd (show false=true from d) Bool.false_ne_true
 |str a=>
  obtain⟨t',rfl⟩:=e;cases x with
  |non=>cases c;exact SeqAt.EqAt.str_none a t'
  |bl b=>cases c;exact SeqAt.EqAt.str_bool a t' b
  |int b=>obtain⟨t,rfl⟩:=c;exact SeqAt.EqAt.str_int a t' b t
  |str b=>obtain⟨t,rfl⟩:=c;exact SeqAt.EqAt.str_str a t' b t
  |_=>exact absurd (show false=true from d) Bool.false_ne_true
 |_=>exact absurd (show false=true from f) Bool.false_ne_true
def n4(x:V)(u:Value):Bool:=match u with
 |.none=>xL .non x
 |.bool b=>xL (.bl b) x
 |.int i _=>xL (.int i) x
 |.str z _=>xL (.str z) x
 |_=>false
theorem tV{x y:V}{u:Value}(r:aN y u)(f:gK y=true):n4 x u=xL y x:=by
 cases y with
 |non=>cases r;rfl
 |bl b=>cases r;rfl
 |int i=>obtain⟨t,rfl⟩:=r;rfl
 |str z=>obtain⟨t,rfl⟩:=r;rfl
 |_=>exact absurd (show false=true from f) Bool.false_ne_true
theorem gT{x:V}:∀{xs:List V}{us:List Value},bc xs us->xs.all gK=true->us.any (n4 x)=xs.any λy=>xL y x
 |_,_,.nil,_=>rfl
 |y::xs,u::us,.cons r t,f=>by
  rw[List.all_cons,Bool.and_eq_true]at f;rw[List.any_cons,List.any_cons,tV r f.1,gT t f.2]
theorem fu{A:Around}{s:Shared}{x:V}{v:Value}(c:aN x v)(b:gK x=true):∀{xs:List V}{us:List Value},bc xs us->xs.all gK=true->∀u∈us,SeqAt.EqAt A s u v (n4 x u)
 |_,_,.nil,_=>λu a=>by cases a
 |y::xs,u::us,.cons r t,f=>λd a=>by
  rw[List.all_cons,Bool.and_eq_true]at f;rcases List.mem_cons.mp a with rfl|a
  ·rw[tV r f.1];exact Ar r c f.1 b
  ·exact fu c b t f.2 d a
def jn(x:V)(xs:List V):Bool:=xs.any λy=>xL y x
def CN(K:PySem.W.Frag)(a:Bool):R2:=λx y H Q=>∃p xs,y=.ref p/\(bp K H p xs\/bj K H p xs)/\gK x=true/\xs.all gK=true/\Q (.bl (if a then !jn x xs else jn x xs)) H
theorem fJ:im X (compareOp .In) (CN X.K false):=by
 intro pins s σ H x y v u Q I d f h;obtain⟨p,xs,rfl,b,c,fs,q⟩:=h;cases f;rcases b with b|b
 ·obtain⟨a,r,pl,e⟩:=I.list b;refine SeqAt.in_listAt (n4 x) pl.isList (λw hw=>fu d c r fs w (by simpa using hw)) ⟨.bl _,H,I,rfl,?_⟩;rw[show a.toArray.any (n4 x)=a.any (n4 x)by simp,gT r fs];exact q
 ·obtain⟨a,r,pl,e⟩:=I.tuple b;refine SeqAt.in_tupleAt (n4 x) pl (λw hw=>fu d c r fs w (by simpa using hw)) ⟨.bl _,H,I,rfl,?_⟩;rw[show a.toArray.any (n4 x)=a.any (n4 x)by simp,gT r fs];exact q
theorem gH:im X (compareOp .NotIn) (CN X.K true):=by
 intro pins s σ H x y v u Q I d f h;obtain⟨p,xs,rfl,b,c,fs,q⟩:=h;cases f;rcases b with b|b
 ·obtain⟨a,r,pl,e⟩:=I.list b;refine SeqAt.notIn_listAt (n4 x) pl.isList (λw hw=>fu d c r fs w (by simpa using hw)) ⟨.bl _,H,I,rfl,?_⟩;rw[show a.toArray.any (n4 x)=a.any (n4 x)by simp,gT r fs];exact q
 ·obtain⟨a,r,pl,e⟩:=I.tuple b;refine SeqAt.notIn_tupleAt (n4 x) pl (λw hw=>fu d c r fs w (by simpa using hw)) ⟨.bl _,H,I,rfl,?_⟩;rw[show a.toArray.any (n4 x)=a.any (n4 x)by simp,gT r fs];exact q
theorem gR:dL X (.builtin "len") (λxs H Q=>∃p ys,xs=[.ref p]/\(bp X.K H p ys\/bj X.K H p ys)/\Q (.int ys.length) H):=by
 intro pins s σ H xs us Q I r h;obtain⟨p,ys,rfl,b,q⟩:=h;obtain⟨u,rfl,f⟩:=fe r;cases f;have hn:=jm;rcases b with b|b
 ·obtain⟨c,d,pl,e⟩:=I.list b;have a:=d.length;exact Calls.call_len_list pl.isList (by simp only[List.size_toArray]<;>omega) ⟨.int ys.length,H,I.tok _,⟨s.toks+1,by rw[List.size_toArray,a]⟩,q⟩
 ·obtain⟨c,d,pl,e⟩:=I.tuple b;have a:=d.length;exact len_tuple pl (by simp only[List.size_toArray]<;>omega) ⟨.int ys.length,H,I.tok _,⟨s.toks+1,by rw[List.size_toArray,a]⟩,q⟩
theorem lb:dL X (.builtin "len") (λxs H Q=>∃z,xs=[.str z]/\z.length<=sizeLine/\Q (.int z.length) H):=by
 intro pins s σ H xs us Q I r h;obtain⟨z,rfl,a,q⟩:=h;obtain⟨u,rfl,t,rfl⟩:=fe r;have hn:=jm;exact len_str Qo ⟨.int z.length,H,I.tok _,⟨_,rfl⟩,q⟩
theorem ge:dL X (.type "tuple") (λxs H Q=>∃p ys,xs=[.ref p]/\((bp X.K H p ys/\∀l,H l=none->Q (.ref l) (upd H l (.tup ys)))\/(bj X.K H p ys/\Q (.ref p) H))):=by
 intro pins s σ H xs us Q I r h;obtain⟨p,ys,rfl,h⟩:=h;obtain⟨u,rfl,k⟩:=fe r;cases k;rcases h with⟨c,q⟩|⟨c,q⟩
 ·obtain⟨a,d,pl,i⟩:=I.list c;have g:=d.length;refine call_tuple_list pl.isList (λh' kp=>?_) (by simp only[List.size_toArray]<;>omega);have f:Inv X pins σ H {s with heap:=h'}:=I.kept (t':=s.toks) kp;have j:Inv X pins σ (upd H h'.objs.size (.tup ys)) {s with heap:=h'.push {cls:=.type "tuple",data:=.seq a.toArray}}:=
   f.laid (t':=s.toks) (λb o e=>Heap.get?_push_of_some _ e) (Nat.le_refl _) (show ObjOk X.prog X.w _ _ _ (.tup ys)from⟨i,a,d,IsTup.new _ _⟩)
  exact⟨.ref h'.objs.size,_,j,rfl,q _ (f.hok.fresh (Nat.le_refl _))⟩
 ·obtain⟨a,d,pl,i⟩:=I.tuple c;exact call_tuple_same pl ⟨.ref p,H,I,rfl,q⟩
def Cs(K:PySem.W.Frag)(T:String)(x:V)(H:Hp):Prop:=match x with
 |.str _=>T="str"
 |.int _=>T="int"
 | .ref p=>(T="list"/\∃xs,bp K H p xs)\/(T="tuple"/\∃o,K.lookup p=some o/\o.cls=.type "tuple"/\o.dict=none)\/
   (T="dict"/\((∃kvs,H p=some (.dK kvs))\/∃kvs,H p=some (.dT kvs)))\/(T="set"/\∃S n,H p=some (.set S n))
 |_=>False
theorem qP{pins:List (Addr×Obj)}{σ:St}{H:Hp}{s:Shared}{T:String}{x:V}{v:Value}(I:Inv X pins σ H s)(r:aN x v)(ty:Cs X.K T x H):
  s.TypeIs v T/\∀a,v=.ref a->∃ob,s.heap.get? a=some ob/\ob.dict=none:=by
 cases x with
 |str z=>
  obtain⟨t,rfl⟩:=r;cases(show T="str"from ty);exact⟨typeIs_str s z t,λ_ e=>nomatch e⟩
 |int i=>
  obtain⟨t,rfl⟩:=r;cases(show T="int"from ty);exact⟨typeIs_int s i t,λ_ e=>nomatch e⟩
 |ref p=>
  cases r;rcases ty with⟨rfl,xs,hq⟩|⟨rfl,o,b,hc,hd⟩|⟨rfl,b⟩|⟨rfl,S,n,b⟩
  ·obtain⟨f,_,pl,_⟩:=I.list hq;refine⟨pl.isList.typeIs,λa e=>?_⟩;cases e;obtain⟨o,n,e,c,hd,_⟩:=pl;exact⟨o,e,hd⟩
  ·refine⟨⟨o,I.kIn p o b,hc⟩,λa e=>?_⟩;cases e;exact⟨o,I.kIn _ o b,hd⟩
  ·have z:∃o,s.heap.get? p=some o/\o.ExactDict:=by
    rcases b with⟨kvs,b⟩|⟨kvs,b⟩
    ·obtain⟨_,_,_,_,o,_,_,e,ex,_⟩:=I.hok p _ b;exact⟨o,e,ex⟩
    ·obtain⟨_,_,_,_,o,_,_,e,ex,_⟩:=I.hok p _ b;exact⟨o,e,ex⟩
   obtain⟨o,e,ex⟩:=z;refine⟨⟨o,e,ex.1⟩,λa d=>?_⟩;cases d;exact⟨o,e,ex.2.1⟩
  ·obtain⟨o,_,_,_,e,ex,_⟩:=I.hok p _ b;refine⟨⟨o,e,ex.1⟩,λa d=>?_⟩;cases d;exact⟨o,e,ex.2.1⟩
 |_=>exact False.elim ty
def CF(K:PySem.W.Frag)(T:String)(r:V->List V->Hp->VK->Prop)(to:TE):TE:=λσ H Q=>to σ H λx H1=>Cs K T x H1/\r x [] H1 Q
def DQ(K:PySem.W.Frag)(T:String)(r:V->List V->Hp->VK->Prop)(to:TE)(t:TA):TE:=λσ H Q=>to σ H λx H1=>Cs K T x H1/\t σ H1 λxs H2=>r x xs H2 Q
variable{o e:Expr}{es:List Expr}{to:TE}{t:TA}{name:Str}{apos cpos:Pos}{T id:String}{r:V->List V->Hp->VK->Prop}
theorem zX(pa:PlainAttrs T)(slot:Slot T name id)(c:typeOf (.builtin id)=pure (.type "method_descriptor"))(f:Dp X id r)(g:PE X o to)
  (a:attributeBase o name X.env (eval o X.env)=eval o X.env:=by rfl)(b:(apos.endLine==cpos.line)=true:=by rfl):PE X (.Call (.Attribute o name apos) [] [] cpos) (CF X.K T r to):=by
 intro pins s σ H Q I h;refine wpAny_Call_method0_late a b (bx (g pins s σ H _ I h) λv i⟨x,H1,d,e,ty,q1⟩=>?_);obtain⟨h1,h2⟩:=qP d e ty;exact⟨T,id,pa,slot,c,h1,h2,Calls.callWith_builtin rfl (PySem.evalArgs_none (f pins i σ H1 x [] v [] Q d e .nil q1))⟩
theorem dH(pa:PlainAttrs T)(slot:Slot T name id)(f:typeOf (.builtin id)=pure (.type "method_descriptor"))(m:Dp X id r)(n:PE X o to)(l:PA X (e::es) t)
  (b:attributeBase o name X.env (eval o X.env)=eval o X.env:=by rfl)
  (d:((backTo cpos (starEach (e::es) X.env)).all (λx=>!x.1)&&(backToKw cpos (keywordEach [] X.env)).all (λx=>x.1.isSome)
   &&decide ((e::es).length +([]:List Keyword).length +(if([]:List Keyword).isEmpty then 0 else 1)<30))=true:=by rfl)
  (c:(apos.endLine==cpos.line)=true:=by rfl) (p:starEach (e::es) X.env=(false,eval e X.env)::starEach es X.env:=by rfl) (a:(backTo cpos (starEach es X.env)).any (·.1)=false:=by rfl):
  PE X (.Call (.Attribute o name apos) (e::es) [] cpos) (DQ X.K T r to t):=by
 intro pins s σ H Q I h;refine wpAny_Call_method_late b d c rfl (bx (n pins s σ H _ I h) λv u⟨x,H1,g,j,ty,q1⟩=>?_);obtain⟨h1,h2⟩:=qP g j ty;refine⟨T,id,pa,slot,f,h1,h2,?_⟩;have i:=l cpos pins u σ H1 _ g q1;rw[p]at i⊢;refine Calls.callWith_builtin (by show(false||(backTo cpos (starEach es X.env)).any (·.1))=false;rw[a]<;>rfl) (Calls.evalArgs_plain ?_);exact bx i λus w⟨vs,H2,k,q,q2⟩=>m pins w σ H2 x vs v us Q k j q q2
end
def Dq(X:Cx)(id:String)(r:V->List V->Hp->VK->Prop):Prop:=
 ∀(pins:List (Addr×Obj))(s:Shared)(σ:St)(H:Hp)(x:V)(xs:List V)(v:Value)(us:List Value)(Q:VK),Inv X pins σ H s->aN x v->bc xs us->r x xs H Q->
  wpAny (model X.prog X.w) X.A (call (.builtin id) (v::us)) (EP X pins σ Q) X.xe s
theorem bc.one:∀{x:V}{us:List Value},bc [x] us->∃u,us=[u]/\aN x u
 |_,_,.cons r .nil=>⟨_,rfl,r⟩
theorem bc.eraseIdx:∀{xs:List V}{us:List Value}(i:Nat),bc xs us->bc (xs.eraseIdx i) (us.eraseIdx i)
 |_,_,_,.nil=>.nil
 |_,_,0,.cons _ t=>t
 |_,_,i+1,.cons r t=>.cons r (bc.eraseIdx i t)
theorem j5{a:Type}:∀(l:List a)(i:Nat),(l.eraseIdx i).length<=l.length
 |[],_=>Nat.le_refl _
 |_::_,0=>Nat.le_succ _
 |_::r,i+1=>Nat.succ_le_succ (j5 r i)
section
variable{X:Cx}{pins:List (Addr×Obj)}{σ:St}{H:Hp}{s:Shared}{l b:Addr}{xs ys zs:List V}
theorem Inv.lset{a its':List Value}{n:Nat}{f:Array Value->Array Value}{t':Nat}(I:Inv X pins σ H s)(b:H l=some (.lst xs))
  (e:s.heap.get? l=some {cls:=.type "list",data:=.seq a.toArray n})(d:f a.toArray=its'.toArray)(h:bc ys its')(i:ys.length<=sizeLine):
  Inv X pins σ (upd H l (.lst ys)) {s with heap:=s.heap.update l (Obj.mapSeq f),toks:=t'}:=by
 have q:=PySem.IsL.update e f;rw[d]at q;refine I.write (x:=l) (e:=l) (by rw[b];exact trivial) (.inl rfl) (λj u c g=>(Heap.get?_update_other s.heap (Obj.mapSeq f) (Ne.symm c)).trans g) ⟨_,q⟩ ?_;exact⟨i,its',_,h,q⟩
theorem Inv.lnew{a:List Value}{t':Nat}(I:Inv X pins σ H s)(b:bc ys a)(c:ys.length<=sizeLine):
  Inv X pins σ (upd H s.heap.objs.size (.lst ys)) {s with heap:=s.heap.push {cls:=.type "list",data:=.seq a.toArray},toks:=t'}:=
 I.laid (λ_ _ q=>Heap.get?_push_of_some _ q) (Nat.le_refl _) ⟨c,a,0,b,Heap.get?_push_size _ rfl⟩
theorem Inv.fresh(I:Inv X pins σ H s):H s.heap.objs.size=none:=I.hok.fresh (Nat.le_refl _)
theorem Inv.lstM(I:Inv X pins σ H s)(b:H l=some (.lst xs)):xs.length<=sizeLine/\∃(a:List Value)(n:Nat),bc xs a/\xs.length=a.length/\s.heap.get? l=some {cls:=.type "list",data:=.seq a.toArray n}:=by
 obtain⟨z,a,n,r,e⟩:=I.hok l _ b;exact⟨z,a,n,r,r.length,e⟩
theorem sZ{n:Nat}(h:n<=sizeLine):Builtin.List.listTooLong n=false:=by
 unfold Builtin.List.listTooLong;exact decide_eq_false Qo
end
section
variable{X:Cx}
def vL:V->List V->Hp->VK->Prop:=λx vs H Q=>∃l xs y,x=.ref l/\vs=[y]/\H l=some (.lst xs)/\xs.length<sizeLine/\Q .non (upd H l (.lst (xs++[y])))
theorem bW:Dq X "list.append" vL:=by
 intro pins s σ H x vs v us Q I f d h;obtain⟨l,xs,y,rfl,rfl,b,i,q⟩:=h;cases f;obtain⟨u,rfl,c⟩:=d.one;obtain⟨z,a,n,r,g,e⟩:=I.lstM b;refine call_meets F.slot_list_append ⟨_,e,rfl⟩ F.entry_list_append (F.args_list_append_2 _ _) (PySem.list_append l a.toArray n u (by rw[List.size_toArray];omega)) ⟨e,?_⟩;refine⟨.non,_,I.lset (its':=a++[u]) b e Qs (r.append (.cons c .nil)) ?_,rfl,q⟩;rw[List.length_append,List.length_singleton];omega
def vK:V->List V->Hp->VK->Prop:=λx vs H Q=>∃l b xs zs,x=.ref l/\vs=[.ref b]/\H l=some (.lst xs)/\H b=some (.lst zs)/\xs.length+zs.length<=sizeLine/\Q .non (upd H l (.lst (xs++zs)))
theorem j1:Dq X "list.extend" vK:=by
 intro pins s σ H x vs v us Q I p o h;obtain⟨l,b,xs,zs,rfl,rfl,f,i,w,q⟩:=h;cases p;obtain⟨u,rfl,m⟩:=o.one;cases m;obtain⟨z,c,n,r,t,e⟩:=I.lstM f;obtain⟨z2,a,n2,k,j,g⟩:=I.lstM i;have hsz:c.toArray.size+a.toArray.size<=sizeLine:=by rw[List.size_toArray,List.size_toArray];omega
 have d:¬(!c.toArray.isEmpty&&Builtin.List.listTooLong (c.toArray.size+a.toArray.size))=true:=by
  rw[sZ hsz,Bool.and_false];exact Bool.false_ne_true
 refine call_meets F.slot_list_extend ⟨_,e,rfl⟩ F.entry_list_extend (F.args_list_extend_2 _ _)
  (AutoSeq1.list_extend_list_list_0 l c.toArray n b a.toArray n2 d (by rw[List.size_toArray];omega) Qo) ⟨e,g,?_⟩
 refine⟨.non,_,I.lset (its':=c++a) f e Qs (r.append k) ?_,rfl,q⟩;rw[List.length_append];omega
def zN:V->List V->Hp->VK->Prop:=λx vs H Q=>∃l xs i k y,x=.ref l/\vs=[.int i]/\H l=some (.lst xs)/\-(2^63)<=i/\i<2^63/\seqIndex? i xs.length=some k/\xs[k]?=some y/\Q y (upd H l (.lst (xs.eraseIdx k)))
theorem tf:Dq X "list.pop" zN:=by
 intro pins s σ H x vs v us Q I o m h;obtain⟨l,xs,i,k,y,rfl,rfl,c,h1,h2,d,g,q⟩:=h;cases o;obtain⟨u,rfl,j⟩:=m.one;obtain⟨t,rfl⟩:=j;obtain⟨z,a,n,r,f,e⟩:=I.lstM c;obtain⟨w,hw,b⟩:=r.get g;refine call_meets F.slot_list_pop ⟨_,e,rfl⟩ F.entry_list_pop (F.args_list_pop_2 _ _)
  (MeetsSeq.list_pop_at l a.toArray n i t k w (fitsIndex_both h1 h2) (by rw[List.size_toArray,<-f];exact d) (by rw[<-Array.getElem?_toList];exact hw) (by rw[List.size_toArray];omega)) ⟨e,?_⟩
 refine⟨y,_,I.lset (its':=a.eraseIdx k) c e ?_ (r.eraseIdx k) ?_,b,q⟩
 ·show a.toArray.eraseIdxIfInBounds k=(a.eraseIdx k).toArray;rw[List.eraseIdxIfInBounds_toArray]
 ·have:=j5 xs k;omega
def Bl:R2:=λx y H Q=>∃l b xs zs,x=.ref l/\y=.ref b/\H l=some (.lst xs)/\H b=some (.lst zs)/\xs.length+zs.length<=sizeLine/\∀p,H p=none->Q (.ref p) (upd H p (.lst (xs++zs)))
theorem dm:im X (binaryOp .Add) Bl:=by
 intro pins s σ H x y v u Q I m o h;obtain⟨l,b,xs,zs,rfl,rfl,i,g,t,q⟩:=h;cases m;cases o;obtain⟨z,c,n,r,p,e⟩:=I.lstM i;obtain⟨z2,a,n2,k,j,d⟩:=I.lstM g;refine PySem.P.add_list e d ?_ (by rw[List.size_toArray,List.size_toArray];omega);have f:c.toArray++a.toArray=(c++a).toArray:=Qs;rw[f];exact⟨.ref _,_,I.lnew (t':=s.toks) (r.append k) (by rw[List.length_append];omega),rfl,q _ I.fresh⟩
end
section
variable{prog:Program}{w:World}{A:Around}{E:Value->Shared->Prop}{s:Shared}
set_option maxRecDepth 100000 in
end
end L2
namespace Att
open PySem PySem.W PySem.Calls PyProof.Rows
theorem iB{P:Params}{h:Heap}:∀(ns:List Int)(vs:List Value),WellAll P h vs (ns.map WData.int)->IntsAre vs ns:=by
 intro ns;induction ns with
 |nil=>
  intro vs w;rw[List.map_nil]at w;cases w;exact .nil
 |cons n ns c=>
  intro vs w;rw[List.map_cons]at w;cases w with
  |cons a b=>
   cases a;exact .cons _ _ (c _ b)
theorem pP{l:OpenLaw}{n:Nat}(hn:l.most=some n){P:Params}{h:Heap}{args:List WData}{c:List Value}
  (b:l.row.toRowW.claim.pre args=true)(k:WellAll P h c args):
  ∃a vs ns,c=[Value.ref a]/\args=[WData.list (ns.map WData.int)]/\h.get? a=some {cls:=.type "list",data:=.seq vs.toArray}/\IntsAre vs ns/\ns.length<=n:=by
 have j:WShape.hasAll [] args [.list .int]=true:=(pre_splitW b).1;have m:l.pre.holds [] {args:=args}=true:=(pre_splitW b).2;obtain⟨d,r,rfl,h1,h2⟩:=hasAllW_cons j;obtain rfl:=hasAllW_nil h2;obtain⟨xs,rfl,o⟩:=hasW_list h1;obtain⟨ns,rfl⟩:=items_int o;have f:ns.length<=n:=by
  unfold OpenLaw.pre at m;have g:(WTm.not (.lt (.lit (.int (n:Int))) (.len (.arg 0)))).holds [] {args:=[.list (ns.map .int)]}=true:=by
   have g:=(holds_andW m).1;rw[hn]at g;exact g
  have i:=condW_of g (w_not (w_lt w_lit (w_len_list (w_arg rfl))));rw[List.length_map]at i;refine Nat.le_of_not_lt λq=>?_;have s:(n:Int)<((ns.length:Nat):Int):=Qo
  first
   |(rw[decide_eq_true s]at i;exact absurd i Qd)
   |(simp at i;omega)
 cases k with
 |cons t u=>
  cases u;cases t with
  |list p e=>exact⟨_,_,ns,rfl,rfl,p,iB ns _ e,f⟩
theorem p6(l:OpenLaw)(args:List WData):l.row.toRowW.claim.post args (.bool true) args=true:=
 postW_of (r:=l.row.toRowW) (X:=(true==true))
  (show WShape.has [] (.bool true) .bool=true by first|rfl|decide|simp[WShape.has,WShape.arms,WShape.armsAll])
  (show(WTm.eq .res (.lit (.bool true))).value [] {args:=args,res:=some (.bool true),after:=args}=some (.bool (true==true))from w_eq_bool (w_res rfl) w_lit) rfl
theorem mK{l:OpenLaw}{n:Nat}{q:Program}{c:List Str}{z:(Str->Option Value)->Heap->Prop}{A:World->Heap->Prop}{d:DefRec}
  (hn:l.most=some n)(u:d.params.defaults=[])
  (i:∀(w:World)(e b:Shared)(mg mb:Str->Option Value)(j:Addr)(o:Obj)(y s g:Value)(a:Addr)(vs:List Value)(ns:List Int),
   Ground q c [] z w e mg mb b.heap->A w b.heap->
   b.heap.get? j=some o->o.data=.func (docDef d.name d.params d.body d.scope y s g)->b.heap.CodeRec s d.name->mg d.name=some (.ref j)->
   b.heap.get? a=some {cls:=.type "list",data:=.seq vs.toArray}->IntsAre vs ns->ns.length<=n->b.gens=#[]->
   codeAny (model l.prog w) callerA (.call (.ref j) ⟨[.ref a],[]⟩) (λr s'=>r=.ok (.ret (.bool true))/\OldK b.heap s'.heap/\s'.os=b.os/\AllBare s'.gens) b):
  WalkO q c z A l.row.toRowW d [] (λf vs=>PySem.call f vs):=by
 intro w e b mg mb G Y j o y s g E kV L hd t B v I args D O p C N x J;obtain rfl:E=.none:=Dflts.none B u;obtain rfl:kV=.none:=Dflts.noKw B;obtain⟨a,vs,ns,rfl,rfl,m,h,k⟩:=pP hn p x;refine enter_call (codeAny_mono (i w e b mg mb j o y s g a vs ns G Y L (fd_plain hd) t v m h k I) λr s' M=>?_);obtain⟨rfl,h2,F,H⟩:=M;exact⟨.inl ⟨.bool true,.bool true,[],rfl,λ_=>rfl,.bool true,p6 l _,λ_=>⟨List.Pairwise.nil,λ_ K=>(nomatch K)⟩⟩,h2,F,H⟩
end Att
namespace L2
open PySem PySem.Spec PyProof.Rows
theorem jU:∀{vs:List Value}{ns:List Int},IntsAre vs ns->bc (ns.map V.int) vs
 |_,_,.nil=>.nil
 |_,_,.cons n t h=>.cons ⟨t,rfl⟩ (jU h)
def AD(H:Hp):Prop:=∀b,H b=none\/∃o xs,H b=some (.frz o (.lst xs))
theorem tF{P:Program}{w:World}{K:PySem.W.Frag}{mg mb:Str->Option Value}{CX:uJ}{k:Nat}{G a:Addr}{fd:FuncData}{x:Str}{sp:Sp}{c:Shared}{vs:List Value}{ns:List Int}
  (N:K.In c.heap)(y:c.heap.Ns mainGlobals mg)(g:c.heap.Ns builtinsNs mb)(J:∀x:Str,x≠"__name__"->mb x=bootBuiltins x)(t:c.heap.NoLimit)(hg:c.gens=#[])
  (D:c.heap.get? a=some {cls:=.type "list",data:=.seq vs.toArray})(hi:IntsAre vs ns)(S:ns.length<=sizeLine)(hr:be k callerA)
  (F:∀base:Heap,K.In base->base.Ns mainGlobals mg->FnOk P w K mg base CX k G fd [x] sp)(l:∀(s:Shared)(u:Value),BindsTo s fd ⟨[u],[]⟩ [(x,u)])
  (L:∀H:Hp,AD H->bp K H a (ns.map V.int)->sp [.ref a] H (λv _=>v=.bl true) λ_ _ _=>False)
  (I:∀H e s',CX [] H c (λ_ _ _=>False) e s'->False):
  codeAny (model P w) callerA (.call (.ref G) ⟨[.ref a],[]⟩) (λr s'=>r=.ok (.ret (.bool true))/\OldK c.heap s'.heap/\s'.os=c.os/\AllBare s'.gens) c:=by
 have T:=jU hi;have B:=hi.length;have j:∀H:Hp,AD H->bp K H a (ns.map V.int)->fb P w H c.heap->(∀b,H b≠none->b=a)->(H a≠none->K.lookup a=none)->
   codeAny (model P w) callerA (.call (.ref G) ⟨[.ref a],[]⟩) (λr s'=>r=.ok (.ret (.bool true))/\OldK c.heap s'.heap/\s'.os=c.os/\AllBare s'.gens) c:=by
  intro H R hS hok Q Y;have f:∀{b:Addr}{o:Obj},c.heap.get? b=some o->H b=none->(kS c.heap H).get? b=some o:=λe n=>tN e n;have M:∀{b:Addr}{o:Obj}{es:Array DictEntry}{ep:Nat},c.heap.get? b=some o->o.data=.dict es ep->H b=none:=λ{b o es ep}e d=>by
   cases q:H b with
   |none=>rfl
   |some u=>
    have E:b=a:=Q b (by rw[q];simp);subst E;rw[D]at e;cases e;have d':Data.seq vs.toArray _=Data.dict es ep:=d;cases d'
  have i:∀{b:Addr}{m:Str->Option Value},c.heap.Ns b m->(kS c.heap H).Ns b m:=λ{b m}⟨o,es,ep,e,d,r⟩=>⟨o,es,ep,f e (M e d),d,r⟩;have p:K.In (kS c.heap H):=λb o e=>f (N b o e) (by
   cases q:H b with
   |none=>rfl
   |some u=>
    have E:b=a:=Q b (by rw[q];simp);subst E;rw[Y (by rw[q];simp)]at e;cases e)
  have Z:Mod K mg (kS c.heap H):=⟨p,i y,⟨mb,i g,J⟩,let⟨mc,h1,h2⟩:=t;⟨mc,i h1,h2⟩⟩;have U:Env0 P w K mg (kS c.heap H) callerA [] c H:=⟨rfl,Z,λb o e=>wY e,Nat.le_of_eq (qy _ _),trivial,λb g=>absurd (show b∈([]:List Addr)from g) Qs,hok,.of_eq hg⟩;refine codeAny_mono ((F _ p (i y)).run callerA [] c H ⟨[.ref a],[]⟩ [.ref a] [.ref a] _ _ hr U (l c (.ref a)) (.cons rfl .nil) (L H R hS)) λr s' h=>?_;cases r with
  |error e=>exact(I H e s' h).elim
  |ok X=>
   cases X with
   |next=>exact False.elim h
   |brk=>exact False.elim h
   |cont=>exact False.elim h
   |ret u=>
    obtain⟨v,H',os,bare,un,A,r',q⟩:=h;have q':v=.bl true:=q;subst q';obtain rfl:u=Value.bool true:=r';refine⟨rfl,OldK.of_keep λb o e=>?_,os,bare⟩;cases q:H b with
    |none=>exact un.keep b o e q (by intro z;exact absurd (show b∈([]:List Addr)from z) Qs) Qs
    |some u=>
     rcases R b with z|⟨ob,xs,z⟩
     ·rw[q]at z;cases z
     ·have z2:=un.frzs b ob _ z;obtain⟨O,_⟩:=hok b _ z;obtain⟨W,_⟩:=A b _ z2;rw[e]at O;cases O;exact W
 cases hk:K.lookup a with
 |some o=>
  have e:=N a o hk;rw[D]at e;cases e;refine j (λ_=>none) (λ_=>.inl rfl) (.inr ⟨_,vs.toArray,_,hk,rfl,rfl,rfl,by rw[List.size_toArray,B];exact S,by simpa using T⟩) (λb u z=>by have C:(none:Option HO)=some u:=z;cases C) (λb z=>absurd rfl z) λz=>absurd rfl z
 |none=>
  refine j (λb=>if b=a then some (.frz {cls:=.type "list",data:=.seq vs.toArray} (.lst (ns.map V.int)))else none) (λb=>?_) (.inl (.inr ⟨{cls:=.type "list",data:=.seq vs.toArray},if_pos rfl⟩)) (λb u z=>?_) (λb z=>?_) λ_=>hk
  ·by_cases g:b=a
   ·exact .inr ⟨_,_,if_pos g⟩
   ·exact .inl (if_neg g)
  ·by_cases g:b=a
   ·have C:=(if_pos g).symm.trans z;cases C;subst g;exact⟨D,by rw[List.length_map];exact S,vs,_,T,D⟩
   ·have C:=(if_neg g).symm.trans z;cases C
  ·by_cases g:b=a
   ·exact g
   ·exact absurd (if_neg g) z
theorem uK{l:PySem.W.OpenLaw}{n k:Nat}{q:Program}{g:List Str}{E:(Str->Option Value)->Heap->Prop}{C:World->Heap->Prop}{d:DefRec}{K:Params->PySem.W.Frag}{CX:World->uJ}{sp:World->Sp}{x:Str}
  (hn:l.most=some n)(z:n<=sizeLine)(t:d.params.defaults=[])(R:be k callerA)
  (N:∀(w:World)(h:Heap),C w h->(K w.params).In h)
  (F:∀(w:World)(mg:Str->Option Value)(m:Addr)(h:Heap),(K w.params).In h->h.Ns mainGlobals mg->mg d.name=some (.ref m)->
   ∃fd:FuncData,(∀(s:Shared)(u:Value),BindsTo s fd ⟨[u],[]⟩ [(x,u)])/\
    ∀base:Heap,(K w.params).In base->base.Ns mainGlobals mg->FnOk l.prog w (K w.params) mg base (CX w) k m fd [x] (sp w))
  (A:∀(w:World)(H:Hp)(a:Addr)(ns:List Int),ns.length<=n->AD H->bp (K w.params) H a (ns.map V.int)->sp w [.ref a] H (λv _=>v=.bl true) λ_ _ _=>False)
  (p:∀(w:World)(H:Hp)(s:Shared)(e:Value)(s':Shared),CX w [] H s (λ_ _ _=>False) e s'->False):
  PySem.W.WalkO q g E C l.row.toRowW d [] (λf vs=>PySem.call f vs):=by
 refine Att.mK hn t λw D j mg mb m o U S I a vs ns G Y T hd P y i c b Q=>?_;have B:=N w _ Y;obtain⟨fd,O,J⟩:=F w mg m _ B G.T.g y;exact tF B G.T.g G.T.b G.T.builtins G.T.nolimit Q i c (Nat.le_trans b z) R J O (λH L M=>A w H a ns b L M) λH e s'=>p w H j e s'
def bo(s:Stmt)(j:Nat):Stmt:=match s with
 |.ClassDef _ _ _ a _ _ _ _ _ _ _=>a.getD j (.Pass ⟨0,0,0,0⟩)
 |_=>.Pass ⟨0,0,0,0⟩
def aq(s:Stmt):Arguments:=match s with
 |.FunctionDef _ a _ _ _ _ _ _ _ _=>a
 |_=>{posonlyargs:=[],args:=[],vararg:=none,kwonlyargs:=[],kw_defaults:=[],kwarg:=none,defaults:=[]}
def ao(s:Stmt):List Stmt:=match s with
 |.FunctionDef _ _ b _ _ _ _ _ _ _=>b
 |_=>[]
def af(s:Stmt):Scope:=match s with
 |.FunctionDef _ _ _ _ _ _ a _ _ _=>a
 |_=>{kind:=.function,names:=[],isGenerator:=false,isCoroutine:=false}
abbrev cY:uJ:=λ_ _ _ _ _ _=>False
abbrev E0:XK:=λ_ _ _=>False
theorem sq{X:Cx}:eT cY X E0:=λ_ _ _ _ _ _ _ h=>h.elim
structure bZ(K:PySem.W.Frag)(x qual:Str)(st:Stmt)(f:Addr)(fd:FuncData):Prop where
 ex:∃(oc:Value)(od:Option Addr)(kV doc pm:Value)(an:Option Addr)(cdv ct:Value)(osl:Array (Option Value)),
  fd=PySem.W.fnOf x qual (aq st) (ao st) (af st) .none kV doc pm an cdv ct/\K.lookup f=some ⟨oc,od,.func fd,osl⟩/\PySem.W.codeIn K cdv qual=true
 kp:PySem.W.keepIn K (.ref f)=true
section
variable{P:Program}{w:World}{K:PySem.W.Frag}{mg:Str->Option Value}{base:Heap}
theorem bZ.ok{x qual:Str}{st:Stmt}{f:Addr}{fd:FuncData}{N ps:List Str}{k:Nat}{sp:Sp}(F:bZ K x qual st f fd)(S:ax N ps (af st))(len:∀vs H Q E,sp vs H Q E->vs.length=ps.length)
  (b:∀(a:Value)(A:Around)(outer:List Env)(s:Shared)(H:Hp)(vs:List V)(Q:VK)(E:XK),be k (A.deeper (envOfC qual (af st) s.heap.objs.size f a))->sp vs H Q E->
   ∃t,PSs (kZ cY P w K mg base N qual (af st) f a A outer s H E).nox (ao st) t/\t {nx:=λ_ H'=>Q .non H',rt:=Q} (gv N vs) H):FnOk P w K mg base cY (k+1) f fd ps sp:=by
 obtain⟨m,od,kV,e,n,l,a,ct,j,rfl,i,c⟩:=F.ex;refine yR i c S len λA outer s H vs Q E g d=>?_;obtain⟨t,h,q⟩:=b a A outer s H vs Q E g d;exact⟨t,h.nox,q⟩
theorem bZ.binds{x qual:Str}{st:Stmt}{f:Addr}{fd:FuncData}{ps:List Str}(F:bZ K x qual st f fd)
  (h:∀(kV b d:Value)(c:Option Addr)(a ct:Value)(us:List Value),us.length=ps.length->bindArgs (PySem.W.fnOf x qual (aq st) (ao st) (af st) .none kV b d c a ct) ⟨us,[]⟩=pure (ps.zip us)):c_ K fd ps []:=by
 obtain⟨j,od,kV,b,d,c,a,ct,g,rfl,i,e⟩:=F.ex;exact .all (h kV b d c a ct)
theorem kT{x qual:Str}{st:Stmt}{f:Addr}{h:Value}{od e:Option Addr}{d:Array (Option Value)}{kV b g a ct:Value}(l:K.lookup f=some ⟨h,od,.func (PySem.W.fnOf x qual (aq st) (ao st) (af st) .none kV b g e a ct),d⟩)
  (c:PySem.W.codeIn K a qual=true)(k:PySem.W.keepIn K (.ref f)=true):bZ K x qual st f (PySem.W.fnOf x qual (aq st) (ao st) (af st) .none kV b g e a ct):=⟨⟨h,od,kV,b,g,e,a,ct,d,rfl,l,c⟩,k⟩
end
theorem cU{A:Around}{k:Nat}(a:be k A):A.units+1<cLine:=Nat.lt_of_le_of_lt (Nat.add_le_add_left (by decide:1<=64) _) a.units
theorem aW{n:Nat}(h:n<=1000):n<sizeLine:=Nat.lt_of_le_of_lt h Qd
section
variable{X:Cx}
theorem pv(i:Nat){x:Str}{pos:Pos}(b:X.N[i]?=some x:=by rfl)(c:De X.env.scope x:=by first|exact Or.inl rfl|exact Or.inr (Or.inl rfl)|exact Or.inr (Or.inr rfl))(hd:(x==("__debug__":Str))=false:=by decide)
  (a:(x==("__classdict__":Str))=false:=by decide):PE X (.Name x pos) (uN i):=zU b c hd a
theorem fU:dL X (.builtin "len") (λxs H Q=>∃a kvs,xs=[V.ref a]/\H a=some (.dK kvs)/\Q (.int kvs.length) H):=by
 intro pins s σ H xs us Q I r h;obtain⟨a,kvs,rfl,c,q⟩:=h;obtain⟨u,rfl,d⟩:=fe r;cases d;exact BR I (.inl c) λt s' b=>⟨.int kvs.length,H,b,⟨t,rfl⟩,q⟩
end
theorem aD{A B:Prop}(h:B):if false=true then A else B:=by
 rw[if_neg Bool.false_ne_true];exact h
theorem bC{A B:Prop}(h:A):if true=true then A else B:=by
 rw[if_pos rfl];exact h
theorem tL{c A B:Prop}[Decidable c](h1:c->A)(h2:¬c->B):if c then A else B:=by
 by_cases h:c
 ·rw[if_pos h];exact h1 h
 ·rw[if_neg h];exact h2 h
def Same(H H':Hp):Prop:=∀b o,H b=some o->H' b=some o
theorem Same.refl(H:Hp):Same H H:=λ_ _ h=>h
theorem Same.trans{H H1 H2:Hp}(a:Same H H1)(b:Same H1 H2):Same H H2:=λc o h=>b c o (a c o h)
theorem Same.free{H H':Hp}(e:Same H H'){l:Addr}(h:H' l=Option.none):H l=Option.none:=by
 cases q:H l with
 |none=>rfl
 |some o=>
  rw[e l o q]at h;cases h
theorem Same.seq{K:PySem.W.Frag}{H H':Hp}{a:Addr}{xs:List V}(e:Same H H')(h:bp K H a xs):bp K H' a xs:=by
 rcases h with(h|⟨o,h⟩)|h
 ·exact .inl (.inl (e _ _ h))
 ·exact .inl (.inr ⟨o,e _ _ h⟩)
 ·exact .inr h
section
variable{κ:Type}[DecidableEq κ]
theorem lq{kvs:List (κ×V)}{k:κ}(h:valV kvs k=none):¬k∈kvs.map (·.1):=by
 intro m;obtain⟨p,a,e⟩:=List.mem_map.mp m;have q:(kvs.any λkv=>decide (kv.1=k))=true:=List.any_eq_true.mpr ⟨p,a,decide_eq_true e⟩;rw[cH,h]at q;exact absurd q Qs
theorem iD{kvs:List (κ×V)}{k:κ}{v:V}(h:valV kvs k=some v):k∈kvs.map (·.1):=by
 have q:(kvs.any λkv=>decide (kv.1=k))=true:=by
  rw[cH,h]
  all_goals rfl
 obtain⟨p,a,e⟩:=List.any_eq_true.mp q;exact List.mem_map.mpr ⟨p,a,of_decide_eq_true e⟩
theorem iJ:∀{l:List κ}{k:κ},l.Nodup->¬k∈l->(l++[k]).Nodup
 |[],k,_,_=>Qs
 |a::r,k,h,b=>by
  obtain⟨h1,h2⟩:=List.nodup_cons.mp h;show(a::(r++[k])).Nodup;refine List.nodup_cons.mpr ⟨λm=>?_,iJ h2 λm=>b (List.mem_cons.mpr (Or.inr m))⟩;rcases List.mem_append.mp m with q|q
  ·exact h1 q
  ·exact b (List.mem_cons.mpr (Or.inl (List.mem_singleton.mp q).symm))
end
end L2
set_option maxHeartbeats 4000000
namespace L2
open PySem PySem.Spec PyProof.Rows
section
variable{prog:Program}{w:World}{A:Around}{R:Result->Shared->Prop}{s:Shared}
theorem mI{elt a iter:Expr}{ifs:List Expr}{scope:Scope}{pos:Pos}{it acc:Value}{env:Env}(I:Nat->Shared->Prop)
  (t:∀n s,I n s->wpAny (model prog w) A (pyNext it) (λr b=>match r with
   |none=>R (.ok .next) b
   | some v=>wpAny (model prog w) A (letOwnedTupleGo a it v) (λ_ g=>wpAny (model prog w) A (assign a env v) (λ_ i=>
     wpAny (model prog w) A (forIn ifs true λc r=>if r=true then do let ok<-isTrue c env (eval c env);pure (ForInStep.yield ok)else pure (ForInStep.yield r)) (λok d=>
      if ok=true then wpAny (model prog w) A (eval elt env) (λx j=>
       wpAny (model prog w) A (call (.builtin "list.append") [acc,x]) (λ_ k=>∃m,m<n/\I m k) (λ_ _=>False) j) (λ_ _=>False) d
      else∃m,m<n/\I m d) (λ_ _=>False) i) (λ_ _=>False) g) (λ_ _=>False) b) (λ_ _=>False) s)
  (n:Nat) (h:I n s):
  codeAny (model prog w) A (.compLoop (.ListComp elt [⟨a,iter,ifs,0⟩] scope pos) 0 it acc env) R s:=by
 refine codeAny_loop rfl I (λn s u=>?_) n h;show wpAny _ A ((compTurn (.ListComp elt [⟨a,iter,ifs,0⟩] scope pos) 0 it acc env).onRaise (λx=>do noteFrame x env;theTreesLotGoes x)) _ _ s;refine wpAny_noted ?_;rw[compTurn_list];refine wpAny_bind (wpAny_standAt (wpAny_bind (wpAny_mono (t n s u) (λr b e=>?_) λ_ _ h'=>h'.elim)));cases r with
 |none=>exact wpAny_pure e
 |some v=>
  refine wpAny_bind (wpAny_mono e (λ_ g l=>?_) λ_ _ h'=>h'.elim);refine wpAny_bind (wpAny_mono l (λ_ i o=>wpAny_bind (wpAny_mono o (λok d f=>?_) λ_ _ h'=>h'.elim)) λ_ _ h'=>h'.elim);cases ok with
  |false=>exact wpAny_pure ⟨rfl,f⟩
  |true=>
   exact wpAny_bind (wpAny_bind (wpAny_mono f (λx j p=>wpAny_bind (wpAny_mono p (λ_ k q=>wpAny_pure (wpAny_pure ⟨rfl,q⟩)) λ_ _ h'=>h'.elim)) λ_ _ h'=>h'.elim))
end
theorem jz{scope:Scope}{env:Env}(b:∀y∈scope.names,y.2=.free->∃c,env.cells.lookup y.1=some c):
  ∃cl,closureFor scope env=pure cl/\(∀x c,cl.lookup x=some c->env.cells.lookup x=some c)/\(∀y∈scope.names,y.2=.free->∃c,cl.lookup y.1=some c):=by
 have u:∀(l:List (Str×NameKind))(acc:List (Str×Addr)),(∀y∈l,y.2=.free->∃c,env.cells.lookup y.1=some c)->(∀x c,acc.lookup x=some c->env.cells.lookup x=some c)->
   ∃cl,(forIn (m:=Sem) l acc (λ(y:Str×NameKind)v=>if(y.2== .free)=true then do let c<-cellOf env y.1;pure (ForInStep.yield ((y.1,c)::v))else pure (ForInStep.yield v)))=pure cl/\
    (∀x c,cl.lookup x=some c->env.cells.lookup x=some c)/\(∀x,(∃c,acc.lookup x=some c)->∃c,cl.lookup x=some c)/\(∀y∈l,y.2=.free->∃c,cl.lookup y.1=some c):=by
  intro l;induction l with
  |nil=>intro acc _ o;exact⟨acc,rfl,o,λ_ h=>h,λ_ h=>nomatch h⟩
  |cons p r z=>
   intro acc t o;obtain⟨n,k⟩:=p;by_cases s:k=.free
   ·subst s;obtain⟨c,w⟩:=t (n,.free) List.mem_cons_self rfl;have q:∀x d,((n,c)::acc).lookup x=some d->env.cells.lookup x=some d:=λx d e=>by
     rw[List.lookup_cons]at e;cases hx:x==n with
     |true=>
      rw[hx]at e;rw[eq_of_beq hx,w];exact e
     |false=>
      rw[hx]at e;exact o x d e
    obtain⟨cl,f,g,j,i⟩:=z ((n,c)::acc) (λy a=>t y (List.mem_cons_of_mem _ a)) q;refine⟨cl,?_,g,λx⟨d,e⟩=>j x ?_,λy a b=>?_⟩
    ·rw[List.forIn_cons];simp only[beq_self_eq_true,if_true,cellOf,w,pure_bind];exact f
    ·rw[List.lookup_cons];cases hx:x==n with
     |true=>exact⟨c,rfl⟩
     |false=>exact⟨d,e⟩
    ·rcases List.mem_cons.mp a with rfl|a
     ·exact j _ ⟨c,Qs⟩
     ·exact i y a b
   ·have A:(k==NameKind.free)=false:=by simpa using s
    obtain⟨cl,f,g,j,i⟩:=z acc (λy a=>t y (List.mem_cons_of_mem _ a)) o;refine⟨cl,?_,g,j,λy a b=>?_⟩
    ·rw[List.forIn_cons];simp only[A,Bool.false_eq_true,if_false,pure_bind];exact f
    ·rcases List.mem_cons.mp a with rfl|a
     ·exact absurd b s
     ·exact i y a b
 obtain⟨cl,f,g,_,i⟩:=u scope.names [] b (λ_ _ h=>by simp at h);refine⟨cl,?_,g,i⟩;unfold closureFor;show(forIn scope.names [] _>>=λr=>pure r)=pure cl;rw[bind_pure];exact f
theorem gC{scope:Scope}{env:Env}{x:Str}:∀{names:List (Str×NameKind)},
    ((names.map λ(n,k)=>if(k==NameKind.free&&env.scope.kind== .function &&env.kindOf n==some .cell)then(n,NameKind.cell)else(n,k)).lookup x=some .cell \/
     (names.map λ(n,k)=>if(k==NameKind.free&&env.scope.kind== .function &&env.kindOf n==some .cell)then(n,NameKind.cell)else(n,k)).lookup x=some .free)->
    (∃y∈names,y.1=x/\(y.2=.free \/y.2=.cell))
  |[],h=>by rcases h with h|h<;>simp at h
  | (n,k)::r,h=>by
    by_cases c:x=n
    · subst c
      refine⟨(x,k),List.mem_cons_self,rfl,?_⟩;by_cases a:(k==NameKind.free&&env.scope.kind== .function &&env.kindOf x==some .cell)=true
      · have:=(Bool.and_eq_true_iff.mp (Bool.and_eq_true_iff.mp a).1).1
        exact .inl (by simpa using this)
      · simp only[List.map_cons,a,Bool.false_eq_true,if_false,List.lookup_cons,beq_self_eq_true]at h
        rcases h with h|h
        ·exact .inr (Option.some.inj h)
        ·exact .inl (Option.some.inj h)
    · have b:(x==n)=false:=by simpa using c
      have h':((r.map λ(n,k)=>if(k==NameKind.free&&env.scope.kind== .function &&env.kindOf n==some .cell)then(n,NameKind.cell)else(n,k)).lookup x=some .cell \/
        (r.map λ(n,k)=>if(k==NameKind.free&&env.scope.kind== .function &&env.kindOf n==some .cell)then(n,NameKind.cell)else(n,k)).lookup x=some .free):=by
        rw[List.map_cons]at h;by_cases a:(k==NameKind.free&&env.scope.kind== .function &&env.kindOf n==some .cell)=true
        ·simp only[a,if_true,List.lookup_cons,b]at h;exact h
        ·simp only[a,Bool.false_eq_true,if_false,List.lookup_cons,b]at h;exact h
      obtain⟨y,d,e⟩:=gC (scope:=scope) h';exact⟨y,List.mem_cons_of_mem _ d,e⟩
def fB(σ:St)(js:List Nat):St:=js.map λj=>(σ[j]?).getD none
def ck(X:Cx)(N:List Str)(scope:Scope)(cl:List (Str×Addr))(s:Shared)(H:Hp)(ex:List Addr):Cx:=
 {X with N:=N,s₀:=s,H₀:=H,env:=compEnvC scope cl s.heap.objs.size X.env,outer:=X.stack,stack:=X.stack,ex:=ex,fn:=λ_=>false,pn:=[],xe:=λ_ _=>False}
def PTs(X:Cx)(ifs:List Expr)(t:TT):Prop:=
 ∀(pins:List (Addr×Obj))(s:Shared)(σ:St)(H:Hp)(Q:Bool->Hp->Prop),Inv X pins σ H s->t σ H Q->
  wpAny (model X.prog X.w) X.A (forIn ifs true λc r=>if r=true then do let ok<-isTrue c X.env (eval c X.env);pure (ForInStep.yield ok)else pure (ForInStep.yield r)) (TP X pins σ Q) X.xe s
def uP:TT:=λ_ H Q=>Q true H
theorem cF{X:Cx}:PTs X [] uP:=λ_ _ _ H _ I h=>wpAny_pure ⟨H,I,h⟩
theorem kG{X:Cx}{c:Expr}{t:TT}(h:PT X c t):PTs X [c] t:=λpins s σ H Q I q=>wpAny_tests_one (h pins s σ H Q I q)
def uD(b:List Str)(a scope:Scope)(N:List Str)(xs:Nat)(js:List Nat):Bool:=
 scope.kind== .function &&(scope.names.all λy=>y.2 != .cell)&&(scope.names.all λy=>y.2 != .local ||scope.names.lookup y.1==some .local)&&
 (scope.names.all λy=>y.2 != .free ||(a.names.lookup y.1==some .cell ||a.names.lookup y.1==some .free))&&N.length==xs+js.length&&
 (List.range js.length).all λi=>match js[i]?,N[xs+i]? with
  |some j,some x=>b[j]? ==some x&&scope.names.lookup x==some .free
  |_,_=>false
structure dA(X:Cx)(scope:Scope)(N:List Str)(xs:Nat)(js:List Nat):Prop where
 kind:scope.kind=.function
 nocell:∀y∈scope.names,y.2≠ .cell
 once:∀y∈scope.names,y.2=.local->scope.names.lookup y.1=some .local
 caught:∀y∈scope.names,y.2=.free->X.env.kindOf y.1=some .cell \/X.env.kindOf y.1=some .free
 len:N.length=xs+js.length
 at_:∀(i j:Nat)(x:Str),js[i]?=some j->N[xs+i]?=some x->X.N[j]?=some x/\scope.names.lookup x=some .free
theorem aQ{X:Cx}{scope:Scope}{N:List Str}{xs:Nat}{js:List Nat}(h:uD X.N X.env.scope scope N xs js=true):dA X scope N xs js:=by
 unfold uD at h;simp only[Bool.and_eq_true]at h;obtain⟨⟨⟨⟨⟨h1,h2⟩,d⟩,f⟩,g⟩,k⟩:=h;refine⟨by simpa using h1,λy a=>?_,λy a e=>?_,λy a e=>?_,by simpa using g,λi j x b c=>?_⟩
 ·have:=List.all_eq_true.mp h2 y a;simpa using this
 ·have:=List.all_eq_true.mp d y a;rw[e]at this;simpa using this
 ·have:=List.all_eq_true.mp f y a;rw[e]at this;simpa[Env.kindOf]using this
 ·have hi:i<js.length:=(List.getElem?_eq_some_iff.mp b).1;have:=List.all_eq_true.mp k i (List.mem_range.mpr hi);rw[b,c]at this;simpa using this
theorem jl{a:Type}{x:Str}{k:a}:∀{l:List (Str×a)},l.lookup x=some k->(x,k)∈l
 |[],h=>by simp at h
 |(n,j)::r,h=>by
  rw[List.lookup_cons]at h;cases hx:x==n with
  |true=>
   rw[hx]at h;cases h;rw[eq_of_beq hx];exact List.mem_cons_self
  |false=>
   rw[hx]at h;exact List.mem_cons_of_mem _ (jl h)
theorem gD{env:Env}{x:Str}:∀{names:List (Str×NameKind)},names.lookup x=some .free ->
    ((names.map λ(n,k)=>if(k==NameKind.free&&env.scope.kind== .function &&env.kindOf n==some .cell)then(n,NameKind.cell)else(n,k)).lookup x=some .cell \/
     (names.map λ(n,k)=>if(k==NameKind.free&&env.scope.kind== .function &&env.kindOf n==some .cell)then(n,NameKind.cell)else(n,k)).lookup x=some .free)
  |[],h=>by simp at h
  | (n,k)::r,h=>by
    rw[List.map_cons];cases hx:x==n with
    | true=>
      rw[List.lookup_cons,hx]at h;cases h;by_cases a:(NameKind.free==NameKind.free&&env.scope.kind== .function &&env.kindOf n==some .cell)=true
      ·left;simp only[a,if_true,List.lookup_cons,hx]
      ·right;simp only[a,Bool.false_eq_true,if_false,List.lookup_cons,hx]
    | false=>
      rw[List.lookup_cons,hx]at h;have b:=gD (env:=env) h;by_cases a:(k==NameKind.free&&env.scope.kind== .function &&env.kindOf n==some .cell)=true
      ·simp only[a,if_true,List.lookup_cons,hx];exact b
      ·simp only[a,Bool.false_eq_true,if_false,List.lookup_cons,hx];exact b
section
variable{X:Cx}{pins:List (Addr×Obj)}{σ:St}{H:Hp}{s:Shared}{scope:Scope}{N:List Str}{xs:Nat}{js:List Nat}{cl:List (Str×Addr)}{fp:List Addr}{o:Obj}
theorem Inv.nostk(I:Inv X pins σ H s){a:Addr}(h:s.heap.objs.size<=a):a∉frs X.stack:=λb=>by
 rcases List.mem_cons.mp (I.stkSub a b)with e|b
 ·exact absurd (Nat.lt_of_lt_of_le I.lt h) (by rw[e];exact Nat.lt_irrefl _)
 ·exact I.nofs h b
theorem xO(I:Inv X pins σ H s)(S:dA X scope N xs js)(h2:∀x c,cl.lookup x=some c->X.env.cells.lookup x=some c)(n:∀y∈scope.names,y.2=.free->∃c,cl.lookup y.1=some c)
  (g:∀b∈fp,ip X pins H b)(i:∀b∈fp,∃u,s.heap.get? b=some u):
  (ck X N scope cl {s with heap:=s.heap.push o} H (s.heap.objs.size::fp)).Ok:=by
 have d:Inv X pins σ H {s with heap:=s.heap.push o}:=I.kept (t':=s.toks) λb u e=>Heap.get?_push_of_some _ e;have hsz:(s.heap.push o).objs.size=s.heap.objs.size+1:=Heap.size_push ..;have h:∀x c,cl.lookup x=some c->c<s.heap.objs.size:=λx c e=>by
  obtain⟨v,u,j,_⟩:=I.cell x c (h2 x c e);exact Heap.lt_size j
 refine⟨I.ok.mod,S.kind,I.ok.glob,I.ok.blt,Nat.le_refl _,λx y c l m=>I.ok.inj x y c (h2 x c l) (h2 y c m),λx p=>?_,λx c e _=>absurd e (by simp[ck]),I.ok.hd,I.ok.frames,.inl rfl,λb a=>?_,d.bs,Nat.le_trans d.ok.bsz d.sz,
  λb u e a=>?_,λb a=>?_,d.stack,d.stkFree⟩
 ·obtain⟨y,k,rfl,f⟩:=gC (scope:=scope) (env:=X.env) (x:=x) (names:=scope.names) p;rcases f with f|f
  ·exact n y k f
  ·exact absurd f (S.nocell y k)
 ·show b≠(s.heap.push o).objs.size/\_;rcases List.mem_cons.mp a with rfl|a
  ·exact⟨by rw[hsz];exact Nat.ne_of_lt (Nat.lt_succ_self _),λx c e=>Nat.ne_of_lt (h x c e)⟩
  ·obtain⟨u,j⟩:=i b a;have:=Heap.lt_size j;exact⟨by rw[hsz];exact Nat.ne_of_lt (Nat.lt_succ_of_lt this),λx c e=>(g b a).2.2.2.2.1 x c (h2 x c e)⟩
 ·rcases List.mem_cons.mp a with rfl|a
  ·exact absurd (Heap.lt_size (I.bk _ u e)) (Nat.lt_irrefl _)
  ·rcases(g b a).2.2.2.1 with z|z
   ·exact I.ok.noex b u e z
   ·exact absurd (Nat.lt_of_lt_of_le (Heap.lt_size e) (Nat.le_trans I.ok.bsz z)) (Nat.lt_irrefl _)
 ·rcases List.mem_cons.mp a with rfl|a
  ·exact I.nostk (Nat.le_refl _)
  ·intro z;rcases List.mem_cons.mp (I.stkSub b z)with e|e
   ·exact(g b a).2.1 e
   ·exact(g b a).2.2.1 e
theorem jQ{i:Nat}{v:V}(h:(List.replicate xs none++fB σ js)[i]?=some (some v)):∃k j,i=xs+k/\js[k]?=some j/\σ[j]?=some (some v):=by
 by_cases hi:i<xs
 ·rw[List.getElem?_append_left (by simpa using hi)]at h;rw[List.getElem?_replicate]at h;split at h<;>cases h
 ·rw[List.getElem?_append_right (by simpa using Nat.le_of_not_lt hi)]at h;rw[List.length_replicate]at h;unfold fB at h;rw[List.getElem?_map]at h;cases e:js[i-xs]? with
  |none=>rw[e]at h;cases h
  |some j=>
   rw[e]at h;refine⟨i-xs,j,Qo,e,?_⟩;have h':(σ[j]?).getD none=some v:=Option.some.inj h;cases q:σ[j]? with
   |none=>rw[q]at h';cases h'
   |some w=>
    rw[q]at h';exact congrArg some h'
theorem uC{a:Heap}{tk:Nat}(I:Inv X pins σ H s)(S:dA X scope N xs js)(h2:∀x c,cl.lookup x=some c->X.env.cells.lookup x=some c)(C:∀y∈scope.names,y.2=.free->∃c,cl.lookup y.1=some c)
  (L:∀b∈fp,ip X pins H b)(t:∀b∈fp,∃u,s.heap.get? b=some u)(hd:∀v,o.data≠ .cell v)(O:o.isFreed=false){m:Str->Option Value}
  (w:a.Ns (s.heap.push o).objs.size m)(k3:∀b u,(s.heap.push o).get? b=some u->a.get? b=some u):
  Inv (ck X N scope cl {s with heap:=s.heap.push o} H (s.heap.objs.size::fp)) [(s.heap.objs.size,o)] (List.replicate xs none++fB σ js) H {s with heap:=a,toks:=tk}:=by
 have hsz:(s.heap.push o).objs.size=s.heap.objs.size+1:=Heap.size_push ..;have k2:∀b u,s.heap.get? b=some u->a.get? b=some u:=λb u e=>k3 b u (Heap.get?_push_of_some _ e);refine⟨xO I S h2 C L t,rfl,I.bare,Un.kept k3,⟨m,w,λi x v G J Q=>?_⟩,λx c e=>?_,I.hok.fresh (show s.heap.objs.size<=(s.heap.push o).objs.size by rw[hsz];exact Nat.le_succ _),λx c e=>I.freeC x c (h2 x c e),λp P=>?_,I.hok.kept k2,?_⟩
 ·obtain⟨k,j,rfl,M,A⟩:=jQ J;obtain⟨K,E⟩:=S.at_ k j x M G;have d:=jl E;have D:=S.caught _ d rfl;obtain⟨R,_,n⟩:=I.loc;obtain⟨u,r,l⟩:=n j x v K A (by rcases D with z|z;exact .inr (.inl z);exact .inr (.inr z));refine⟨u,r,?_⟩;rcases l with⟨z,_⟩|⟨_,c,ec,B,g,f⟩
  ·rcases D with q|q<;>rw[q]at z<;>cases z
  ·obtain⟨F,h⟩:=C _ d rfl;have:=h2 _ _ h;have e:c=F:=Option.some.inj (ec.symm.trans this);subst e;exact .inr ⟨gD (env:=X.env) E,c,h,B,k2 _ _ g,f⟩
 ·obtain⟨v,B,g,f⟩:=I.cell x c (h2 x c e);exact⟨v,B,k2 _ _ g,f⟩
 ·have e:p=(s.heap.objs.size,o):=by simpa[ck]using P
  subst e;exact⟨k3 _ _ (Heap.get?_push_size _ O),I.hok.fresh (Nat.le_refl _),(show s.heap.objs.size≠(s.heap.push o).objs.size by rw[hsz];exact Nat.ne_of_lt (Nat.lt_succ_self _)),I.nostk (Nat.le_refl _),hd⟩
 ·rw[List.length_append,List.length_replicate];unfold fB;rw[List.length_map];exact S.len.symm
theorem qI{s':Shared}{H':Hp}{i:St}{d:List Value}{n:Nat}{acc:List V}(I:Inv X pins σ H s)(t:∀b∈fp,ip X pins H b)
  (J:Inv (ck X N scope cl {s with heap:=s.heap.push o} H (s.heap.objs.size::fp)) [(s.heap.objs.size,({cls:=.type "list",data:=.seq d.toArray n}:Obj))] i H' s')
  (x:bc acc d)(w:acc.length<=sizeLine):
  Inv X pins σ (upd H' s.heap.objs.size (.lst acc)) s'/\ip X pins (upd H' s.heap.objs.size (.lst acc)) (s.heap.push o).objs.size/\H' s.heap.objs.size=none:=by
 have hsz:(s.heap.push o).objs.size=s.heap.objs.size+1:=Heap.size_push ..;obtain⟨p,hn,_,_,_⟩:=J.pin (s.heap.objs.size,({cls:=.type "list",data:=.seq d.toArray n}:Obj)) (by simp[ck]);have nd:∀b u,H' b=some u->b≠s.heap.objs.size:=λb u e=>ai e hn;have h:∀b u,s.heap.get? b=some u->b∉fp->b∉s.heap.objs.size::fp:=λb u e a z=>by
  rcases List.mem_cons.mp z with z|z
  ·exact absurd (Heap.lt_size e) (by rw[z];exact Nat.lt_irrefl _)
  ·exact a z
 have ps:∀b u,s.heap.get? b=some u->(s.heap.push o).get? b=some u:=λb u e=>Heap.get?_push_of_some _ e;refine⟨I.call' (ch:=fp) J.os ⟨λb u e q a f=>J.base.keep b u (ps b u e) q a (h b u e f),λb u e q a f=>J.base.slot b u (ps b u e) q a (h b u e f),λb u e q f=>?_,λb u e f=>J.base.there b u (ps b u e) (h b u e f),
  λb ys e=>?_,λb u ys e=>?_,λb ys e=>?_⟩ (λb u e=>?_) J.bare (λb a=>?_),?_,hn⟩
 ·rw[ah (Nat.ne_of_lt (Heap.lt_size e))];exact J.base.free b u (ps b u e) q (h b u e f)
 ·have z:=J.base.tups b ys e;rw[ah (nd _ _ z)];exact z
 ·have z:=J.base.frzs b u ys e;rw[ah (nd _ _ z)];exact z
 ·obtain⟨g,z⟩:=J.base.tbls b ys e;exact⟨g,by rw[ah (nd _ _ z)];exact z⟩
 ·by_cases a:b=s.heap.objs.size
  ·subst a;rw[ac]at e;cases e;exact⟨w,d,n,x,p⟩
  ·rw[ah a]at e;exact(J.hok b u e).stay (λc v _ q=>q) (λc q=>by rw[ah (nd _ _ q)];exact q) λc ys q=>by rw[ah (nd _ _ q)];exact q
 ·obtain⟨_,f1,_,k,l,m⟩:=t b a;exact⟨k,f1,l,m⟩
 ·have j:Inv X pins σ H {s with heap:=s.heap.push o}:=I.kept (t':=s.toks) λb u e=>Heap.get?_push_of_some _ e;refine j.fpOk (Nat.le_refl _) ?_;rw[ah (show(s.heap.push o).objs.size ≠s.heap.objs.size by rw[hsz];exact Nat.succ_ne_self _)];exact J.free
end
def dj(xs:Nat)(js:List Nat)(g:TG)(tt:TT)(te:TE)(σ:St)(Q:VK)(J:It)(H1:Hp):Prop:=
 ∃W:Nat->Nat->List V->St->Hp->Prop,(∃m,W 0 m [] (List.replicate xs none++fB σ js) H1)/\∀i m acc a H,W i m acc a H->
  (J.stop i H/\∀p,H p=none->Q (.ref p) (upd H p (.lst acc)))\/
  (J.go i H/\acc.length<sizeLine/\∃N:List V->St->Hp->Prop,(∀d a H',N d a H'->∃f,f<m/\W (i+1) f d a H')/\∀x H',J.yld i H x H'->g x a H' λc H2=>tt c H2 λb e=>
   if b=true then te c e λy h=>N (acc++[y]) c h else N acc c e)
def xZ(xs:Nat)(js:List Nat)(ti:TI)(g:TG)(tt:TT)(te:TE):TE:=λσ H Q=>ti σ H λJ H1=>dj xs js g tt te σ Q J H1
section
variable{X:Cx}{scope:Scope}{N:List Str}{xs:Nat}{js:List Nat}{tg iter elt:Expr}{ifs:List Expr}{pos:Pos}{ti:TI}{g:TG}{tt:TT}{te:TE}
theorem jy{pins:List (Addr×Obj)}{s:Shared}{σ:St}{H:Hp}{Q:VK}{RR:Value->Addr->Result->Shared->Prop}{E:Value->Shared->Prop}{it:Addr}{fp:List Addr}{tn:Nat->Heap->Prop}{J:It}{cl:List (Str×Addr)}
  (hc:X.calm=true)(S:dA X scope N xs js)(hg:∀cl s H ex,PG (ck X N scope cl s H ex) tg g)(ht:∀cl s H ex,PTs (ck X N scope cl s H ex) ifs tt)(he:∀cl s H ex,PE (ck X N scope cl s H ex) elt te)
  (h2:∀x c,cl.lookup x=some c->X.env.cells.lookup x=some c)(h4:∀y∈scope.names,y.2=.free->∃c,cl.lookup y.1=some c)
  (I:Inv X pins σ H s)(T:oh X.prog X.w X.K tg J fp it tn)(st:tn 0 s.heap)(hf:∀b∈fp,ip X pins H b)
  (hW:dj xs js g tt te σ Q J H)
  (hR:∀(D C:Addr)(H':Hp)(s':Shared)(m:Str->Option Value),Inv X pins σ H' s'->s'.heap.Ns C m->ip X pins H' C->Q (.ref D) H'->RR (.ref D) C (.ok .next) s'):
  wpAny (model X.prog X.w) X.A (newList []) (λacc k=>wpAny (model X.prog X.w) X.A (newFunctionEnv scope X.env.globals cl [] X.env.qual none .none (some X.env)) (λL xh=>
   codeAny (model X.prog X.w) X.A (.compStart (.ListComp elt [⟨tg,iter,ifs,0⟩] scope pos) 0 (.ref it) acc {L with scope:=relabel scope X.env}) (RR acc L.locals) xh) E k) E s:=by
 refine wpAny_newObj_type (wpAny_newFunctionEnv S.nocell (by intro y hy;simp at hy) (λM l t=>?_) S.kind);dsimp only at l t⊢;obtain⟨W,⟨m0,w0⟩,xj⟩:=hW;have R:∀b∈fp,∃u,s.heap.get? b=some u:=λb j=>let⟨u,hu,_⟩:=T.obj _ _ st b j;⟨u,hu⟩;have hsz:(s.heap.push ({cls:=.type "list",dict:=none,data:=.seq ([]:List Value).toArray }:Obj)).objs.size=s.heap.objs.size+1:=Heap.size_push ..;have k3:∀b u,(s.heap.push ({cls:=.type "list",dict:=none,data:=.seq ([]:List Value).toArray }:Obj)).get? b=some u->M.get? b=some u:=λb u e=>
  (t.2 b (Nat.ne_of_lt (Heap.lt_size e))).trans (Heap.get?_push_of_some _ e)
 have B0:=uC (X:=X) (N:=N) (xs:=xs) (js:=js) (tk:=s.toks+([]:List (Str×Value)).length) I S h2 h4 hf R (λv z=>by cases z) rfl l k3;generalize hXc:ck X N scope cl {s with heap:=s.heap.push ({cls:=.type "list",dict:=none,data:=.seq ([]:List Value).toArray }:Obj)} H (s.heap.objs.size::fp)=Xc at B0;have eP:Xc.prog=X.prog:=by rw[<-hXc];rfl
 have eW:Xc.w=X.w:=by rw[<-hXc];rfl
 have eK:Xc.K=X.K:=by rw[<-hXc];rfl
 have eA:Xc.A=X.A:=by rw[<-hXc];rfl
 have eC:Xc.calm=true:=by rw[<-hXc];exact hc
 have eX:Xc.xe=λ_ _=>False:=by rw[<-hXc];rfl
 have eE:Xc.env=compEnvC scope cl (s.heap.push ({cls:=.type "list",dict:=none,data:=.seq ([]:List Value).toArray }:Obj)).objs.size X.env:=by rw[<-hXc];rfl
 have eF:Xc.fs=frs X.stack:=by rw[<-hXc];rfl
 have xb:Xc.ex=s.heap.objs.size::fp:=by rw[<-hXc];rfl
 have xr:PG Xc tg g:=by rw[<-hXc];exact hg _ _ _ _
 have xv:PTs Xc ifs tt:=by rw[<-hXc];exact ht _ _ _ _
 have xq:PE Xc elt te:=by rw[<-hXc];exact he _ _ _ _
 have xa:∀x c,Xc.env.cells.lookup x=some c->X.env.cells.lookup x=some c:=by rw[eE];exact h2
 have P:∀{H':Hp}{ob:Obj},(∀b∈fp,H' b=none)->∀b∈fp,ip Xc [(s.heap.objs.size,ob)] H' b:=λ{H' ob}hn b j=>by
  obtain⟨u,hu⟩:=R b j;have xe:=Heap.lt_size hu;obtain⟨_,f1,f2,f3,f4,f5⟩:=hf b j;refine⟨hn b j,?_,?_,.inl ?_,λx c e=>f4 x c (xa x c e),λp G=>?_⟩
  ·rw[eE];show b≠(s.heap.push _).objs.size;rw[hsz];exact Nat.ne_of_lt (Nat.lt_succ_of_lt xe)
  ·rw[eF];intro z;rcases List.mem_cons.mp (I.stkSub b z)with e|e
   ·exact f1 e
   ·exact f2 e
  ·rw[xb];exact List.mem_cons_of_mem _ j
  ·have e:p=(s.heap.objs.size,ob):=by
    rw[<-hXc]at G;simpa[ck]using G
   subst e;show s.heap.objs.size≠b;exact Nat.ne_of_gt xe
 have O:∀k:Shared,k={s with heap:=M,toks:=s.toks+([]:List (Str×Value)).length }->
   codeAny (model X.prog X.w) X.A (.compLoop (.ListComp elt [⟨tg,iter,ifs,0⟩] scope pos) 0 (.ref it) (.ref s.heap.objs.size) (compEnvC scope cl (s.heap.push ({cls:=.type "list",dict:=none,data:=.seq ([]:List Value).toArray }:Obj)).objs.size X.env))
    (RR (.ref s.heap.objs.size) (s.heap.push ({cls:=.type "list",dict:=none,data:=.seq ([]:List Value).toArray }:Obj)).objs.size) k:=by
  rintro k rfl;refine mI (λn s'=>∃(i:Nat)(acc:List V)(f:List Value)(c:Nat)(xk:St)(H':Hp),Inv Xc [(s.heap.objs.size,({cls:=.type "list",data:=.seq f.toArray c}:Obj))] xk H' s'/\bc acc f/\tn i s'.heap/\
   (∀b∈fp,H' b=none)/\acc.length<=sizeLine/\W i n acc xk H') ?_ m0 ⟨0,[],[],0,_,H,B0,.nil,T.keep _ _ _ st λb _ u e=>k3 b u (Heap.get?_push_of_some _ e),λb j=>(hf b j).1,Nat.zero_le _,w0⟩
  rintro n s3⟨i,acc,f,c,K,H3,I3,rv,xf,xc,hz,w3⟩;rcases xj i n acc K H3 w3 with⟨stop,qn⟩|⟨go,xx,NN,xd,xg⟩
  ·have h:=T.done Xc eP eW eK eC i _ s3 K H3 (λ_ _=>False) I3 (P xc) xf stop;rw[eA]at h;refine bx h λr s4⟨hr,I4⟩=>?_;subst hr;rw[<-hXc]at I4;obtain⟨a1,a2,a3⟩:=qI I hf I4 rv hz;obtain⟨mC,xt,_⟩:=I4.loc;exact hR _ _ _ _ mC a1 xt a2 (qn _ a3)
  ·have h:=T.item Xc eP eW eK eC i _ s3 K H3 (λ_ _=>False) I3 (P xc) xf go;rw[eA]at h;refine bx h λr s4⟨u,hr,h4⟩=>?_;subst hr;refine bx h4 λ_ s5⟨x,H5,I5,r5,y5,U,xo⟩=>?_;have xn:=I5.pinned (P xo) (T.obj _ _ U);have ha:=xr _ s5 K H5 x u _ xn r5 (xg x H5 y5);rw[eP,eW,eA,eE,eX]at ha;refine bx ha λ_ s6⟨A,H6,I6,q6⟩=>?_;have j:=xv _ s6 A H6 _ I6 q6;rw[eP,eW,eA,eE,eX]at j;refine bx j λok s7⟨H7,I7,q7⟩=>?_;have xi:∀{xl:St}{Y:Hp}{B:Shared},Inv Xc ([(s.heap.objs.size,({cls:=.type "list",data:=.seq f.toArray c}:Obj))]++ja fp s5.heap) xl Y B->tn (i+1) B.heap/\∀b∈fp,Y b=none:=λ{xl Y B}Z=>by
    refine⟨T.keep _ _ _ U λb j o e=>(Z.pin (b,o) (List.mem_append_right _ (List.mem_append_right _ (eO j e)))).1,λb j=>?_⟩;obtain⟨o,e,d⟩:=T.obj _ _ U b j;exact(Z.pin (b,o) (List.mem_append_right _ (List.mem_append_right _ (eO j e)))).2.1
   cases ok with
   |false=>
    obtain⟨m',hm,w7⟩:=xd _ _ _ q7;obtain⟨t1,t2⟩:=xi I7;exact⟨m',hm,i+1,acc,f,c,A,H7,I7.unpinned,rv,t1,t2,hz,w7⟩
   |true=>
    have hd:=xq _ s7 A H7 _ I7 q7;rw[eP,eW,eA,eE,eX]at hd;refine bx hd λv B⟨y,Y,Z,r8,q8⟩=>?_;obtain⟨m',hm,w8⟩:=xd _ _ _ q8;obtain⟨t1,t2⟩:=xi Z;have I9:=Z.unpinned;obtain⟨eD,nD,nC,nF,_⟩:=I9.pin (s.heap.objs.size,({cls:=.type "list",data:=.seq f.toArray c}:Obj)) Qs;have xy:=rv.length;refine call_meets F.slot_list_append ⟨_,eD,rfl⟩ F.entry_list_append (F.args_list_append_2 _ _) (PySem.list_append s.heap.objs.size f.toArray c v (by rw[List.size_toArray];omega)) ⟨eD,?_⟩;obtain⟨n9,q⟩:∃n9,(B.heap.update s.heap.objs.size (Obj.mapSeq λa=>a.push v)).get? s.heap.objs.size=some ({cls:=.type "list",data:=.seq (f++[v]).toArray n9}:Obj):=by
     have q:=PySem.IsL.update eD (λa=>a.push v);have ea:f.toArray.push v=(f++[v]).toArray:=Qs;rw[ea]at q;exact⟨_,q⟩
    have xm:Inv Xc [] A Y {B with heap:=B.heap.update s.heap.objs.size (Obj.mapSeq λa=>a.push v)}:=by
     refine(I9.pins_of (pins':=[]) λp G=>nomatch G).turned (it:=s.heap.objs.size) (t':=B.toks) (λb u j e=>(Heap.get?_update_other B.heap _ (Ne.symm j)).trans e) nD nC (.inl (by rw[xb];exact List.mem_cons_self)) (λx cc e=>?_) (λp G=>?_)
     ·obtain⟨w0,oc,xu,_⟩:=I.cell x cc (xa x cc e);exact Nat.ne_of_lt (Heap.lt_size xu)
     ·rw[<-hXc]at G;exact absurd G (by simp[ck])
    refine⟨m',hm,i+1,acc++[y],f++[v],n9,A,Y,xm.pins_of λp G=>?_,rv.append (.cons r8 .nil),T.keep _ _ _ t1 λb j u e=>?_,t2,by rw[List.length_append,List.length_singleton];omega,w8⟩
    ·have e:p=(s.heap.objs.size,({cls:=.type "list",data:=.seq (f++[v]).toArray n9}:Obj)):=by simpa using G
     subst e;exact⟨q,nD,nC,nF,λw z=>by cases z⟩
    ·have xp:b≠s.heap.objs.size:=by
      obtain⟨z,xw⟩:=R b j;exact Nat.ne_of_lt (Heap.lt_size xw)
     exact(Heap.get?_update_other B.heap _ (Ne.symm xp)).trans e
 exact codeAny_compStart_list (O _ rfl) (T.self _ 0 _ _ _ (T.keep _ _ _ st λb _ u e=>k3 b u (Heap.get?_push_of_some _ e)) (O _ rfl))
theorem cM(A:X.calm=true)(S:dA X scope N xs js)(hi:PI X tg iter ti)(E:∀cl s H ex,PG (ck X N scope cl s H ex) tg g)(G:∀cl s H ex,PTs (ck X N scope cl s H ex) ifs tt)
  (B:∀cl s H ex,PE (ck X N scope cl s H ex) elt te)(F:∀x,foldedSetIterable iter X.env x=pure x:=by intro _;rfl):
  PE X (.ListComp elt [⟨tg,iter,ifs,0⟩] scope pos) (xZ xs js ti g tt te):=by
 intro pins s σ H Q I h;obtain⟨cl,j,h2,p⟩:=jz (scope:=scope) (env:=X.env) λy K e=>I.ok.has y.1 (S.caught y K e);rw[eval_ListComp];refine wpAny_comprehension_free (use:=none) rfl F j S.kind S.once (bx (hi pins s σ H _ I h) λv M h1=>bx h1 λL O a=>?_);obtain⟨it,fp,P,J,H2,e,i,T,d,k,w⟩:=a;subst e;refine jy (RR:=λacc C=>compPost (model X.prog X.w) X.A X.xe none (EP X pins σ Q) acc C) A S E G B h2 p i T d k w λD C H' s' m f hn t q=>?_;obtain⟨f0,f1,_,l,n,o⟩:=t;exact⟨m,hn,λh' c=>⟨.ref D,H',f.turned (it:=C) (t':=s'.toks) (λb u z e=>(c.2 b z).trans e) f0 f1 l n o,rfl,q⟩⟩
theorem iI{j:Nat}{y:Str}{d c:Pos}(Y:X.calm=true)(R:X.N.Nodup)(hj:X.N[j]?=some y)(f:X.env.scope.names.lookup y=some .local)(S:dA X scope N xs js)(hi:PI X tg iter ti)(hg:∀cl s H ex,PG (ck X N scope cl s H ex) tg g)(ht:∀cl s H ex,PTs (ck X N scope cl s H ex) ifs tt)
  (Z:∀cl s H ex,PE (ck X N scope cl s H ex) elt te)
  (o:swapsWith (.ListComp elt [⟨tg,iter,ifs,0⟩] scope pos) (some (.Name y d)) c.line X.env=pure true)
  (hs:∀x,foldedSetIterable iter X.env x=pure x:=by intro _;rfl):
  PS X (.Assign [.Name y d] (.ListComp elt [⟨tg,iter,ifs,0⟩] scope pos) c) (A9 (xZ xs js ti g tt te) (eV j)):=by
 intro pins s σ H D I h;obtain⟨cl,F,h2,O⟩:=jz (scope:=scope) (env:=X.env) λy f e=>I.ok.has y.1 (S.caught y f e);rw[exec_Assign_Name_used _ _ _ _ o];refine wpAny_bind (wpAny_standAt (wpAny_bind ?_));show wpAny _ X.A (do let _<-comprehension (.ListComp elt [⟨tg,iter,ifs,0⟩] scope pos) scope X.env _ (newList []) false (eval iter X.env) (some (assign (.Name y d) X.env))) _ _ s;refine wpAny_bind (wpAny_mono (wpAny_comprehension_free (use:=some (assign (.Name y d) X.env)) (Q:=λ_ s'=>SP X pins D .next s') rfl hs F S.kind S.once
  (bx (hi pins s σ H _ I h) λv s1 h1=>bx h1 λxa s2 k=>?_)) (λ_ s' hq=>wpAny_pure (wpAny_pure hq)) λ_ _ e=>e)
 obtain⟨it,fp,tn,J,H2,e,E,T,t,G,U⟩:=k;subst e;refine jy (Q:=λx H1=>eV j x σ H1 D.nx) (RR:=λacc C=>compPost (model X.prog X.w) X.A X.xe (some (assign (.Name y d) X.env)) (λ_ s'=>SP X pins D .next s') acc C) Y S hg ht Z h2 O E T t G U λA C H' s' m B hn P q=>?_;obtain⟨f0,f1,K,L,w,M⟩:=P;show wpAny _ X.A (assign (.Name y d) X.env (.ref A)) _ _ _;refine wpAny_assign_Name (jW B R hj (.inl f) (show aN (.ref A) (.ref A)from rfl) (λp i⟨a,sb,V⟩=>?_) (.inr f));have l:C≠a:=by
  rcases V with e|e
  ·rw[e];exact f1
  ·exactλz=>w y a e z.symm
 refine⟨m,hn.sameBut sb l,λh' n=>?_⟩;exact⟨_,H',i.turned (it:=C) (t':=p.toks) (λb u W e=>(n.2 b W).trans e) f0 f1 L w M,q⟩
end
section
variable{K:PySem.W.Frag}{xs:Nat}{js:List Nat}{g:TG}{tt:TT}{te:TE}{σ:St}{Q:VK}{H:Hp}
theorem eJ{J:It}{n:Nat}(d:Nat->List V->St->Hp->Prop)(h0:d 0 [] (List.replicate xs none++fB σ js) H)(u:∀i acc c H',d i acc c H'->acc.length<=i)(w:n<=sizeLine)
  (k:∀i acc c H',i<n->d i acc c H'->J.go i H')(l:∀acc c H',d n acc c H'->J.stop n H')
  (v:∀i x acc c H' H2,i<n->d i acc c H'->J.yld i H' x H2->g x c H2 λf H2=>tt f H2 λb o=>if b=true then te f o λy t=>d (i+1) (acc++[y]) f t else d (i+1) acc f o)
  (hd:∀acc c H',d n acc c H'->∀p,H' p=none->Q (.ref p) (upd H' p (.lst acc))):dj xs js g tt te σ Q J H:=by
 refine⟨λi m acc c H'=>m=n-i/\i<=n/\d i acc c H',⟨n,Qs,Nat.zero_le _,h0⟩,?_⟩;rintro i m acc c H'⟨rfl,hi,p⟩;by_cases j:i<n
 ·have:=u _ _ _ _ p;exact .inr ⟨k i acc c H' j p,Qo,λa s h=>d (i+1) a s h,λa s h q=>⟨n-(i+1),Qo,rfl,j,q⟩,λx H2 y=>v i x acc c H' H2 j p y⟩
 ·have e:i=n:=Qo;subst e;exact .inl ⟨l _ _ _ p,hd _ _ _ p⟩
theorem cP{a:Addr}{ys:List V}(f:Nat->List V->St->Hp->Prop)(h0:f 0 [] (List.replicate xs none++fB σ js) H)(m:∀i acc c H',f i acc c H'->acc.length<=i)(o:ys.length<=sizeLine)
  (j:∀i acc c H',i<=ys.length->f i acc c H'->bp K H' a ys)
  (n:∀i x acc c H',ys[i]?=some x->f i acc c H'->g x c H' λd H2=>tt d H2 λb k=>if b=true then te d k λy l=>f (i+1) (acc++[y]) d l else f (i+1) acc d k)
  (hd:∀acc c H',f ys.length acc c H'->∀p,H' p=none->Q (.ref p) (upd H' p (.lst acc))):dj xs js g tt te σ Q (AS K a) H:=
 eJ f h0 m o (λi acc c H' h p=>⟨ys,ys[i],j _ _ _ _ (Nat.le_of_lt h) p,by simp[h]⟩) (λacc c H' p=>⟨ys,j _ _ _ _ (Nat.le_refl _) p,Nat.le_refl _⟩)
  (λi x acc c H' H2 h p y=>by
   obtain⟨e,y⟩:=y;subst e;exact n i x acc c _ (y ys (j _ _ _ _ (Nat.le_of_lt h) p)) p) hd
theorem mH{a:Addr}{ys:List V}(f:Nat->List V->St->Hp->Prop)(h0:f 0 [] (List.replicate xs none++fB σ js) H)(m:∀i acc c H',f i acc c H'->acc.length<=i)(o:ys.length<=sizeLine)
  (j:∀i acc c H',i<=ys.length->f i acc c H'->bj K H' a ys)
  (n:∀i x acc c H',ys[i]?=some x->f i acc c H'->g x c H' λd H2=>tt d H2 λb k=>if b=true then te d k λy l=>f (i+1) (acc++[y]) d l else f (i+1) acc d k)
  (hd:∀acc c H',f ys.length acc c H'->∀p,H' p=none->Q (.ref p) (upd H' p (.lst acc))):dj xs js g tt te σ Q (AR K a) H:=
 eJ f h0 m o (λi acc c H' h p=>⟨ys,ys[i],j _ _ _ _ (Nat.le_of_lt h) p,by simp[h]⟩) (λacc c H' p=>⟨ys,j _ _ _ _ (Nat.le_refl _) p,Nat.le_refl _⟩)
  (λi x acc c H' H2 h p y=>by
   obtain⟨e,y⟩:=y;subst e;exact n i x acc c _ (y ys (j _ _ _ _ (Nat.le_of_lt h) p)) p) hd
theorem jx{lo:Int}{n:Nat}(d:Nat->List V->St->Hp->Prop)(h0:d 0 [] (List.replicate xs none++fB σ js) H)(k:∀i acc a H',d i acc a H'->acc.length<=i)(m:n<=sizeLine)
  (l:∀i acc a H',i<n->d i acc a H'->g (.int (lo+i)) a H' λc H2=>tt c H2 λb f=>if b=true then te c f λy j=>d (i+1) (acc++[y]) c j else d (i+1) acc c f)
  (hd:∀acc a H',d n acc a H'->∀p,H' p=none->Q (.ref p) (upd H' p (.lst acc))):dj xs js g tt te σ Q (AK lo n) H:=
 eJ d h0 k m (λi acc a H' h p=>h) (λacc a H' p=>Nat.le_refl _)
  (λi x acc a H' H2 h p y=>by
   obtain⟨e,y⟩:=y;subst e y;exact l i acc a _ h p) hd
end
def Cq(x:Str):It:=⟨λi _=>i<x.cps.size,λi H v H'=>H'=H/\∃c,x.cps[i]?=some c/\v=.str ⟨#[c]⟩,λi _=>i=x.cps.size⟩
def CU(tl:TE):TI:=λσ H R=>tl σ H λv H1=>∃x,v=.str x/\R (Cq x) H1
theorem uB{xs:Nat}{js:List Nat}{g:TG}{tt:TT}{te:TE}{σ:St}{Q:VK}{H:Hp}{x:Str}(f:Nat->List V->St->Hp->Prop)(h0:f 0 [] (List.replicate xs none++fB σ js) H)(l:∀i acc a H',f i acc a H'->acc.length<=i)(n:x.cps.size<=sizeLine)
  (m:∀i c acc a H',x.cps[i]?=some c->f i acc a H'->g (.str ⟨#[c]⟩) a H' λd H2=>tt d H2 λb j=>if b=true then te d j λy k=>f (i+1) (acc++[y]) d k else f (i+1) acc d j)
  (hd:∀acc a H',f x.cps.size acc a H'->∀p,H' p=none->Q (.ref p) (upd H' p (.lst acc))):dj xs js g tt te σ Q (Cq x) H:=
 eJ f h0 l n (λi acc a H' h p=>h) (λacc a H' p=>rfl)
  (λi v acc a H' H2 h p y=>by
   obtain⟨e,c,o,q⟩:=y;subst e q;exact m i c acc a _ o p) hd
def ix(it:Addr)(x:Str)(t:Tok)(i:Nat)(h:Heap):Prop:=h.IsStrIter it "str_ascii_iterator" x t i\/h.IsStrIter it "str_iterator" x t i
theorem ix.obj{it:Addr}{x:Str}{t:Tok}{i:Nat}{h:Heap}(st:ix it x t i h):∃o n vs,h.get? it=some o/\o.cls=.type n/\o.data=.fields vs/\(n="str_ascii_iterator"\/n="str_iterator"):=by
 rcases st with⟨o,e,c,d⟩|⟨o,e,c,d⟩
 ·exact⟨o,_,_,e,c,d,.inl rfl⟩
 ·exact⟨o,_,_,e,c,d,.inr rfl⟩
theorem ix.go{M:Model}{A:Around}{E:Value->Shared->Prop}{s:Shared}{tg:Expr}{it:Addr}{u:Value}{x:Str}{t:Tok}{i:Nat}{Q:Unit->Shared->Prop}(st:ix it x t i s.heap)(a:Q () s):wpAny M A (letOwnedTupleGo tg (.ref it) u) Q E s:=by
 obtain⟨o,n,vs,e,c,d,hn⟩:=st.obj;rcases hn with rfl|rfl
 ·exact j9 e c d Qd a
 ·exact j9 e c d Qd a
theorem qQ{P:Program}{w:World}{K:PySem.W.Frag}{tg:Expr}(it:Addr)(x:Str)(t:Tok):oh P w K tg (Cq x) [it] it (ix it x t) where
 mem:=Qs
 obj:=λi h st b f=>by
  have e:b=it:=by simpa using f
  subst e;obtain⟨o,n,vs,e,c,d,hn⟩:=st.obj;exact⟨o,e,λv z=>by rw[d]at z;cases z⟩
 keep:=λi h h' st k=>by
  rcases st with⟨o,e,r⟩|⟨o,e,r⟩
  ·exact .inl ⟨o,k it Qs o e,r⟩
  ·exact .inr ⟨o,k it Qs o e,r⟩
 item:=by
  intro X D hw C j i pins s σ H E I q st B;subst D hw C;obtain⟨f0,f1,M,l,m,p⟩:=q it Qs;have g:∀(v:Value)(h':Heap)(tk:Nat),SignAt x i v->ix it x t (i+1) h'->(∀b o,b∉ [it]->s.heap.get? b=some o->h'.get? b=some o)->
    ∃u,some v=some u/\wpAny (model X.prog X.w) X.A (letOwnedTupleGo tg (.ref it) u) (λ_ L=>∃y H',Inv X pins σ H' L/\aN y u/\(Cq x).yld i H y H'/\ix it x t (i+1) L.heap/\∀b∈ [it],H' b=none) E {s with heap:=h',toks:=tk}:=by
   rintro v h' tk⟨c,u,F,rfl⟩a k;exact⟨_,rfl,a.go (s:={s with heap:=h',toks:=tk}) ⟨.str ⟨#[c]⟩,H,I.turned (t':=tk) (λb o f e=>k b o (by simpa using f) e) f0 f1 l m p,⟨_,rfl⟩,⟨rfl,c,F,rfl⟩,a,λb f=>(q b f).1⟩⟩
  rcases st with st|st
  ·exact(Walks.strAscii (I.ok.hd j) it x t).item i s _ _ B st λv h' tk J a k=>g v h' tk J (.inl a) k
  ·exact(Walks.strWide (I.ok.hd j) it x t).item i s _ _ B st λv h' tk J a k=>g v h' tk J (.inr a) k
 done:=by
  intro X D hw C j i pins s σ H E I q st B;subst D hw C;obtain⟨f0,f1,M,l,m,p⟩:=q it Qs;have G:i=x.cps.size:=B;subst G;rcases st with st|st
  ·exact(Walks.strAscii (I.ok.hd j) it x t).done s _ _ st λh' tk k=>⟨rfl,I.turned (t':=tk) (λb o f e=>k b o (by simpa using f) e) f0 f1 l m p⟩
  ·exact(Walks.strWide (I.ok.hd j) it x t).done s _ _ st λh' tk k=>⟨rfl,I.turned (t':=tk) (λb o f e=>k b o (by simpa using f) e) f0 f1 l m p⟩
 self:=λA i s Q E st h=>by
  rcases st with st|st
  ·exact wpAny_pyIter_striter_ascii st h
  ·exact wpAny_pyIter_striter_wide st h
theorem zS{X:Cx}{tg l:Expr}{tl:TE}(g:PE X l tl):PI X tg l (CU tl):=by
 intro pins s σ H R I h;refine bx (g pins s σ H _ I h) λv a⟨y,H1,d,i,q1⟩=>?_;obtain⟨x,rfl,q⟩:=q1;obtain⟨t,rfl⟩:=i;have c:∀o,ix a.heap.objs.size x t 0 (a.heap.push o)->Dh X pins σ tg R (.ref a.heap.objs.size) {a with heap:=a.heap.push o}:=λo st=>by
  refine⟨a.heap.objs.size,[a.heap.objs.size],_,_,H1,rfl,d.kept (t':=a.toks) λb o e=>Heap.get?_push_of_some _ e,qQ _ x t,st,λb f=>?_,q⟩;have e:b=a.heap.objs.size:=by simpa using f
  subst e;exact d.fpOk (Nat.le_refl _) (d.hok.fresh (Nat.le_refl _))
 cases ha:x.cps.all (· <128)
 ·exact wpAny_pyIter_wide ha (c _ (.inr ⟨_,Heap.get?_push_size _ rfl,rfl,rfl⟩))
 ·exact wpAny_pyIter_ascii ha (c _ (.inl ⟨_,Heap.get?_push_size _ rfl,rfl,rfl⟩))
theorem qK(bs:List Bool):(List.range bs.length).all (λi=>(bs[i]?).getD true)=bs.all id:=by
 rw[Bool.eq_iff_iff];simp only[List.all_eq_true,List.mem_range,id];constructor
 ·intro h b a;obtain⟨i,hi,e⟩:=List.mem_iff_getElem.mp a;have:=h i hi;rw[List.getElem?_eq_getElem hi]at this;rw[<-e];exact this
 ·intro h i hi;rw[List.getElem?_eq_getElem hi];exact h _ (List.getElem_mem hi)
section
variable{X:Cx}
theorem uE(y:X.calm=true):dL X (.builtin "all") (λxs H Q=>∃(p:Addr)(bs:List Bool),xs=[.ref p]/\bp X.K H p (bs.map V.bl)/\Q (.bl (bs.all id)) H):=by
 intro pins s σ H xs us Q I r h;obtain⟨p,bs,rfl,B,q⟩:=h;obtain⟨u,rfl,E⟩:=fe r;cases E;obtain⟨a,t,l,G⟩:=I.list B;have c:=t.length;rw[List.length_map]at c;refine call_all_walk (wpAny_pyIter_list l.isList ?_);have j:p<s.heap.objs.size:=let⟨o,n,e,_⟩:=l;Heap.lt_size e;refine⟨s.heap.objs.size,[s.heap.objs.size,p],[s.heap.objs.size],a.toArray.size,(λi v=>a.toArray[i]?=some v),(λi h=>h.IsListIter s.heap.objs.size p i/\h.IsList p a.toArray),λi=>(bs[i]?).getD true,rfl,Walks.list (A:=X.A.in1) (show X.A.in1.handled=none from I.ok.hd y) s.heap.objs.size p (Nat.ne_of_lt j) a.toArray,⟨⟨_,Heap.get?_push_size _ rfl,rfl,rfl⟩,l.isList.at λo e=>Heap.get?_push_of_some _ e⟩,?_,λh' tk k=>?_⟩
 ·intro i v s' w F D C;have g:a[i]?=some v:=by simpa using D
  have hi:i<bs.length:=by rw[c];exact(List.getElem?_eq_some_iff.mp g).1
  obtain⟨J,f,m⟩:=t.get (i:=i) (x:=.bl bs[i]) (by simp[hi]);rw[g]at f;cases f;cases m;refine wpAny_truthy_bool ?_;have d:w ((bs[i]?).getD true) s':=C;rw[List.getElem?_eq_getElem hi]at d;exact d
 ·have e:(List.range a.toArray.size).all (λi=>(bs[i]?).getD true)=bs.all id:=by
   rw[List.size_toArray,<-c];exact qK bs
  refine⟨.bl (bs.all id),H,I.kept (t':=tk) λb o e=>k b o ?_ (Heap.get?_push_of_some _ e),by rw[e];rfl,q⟩;have:=Heap.lt_size e;intro z;rw[List.mem_singleton.mp z]at this;exact Nat.lt_irrefl _ this
theorem aZ:dL X (.builtin "isinstance") (λxs H Q=>∃x T t b,xs=[x,.ty T]/\gq X.K H x t/\PySem.W.kitOne X.K t (.type T)=some b/\Q (.bl b) H):=by
 intro pins s σ H xs us Q I r h;obtain⟨x,T,t,b,rfl,ty,e,q⟩:=h;obtain⟨u,v,rfl,a,c⟩:=ot r;cases c;exact qv I a ty e λtk=>⟨.bl b,H,I.tok tk,rfl,q⟩
def CK:V->Option Int->Option Int->Hp->VK->Prop:=λx lo hi H Q=>∃z,x=.str z/\z.length<=sizeLine/\Q (.str (Txt.slice z lo hi)) H
theorem zI:Cl X CK:=by
 intro pins s σ H x v w y lo hi p Q I n m pl f h;obtain⟨z,rfl,d,q⟩:=h;obtain⟨t,rfl⟩:=n;refine⟨"str",_,F.slot_str_getitem.lookup,typeIs_str _ _ _,?_⟩;have a:∀t' k,EP X pins σ Q (.str (Txt.slice z lo hi) t') {s with toks:=k}:=λt' k=>⟨.str _,H,I.tok k,⟨t',rfl⟩,q⟩;obtain⟨o,c,b,hd⟩:=m;cases pl with
 |none=>
  cases f with
  |none=>exact wpAny_getItem_str_slice (l:=none) (u:=none) (st:=none) ⟨o,c,b,hd⟩ rfl (post_val_or_str ⟨Nat.le_trans (Txt.slice_le z _ _) d,a⟩)
  |int j e=>exact wpAny_getItem_str_slice (l:=none) (u:=some (j,e)) (st:=none) ⟨o,c,b,hd⟩ rfl (post_val_or_str ⟨Nat.le_trans (Txt.slice_le z _ _) d,a⟩)
 |int i g=>
  cases f with
  |none=>exact wpAny_getItem_str_slice (l:=some (i,g)) (u:=none) (st:=none) ⟨o,c,b,hd⟩ rfl (post_val_or_str ⟨Nat.le_trans (Txt.slice_le z _ _) d,a⟩)
  |int j e=>exact wpAny_getItem_str_slice (l:=some (i,g)) (u:=some (j,e)) (st:=none) ⟨o,c,b,hd⟩ rfl (post_val_or_str ⟨Nat.le_trans (Txt.slice_le z _ _) d,a⟩)
def kr(a d:Addr):HO:=.ext λh=>h.IsValuesView a d
theorem qo:Dp X "dict.values" (λx vs H Q=>∃d kvs,x=.ref d/\vs=[]/\Rd H d (.dK kvs)/\∀p,H p=none->Q (.ref p) (upd H p (kr p d))):=by
 intro pins s σ H x xs v us Q I i g h;obtain⟨d,kvs,rfl,rfl,hd,q⟩:=h;cases i;cases g;obtain⟨z,a,vs,f,dd⟩:=dJ I.hok hd;refine call_meetsIn PySem.F.slot_dict_values dd.typeIs PySem.F.entry_dict_values (PySem.F.args_dict_values_1 _) (meets_dict_values (aX X.prog X.w) d a) ⟨⟨vs,dd⟩,?_⟩;have c:(s.heap.push ({cls:=.type "dict_values",data:=.fields #[.ref d]}:Obj)).IsValuesView s.heap.objs.size d:=⟨_,Heap.get?_push_size _ rfl,rfl,rfl⟩;refine⟨.ref s.heap.objs.size,_,I.laid (t':=s.toks) (o:=kr s.heap.objs.size d) (λb ob e=>Heap.get?_push_of_some _ e) (Nat.le_refl _) ⟨c,⟨_,Heap.get?_push_size _ rfl⟩,λh1 h2⟨o,e,r⟩k=>⟨o,k o e,r⟩⟩,rfl,q _ (I.hok.fresh (Nat.le_refl _))⟩
theorem fY{P:Nat->Value->Prop}{n:Nat}:∀{acc:List Value}(ys:List V),ItemsOf P acc.toArray n->ys.length=n->(∀i v y,P i v->ys[i]?=some y->aN y v)->bc ys acc:=by
 intro acc ys h g f;obtain⟨h1,h2⟩:=h;have b:acc.length=ys.length:=by rw[g,<-h1];simp
 have d:∀(ys:List V)(acc:List Value),acc.length=ys.length->(∀(i:Nat)v y,acc[i]?=some v->ys[i]?=some y->aN y v)->bc ys acc:=by
  intro ys;induction ys with
  |nil=>
   intro acc e _;have:acc=[]:=List.eq_nil_of_length_eq_zero (by simpa using e);subst this;exact .nil
  |cons y r j=>
   intro acc e h;cases acc with
   |nil=>simp at e
   |cons v a=>
    refine .cons (h 0 v y rfl rfl) (j a (by simpa using e) λi k l b c=>h (i+1) k l (by simpa using b) (by simpa using c))
 exact d ys acc b λi v y b c=>f i v y (h2 i v (by simpa using b)) c
theorem KV.getVal{κ:Type}{kvs:List (κ×V)}{vs:List (κ×Value)}(r:KV kvs vs):∀{i:Nat}{k:κ}{x:Value}{y:κ×V},vs[i]?=some (k,x)->kvs[i]?=some y->y.1=k/\aN y.2 x:=by
 unfold KV at r;induction r with
 |nil=>intro i k x y e;simp at e
 |cons h t c=>
  intro i k x y a b;cases i with
  |zero=>
   simp at a b;subst b;rw[a]at h;exact h
  |succ i=>exact c (by simpa using a) (by simpa using b)
theorem mq{T:String}{r d:Addr}{P:Nat->Value->Prop}{c:Heap->Prop}{ys:List V}{pins:List (Addr×Obj)}{s:Shared}{σ:St}{H:Hp}{Q:VK}(j:X.calm=true)(I:Inv X pins σ H s)(Kd:PySem.W.KdlSrc X.prog X.w T r d ys.length P c)(hok:c s.heap)(f:ys.length<=sizeLine)
  (h:∀i v y,P i v->ys[i]?=some y->aN y v)(q:∀l,H l=none->Q (.ref l) (upd H l (.lst ys))):wpAny (model X.prog X.w) X.A (call (.type "list") [.ref r]) (EP X pins σ Q) X.xe s:=by
 refine PySem.W.kdl_call Kd (I.ok.hd j) hok f λh' tk a g kp e b=>?_;refine⟨.ref s.heap.objs.size,_,I.laid (t':=tk) (o:=.lst ys) kp (Nat.le_refl _) ⟨f,a.toList,g,fY (acc:=a.toList) ys (by simpa using b) rfl h,by simpa using e⟩,rfl,q _ (I.hok.fresh (Nat.le_refl _))⟩
theorem gp(j:X.calm=true):dL X (.type "list") (λxs H Q=>∃d kvs,xs=[.ref d]/\Rd H d (.dK kvs)/\∀l,H l=none->Q (.ref l) (upd H l (.lst (kvs.map λkv=>kV kv.1)))):=by
 intro pins s σ H xs us Q I r h;obtain⟨d,kvs,rfl,hd,q⟩:=h;obtain⟨u,rfl,t⟩:=fe r;cases t;obtain⟨z,n,vs,b,dd⟩:=dJ I.hok hd;obtain⟨ep,c⟩:=dd.dictAt;have e:=b.length;have Kd:=PySem.W.kdl_dict (prog:=X.prog) (w:=X.w) (knd:=aX X.prog X.w) (kvs:=vs) (ep:=ep) n;have g:(kvs.map λkv=>kV kv.1).length=vs.length:=by rw[List.length_map,e]
 rw[<-g]at Kd;refine mq (ys:=kvs.map λkv=>kV kv.1) j I Kd c (by rw[List.length_map];exact z) (λi v y o a=>?_) q;obtain⟨k,x,p,m⟩:=o;rw[List.getElem?_map]at a;cases q2:kvs[i]? with
 |none=>rw[q2]at a;cases a
 |some kv=>
  rw[q2]at a;cases a;obtain⟨f,_⟩:=b.getVal p q2;rcases bB (show fz k v=true from m)with⟨A,t',rfl,rfl⟩|⟨x',t',rfl,rfl⟩
  ·show aN (kV kv.1) _;rw[f];exact⟨t',rfl⟩
  ·show aN (kV kv.1) _;rw[f];exact⟨t',rfl⟩
theorem n6(j:X.calm=true):dL X (.type "list") (λxs H Q=>∃p d kvs,xs=[.ref p]/\H p=some (kr p d)/\Rd H d (.dK kvs)/\∀l,H l=none->Q (.ref l) (upd H l (.lst (kvs.map λkv=>kv.2)))):=by
 intro pins s σ H xs us Q I r h;obtain⟨p,d,kvs,rfl,m,hd,q⟩:=h;obtain⟨u,rfl,o⟩:=fe r;cases o;obtain⟨z,t,vs,b,dd⟩:=dJ I.hok hd;obtain⟨ep,c⟩:=dd.dictAt;have e:=b.length;obtain⟨f,_,_⟩:s.heap.IsValuesView p d/\_/\_:=I.hok p _ m;have Kd:=PySem.W.kdl_values (prog:=X.prog) (w:=X.w) (knd:=aX X.prog X.w) (r:=p) (d:=d) (kvs:=vs) (ep:=ep);have g:(kvs.map λkv=>kv.2).length=vs.length:=by rw[List.length_map,e]
 rw[<-g]at Kd;refine mq (ys:=kvs.map λkv=>kv.2) j I Kd ⟨f,c⟩ (by rw[List.length_map];exact z) (λi v y f a=>?_) q;obtain⟨k,n⟩:=f;rw[List.getElem?_map]at a;cases q2:kvs[i]? with
 |none=>rw[q2]at a;cases a
 |some kv=>
  rw[q2]at a;cases a;exact(b.getVal n q2).2
end
def mM(K:PySem.W.Frag)(H:Hp):Nat->V->PyData->Prop
 |_,.non,d=>d=.none
 |_,.bl b,d=>d=.bool b
 |_,.int i,d=>d=.int i
 |_,.str x,d=>PyData.strOk x=true/\d=.str x
 |n+1,.ref a,d=>(∃xs ds,bp K H a xs/\d=.list ds/\Paired (mM K H n) xs ds)\/∃xs ds,bj K H a xs/\d=.tuple ds/\Paired (mM K H n) xs ds
 |_,_,_=>False
section
variable{X:Cx}{pins:List (Addr×Obj)}{σ:St}{H:Hp}{s:Shared}
theorem mM.reads(I:Inv X pins σ H s):∀(n:Nat)(v:V)(d:PyData)(u:Value),mM X.K H n v d->aN v u->(∃b,Reads s.heap u d b)/\d.canLay0=true/\d.depth<=n:=by
 intro n;induction n with
 |zero=>
  intro v d u h r;cases v<;>simp only[mM]at h
  ·subst h;cases r;exact⟨⟨_,.none⟩,rfl,Nat.le_refl _⟩
  ·subst h;cases r;exact⟨⟨_,.bool _⟩,rfl,Nat.le_refl _⟩
  ·subst h;obtain⟨t,rfl⟩:=r;exact⟨⟨_,.int _ _⟩,rfl,Nat.le_refl _⟩
  ·obtain⟨h1,rfl⟩:=h;obtain⟨t,rfl⟩:=r;exact⟨⟨_,.str _ _⟩,h1,Nat.le_refl _⟩
 |succ n x=>
  have all:∀(xs:List V)(ds:List PyData)(us:List Value),Paired (mM X.K H n) xs ds->bc xs us->(∃b,ReadsAll s.heap us ds b)/\PyData.canLayAll0 ds=true/\PyData.depthAll ds<=n:=by
   intro xs ds us p;induction p generalizing us with
   |nil=>intro r;cases r;exact⟨⟨_,.nil⟩,rfl,Nat.zero_le _⟩
   |cons h t j=>
    intro r;cases r with
    |cons y z=>
     obtain⟨⟨b,f⟩,g,l⟩:=x _ _ _ h y;obtain⟨⟨bs,q⟩,w,A⟩:=j _ z;exact⟨⟨_,.cons f q⟩,by simp[PyData.canLayAll0,g,w],by simp only[PyData.depthAll];omega⟩
  intro v d u h r;cases v<;>simp only[mM]at h
  ·subst h;cases r;exact⟨⟨_,.none⟩,rfl,Nat.zero_le _⟩
  ·subst h;cases r;exact⟨⟨_,.bool _⟩,rfl,Nat.zero_le _⟩
  ·subst h;obtain⟨t,rfl⟩:=r;exact⟨⟨_,.int _ _⟩,rfl,Nat.zero_le _⟩
  ·obtain⟨h1,rfl⟩:=h;obtain⟨t,rfl⟩:=r;exact⟨⟨_,.str _ _⟩,h1,Nat.zero_le _⟩
  ·cases r;rcases h with⟨xs,ds,i,rfl,p⟩|⟨xs,ds,i,rfl,p⟩
   ·obtain⟨a,k,⟨o,m,e,c,_,dd⟩,_⟩:=I.list i;obtain⟨⟨b,f⟩,g,l⟩:=all xs ds a p k;exact⟨⟨_,.list e c dd (by simpa using f)⟩,by simpa[PyData.canLay0]using g,by simp only[PyData.depth];omega⟩
   ·obtain⟨a,k,⟨o,e,c,m,dd⟩,_⟩:=I.tuple i;obtain⟨⟨b,f⟩,g,l⟩:=all xs ds a p k;exact⟨⟨_,.tuple e c dd (by simpa using f)⟩,by simpa[PyData.canLay0]using g,by simp only[PyData.depth];omega⟩
def zP(K:PySem.W.Frag)(b:Bool):R2:=λx y H Q=>∃n dx a,n<=64/\mM K H n x dx/\mM K H n y a/\Q (.bl (if b then !PyData.eqv dx a else PyData.eqv dx a)) H
theorem su(f:X.A.units+64<cLine):im X (compareOp .Eq) (zP X.K false):=by
 intro pins s σ H x y v u Q I g i h;obtain⟨n,dx,a,hn,h1,h2,q⟩:=h;obtain⟨⟨m,b⟩,c,l⟩:=mM.reads I n x dx v h1 g;obtain⟨⟨bs,d⟩,e,o⟩:=mM.reads I n y a u h2 i;have j:SeqAt.shaped dx=true:=by unfold SeqAt.shaped;rw[c,decide_eq_true Qo];rfl
 have k:SeqAt.shaped a=true:=by unfold SeqAt.shaped;rw[e,decide_eq_true Qo];rfl
 exact SeqAt.compareEq_shaped b d j k f ⟨.bl _,H,I,rfl,q⟩
theorem jg(f:X.A.units+64<cLine):im X (compareOp .NotEq) (zP X.K true):=by
 intro pins s σ H x y v u Q I g i h;obtain⟨n,dx,a,hn,h1,h2,q⟩:=h;obtain⟨⟨m,b⟩,c,l⟩:=mM.reads I n x dx v h1 g;obtain⟨⟨bs,d⟩,e,o⟩:=mM.reads I n y a u h2 i;have j:SeqAt.shaped dx=true:=by unfold SeqAt.shaped;rw[c,decide_eq_true Qo];rfl
 have k:SeqAt.shaped a=true:=by unfold SeqAt.shaped;rw[e,decide_eq_true Qo];rfl
 exact SeqAt.compareNe_shaped b d j k f ⟨.bl _,H,I,rfl,q⟩
end
structure cj(P:Program)(w:World)(K:PySem.W.Frag)(mg:Str->Option Value)(base:Heap)(k:Nat)(x:Str)(ps:List Str)(sp:Sp):Prop where
 ex:∃(f:Addr)(fd:FuncData),FnOk P w K mg base cY k f fd ps sp/\mg x=some (.ref f)/\PySem.W.keepIn K (.ref f)=true/\c_ K fd ps []
structure dN(P:Program)(w:World)(K:PySem.W.Frag)(mg:Str->Option Value)(base:Heap)(k:Nat)(C:Addr)(m:Str)(ps:List Str)(sp:Sp):Prop where
 ex:∃(f:Addr)(fd:FuncData),FnOk P w K mg base cY k f fd ps sp/\qL K C m f/\c_ K fd ps []
structure om(P:Program)(w:World)(K:PySem.W.Frag)(mg:Str->Option Value)(base:Heap)(k:Nat)(C:Addr)(ps:List Str)(sp:Sp):Prop where
 ex:∃(f:Addr)(fd:FuncData),FnOk P w K mg base cY k f fd ps sp/\Mk K C f/\c_ K fd ps []
section
variable{X:Cx}{k:Nat}{x m:Str}{ps:List Str}{sp:Sp}{C:Addr}{p pos apos:Pos}{e o:Expr}{es:List Expr}{ta:TE}{t:TA}
theorem aw(c:cj X.prog X.w X.K X.mg X.base k x ps sp)(m:be k X.A)(i:Gl X x)(d:PA X (e::es) t)(a:(x==("__debug__":Str))=false:=by decide)
  (h:starEach (e::es) X.env=(false,eval e X.env)::starEach es X.env:=by rfl)(b:(backTo pos (starEach es X.env)).any (·.1)=false:=by rfl):
  PE X (.Call (.Name x p) (e::es) [] pos) (ou sp [] E0 t):=by
 obtain⟨f,fd,F,l,j,g⟩:=c.ex;exact oP F m i l j g .nil sq d a h b
theorem bn{pl:Sem Bool}(e:PE X o ta)(c:ol X.K C)(h:dN X.prog X.w X.K X.mg X.base k C m ps sp)(g:be k X.A)
  (i:eval (.Call (.Attribute o m apos) [] [] pos) X.env=(do
   let a<-eval o X.env
   standAt apos.atName
   let(f,first)<-holding [a] (getMethod a m pl)
   callWith pos f first (backTo pos (starEach [] X.env)) (backToKw pos (keywordEach [] X.env))):=by rfl):
  PE X (.Call (.Attribute o m apos) [] [] pos) (ly C m sp [] E0 ta gg):=by
 obtain⟨f,fd,F,d,b⟩:=h.ex;exact sf e c d F g b .nil sq i
theorem hZ(h:om X.prog X.w X.K X.mg X.base k C ps sp)(e:be (k+1) X.A)(c:Gl X x)(d:X.mg x=some (.ref C))(a:(x==("__debug__":Str))=false:=by decide):
  PE X (.Call (.Name x p) [] [] pos) (xX C sp [] E0 gg):=by
 obtain⟨f,fd,F,M,b⟩:=h.ex;exact sh M F e c d b .nil sq a
end
def io(mg:Str->Option Value)(x:Str)(v:V):Prop:=∃u,mg x=some u/\aN v u
theorem bR{X:Cx}{x:Str}{v:V}{pos:Pos}(h:io X.mg x v)(a:Gl X x)(hd:(x==("__debug__":Str))=false:=by decide):PE X (.Name x pos) (tC v):=by
 obtain⟨u,b,r⟩:=h;exact oO a b r hd
theorem dq{X:Cx}{x:Str}{T:String}{pos:Pos}(b:X.mg x=none)(a:Gl X x)(c:bootBuiltins x=some (.type T))(hn:x≠"__name__":=by decide)(hd:(x==("__debug__":Str))=false:=by decide):PE X (.Name x pos) (tC (.ty T)):=
 vZ a b c (show aN (.ty T) (.type T)from rfl) hn hd
open PySem
theorem Ca:bootBuiltins "all"=some (.builtin "all"):=Qk
theorem b9:bootBuiltins "isinstance"=some (.builtin "isinstance"):=Qk
theorem jG:bootBuiltins "len"=some (.builtin "len"):=Qk
theorem pI:bootBuiltins "str"=some (.type "str"):=Qk
theorem yS:bootBuiltins "int"=some (.type "int"):=Qk
theorem Ax:bootBuiltins "bool"=some (.type "bool"):=Qk
theorem eS:bootBuiltins "list"=some (.type "list"):=Qk
theorem fV:bootBuiltins "tuple"=some (.type "tuple"):=Qk
theorem Same.upd{H H':Hp}{p:Addr}{o:HO}(e:Same H H')(h:H' p=none):Same H (L2.upd H' p o):=λb ob z=>by
 rw[ah (ai (e b ob z) h)];exact e b ob z
theorem Same.new{H:Hp}{p:Addr}{o:HO}(h:H p=none):Same H (L2.upd H p o):=(Same.refl H).upd h
def CD(R:St->Hp->Prop)(t u:TS):TS:=λD σ H=>t {D with nx:=R} σ H/\∀a H',R a H'->u D a H'
theorem vQ{X:Cx}{st:Stmt}{rest:List Stmt}{t u:TS}(R:St->Hp->Prop)(h1:PS X st t)(h2:PSs X rest u):PSs X (st::rest) (CD R t u):=by
 intro pins s σ H D I h;refine wpAny_execs_cons (bx (h1 pins s σ H {D with nx:=R} I h.1) λf c q=>?_);cases f with
 |next=>
  obtain⟨a,H',b,q⟩:=q;exact h2 pins c a H' D b (h.2 a H' q)
 |ret v=>exact q
 |brk=>exact q
 |cont=>exact q
section
variable{X:Cx}
theorem vX{e:Expr}{f:Str}{pos:Pos}{ta:TE}(K:PySem.W.Frag)(a:X.K=K)(c:PE X e ta)(b:attributeBase e f X.env (eval e X.env)=eval e X.env):PE X (.Attribute e f pos) (A5 K ta f):=by
 subst a;exact aY c b
theorem dX(K:PySem.W.Frag)(a:X.K=K):Ch X (Bi K):=by
 subst a;exact az
theorem Aa(K:PySem.W.Frag)(a:X.K=K):im X (compareOp .In) (CN K false):=by
 subst a;exact fJ
end
theorem aJ{b:Bool}{A B:Prop}(h:b=false)(a:B):if b=true then A else B:=by rw[h];exact aD a
theorem cB{b:Bool}{A B:Prop}(h:b=true)(a:A):if b=true then A else B:=by rw[h];exact bC a
def A8(t u:TS):TS:=λD σ H=>∃R:St->Hp->Prop,t {D with nx:=R} σ H/\∀a H',R a H'->u D a H'
theorem bQ{X:Cx}{st:Stmt}{rest:List Stmt}{t u:TS}(h1:PS X st t)(h2:PSs X rest u):PSs X (st::rest) (A8 t u):=by
 intro pins s σ H D I h;obtain⟨R,a,b⟩:=h;exact vQ R h1 h2 pins s σ H D I ⟨a,b⟩
def uG(φ:Obj->Prop):Prop:=∀o v,φ o->φ (Obj.mapFields (·.setIfInBounds 1 v) o)
def Dg(φ:Obj->Prop)(h base:Heap)(e:Addr)(c:Value):Prop:=
 ∃(a b:Obj)(vs ts:Array Value)(T:Addr),h.get? e=some a/\φ a/\a.data=.fields vs/\vs[1]?=some (.ref T)/\base.get? T=none/\T≠e/\h.get? T=some b/\b.data=.fields ts/\ts[3]?=some c
structure DG(φ:Obj->Prop)(base:Heap)(l:List Env)(e:Addr)(fl:Value)(h h':Heap):Prop where
 stay:base.StaysIn h'
 frs:h'.FunFrames base l
 tr:Dg φ h' base e fl
 up:h.UpToSlots h'
structure jS(φ:Obj->Prop)(base:Heap)(l:List Env)(e:Addr)(fl:Value)(h:Heap):Prop where
 stay:base.StaysIn h
 new:base.get? e=none
 frs:h.FunFrames base l
 tr:Dg φ h base e fl
section
variable{M:Model}{A:Around}{E:Value->Shared->Prop}{s:Shared}{φ:Obj->Prop}{base:Heap}{env:Env}{l:List Env}{L e:Addr}{Q:Unit->Shared->Prop}
theorem gl{h:Heap}{a b:Addr}{o u:Obj}{ws:Array Value}(d:h.get? a=some u)(hd:u.data=.fields ws)(c:h.get? b=some o)(hn:∀vs,o.data≠ .fields vs):b≠a:=λz=>by
 subst z;rw[d]at c;cases c;exact hn ws hd
theorem mj{v:Value}(h:base.StaysIn s.heap)(y:s.heap.FunFrames base l)(B:Dg φ s.heap base e v)(k:∀h',DG φ base l e .none s.heap h'->Q () {s with heap:=h'}):wpAny M A (setFlight (.ref e) none) Q E s:=by
 obtain⟨C,D,vs,ts,T,i,p,j,m,n,t,d,g,w⟩:=B;have u:=(Array.getElem?_eq_some_iff.mp w).1;unfold setFlight;refine wpAny_bind (wpAny_field i j m ?_);rw[if_pos (by simp:(Value.ref T != Value.none)=true)];refine wpAny_setField d g u (k _ ?_);have c:∀{b:Addr},b≠T->∀f,(s.heap.update T f).get? b=s.heap.get? b:=λx f=>Heap.get?_update_other _ _ (Ne.symm x);have d2:=Obj.data_mapFields g λa=>a.setIfInBounds 3 ((none:Option Addr).elim Value.none λf=>rawInt f);exact⟨λb o q=>(c (λz=>by rw[z,n]at q;cases q) _).trans (h b o q),y.of_keeps λb o q hn=>⟨o,(c (gl d g q hn) _).trans q,rfl⟩,
  ⟨C,_,vs,_,T,(c (Ne.symm t) _).trans i,p,j,m,n,t,Heap.get?_update_self _ d (Obj.isFreed_of_fields d2),d2,by simp[u]⟩,λb o q hn=>⟨o.slots,(c (gl d g q hn) _).trans q⟩⟩
theorem mB{outer:List Env}{x:Obj}{vs:Array Value}{l:Value}{f:Bool}(B:A.frames=some (env::outer))(v:s.heap.FunFrames base (env::outer))(K:env.frame=some L)
  (u:s.heap.get? e=some x)(st:uG φ)(p:φ x)(C:base.StaysIn s.heap)(y:base.get? e=none)(n:x.data=.fields vs)(z1:1<vs.size)(k:∀h',DG φ base (env::outer) e (rawInt L) s.heap h'->Q () {s with heap:=h'}):
  wpAny M A (do let a<-frameOf env;let pl<-entryPlaceOf L f;let b<-EntryCells.newEntry l a .none (rawInt L) .none pl;setField (.ref e) 1 b) Q E s:=by
 have F:e∉(env::outer).filterMap (·.frame):=λz=>by
  obtain⟨_,o,q,hn⟩:=v.mem z;exact gl u n q hn rfl
 refine wpAny_bind (wpAny_frameOf_fun B v K λd c=>?_);refine wpAny_bind (wpAny_entryPlaceOf λpl t=>?_);unfold EntryCells.newEntry newFields;refine wpAny_bind (wpAny_newObj_type ?_ (t.sizeOk5 _ _ _ _ _));have i:d.get? e=some x:=(c.2.1 e F).trans u;have g:base.StaysIn d:=λb o q=>(c.2.1 b λz=>by rw[(v.mem z).1]at q;cases q).trans (C b o q);generalize hN:({cls:=.type "traceback",dict:=none,data:=.fields ([l,.ref L,.none,rawInt L,.none]++(if pl.isEmpty then List.replicate 6 Value.none else pl)).toArray }:Obj)=ob;have D:∃ts,ob.data=.fields ts/\ts[3]?=some (rawInt L):=by
  rw[<-hN];refine⟨_,rfl,?_⟩;rcases t with rfl|⟨_,_,_,_,_,_,_,rfl⟩<;>simp
 have m:ob.isFreed=false:=by rw[<-hN];rfl
 clear hN;obtain⟨ts,t1,t3⟩:=D;have j:=Heap.get?_push_of_some (h:=d) ob i;refine wpAny_setField j n z1 (k _ ?_);have H:d.objs.size≠e:=Nat.ne_of_gt (Heap.lt_size i);have G:=Obj.data_mapFields n (·.setIfInBounds 1 (Value.ref d.objs.size));have kp:∀b o,b≠e->d.get? b=some o->((d.push ob).update e (Obj.mapFields (·.setIfInBounds 1 (Value.ref d.objs.size)))).get? b=some o:=λb o J q=>(Heap.get?_update_other _ _ (Ne.symm J)).trans (Heap.get?_push_of_some _ q);refine⟨λb o q=>kp b o (λz=>by rw[z,y]at q;cases q) (g b o q),v.of_keeps λb o q hn=>?_,⟨_,ob,_,ts,d.objs.size,Heap.get?_update_self _ j (Obj.isFreed_of_fields G),st _ _ p,G,by simp[z1],g.fresh,H,(Heap.get?_update_other _ _ (Ne.symm H)).trans (Heap.get?_push_size d m),t1,t3⟩,λb o q hn=>?_⟩
 ·obtain⟨I,w⟩:=c.2.2 b o q;exact⟨_,kp b _ (gl u n q hn) w,rfl⟩
 ·obtain⟨I,w⟩:=c.2.2 b o q;exact⟨I,kp b _ (gl u n q hn) w⟩
theorem oW{outer:List Env}(h:A.frames=some (env::outer))(t:env.frame=some L)(st:uG φ)(f:jS φ base (env::outer) e .none s.heap)(k:∀h',jS φ base (env::outer) e (rawInt L) h'->s.heap.UpToSlots h'->Q () {s with heap:=h'}):
  wpAny M A (noteFrame (.ref e) env) Q E s:=by
 obtain⟨i,c,y,C,B,vs,ts,T,j,p,l,m,u,v,d,g,n⟩:=f;unfold noteFrame;simp only[t];refine wpAny_bind (wpAny_field j l m ?_);rw[if_pos (by simp:(Value.ref T != Value.none)=true)];refine wpAny_bind (wpAny_field d g n ?_);rw[if_neg (by simp[rawInt]:¬((Value.none==rawInt L)=true))];refine wpAny_bind (wpAny_setField d g (Array.getElem?_eq_some_iff.mp n).1 ?_);have a:∀{b:Addr},b≠T->∀f,(s.heap.update T f).get? b=s.heap.get? b:=λw f=>Heap.get?_update_other _ _ (Ne.symm w);refine mB (φ:=φ) (base:=base) h (y.of_keeps λb o q hn=>⟨o,(a (gl d g q hn) _).trans q,rfl⟩) t ((a (Ne.symm v) _).trans j) st p (λb o q=>(a (λz=>by rw[z,u]at q;cases q) _).trans (i b o q)) c l
  (Array.getElem?_eq_some_iff.mp m).1 λh' x=>k h' ⟨x.stay,c,x.frs,x.tr⟩ λb o q hn=>x.up b o ((a (gl d g q hn) _).trans q) hn
theorem kQ{a:Value}(f:jS φ base l e a s.heap)(k:∀h',jS φ base l e .none h'->s.heap.UpToSlots h'->Q () {s with heap:=h'}):wpAny M A (setFlight (.ref e) none) Q E s:=
 mj f.stay f.frs f.tr λh' x=>k h' ⟨x.stay,f.new,x.frs,x.tr⟩ x.up
theorem tz{outer:List Env}(g:A.frames=some (env::outer))(i:env.frame=some L)(st:uG φ)(f:jS φ base (env::outer) e .none s.heap)(k:∀h',jS φ base outer e .none h'->s.heap.UpToSlots h'->Q () {s with heap:=h'}):wpAny M A (leaving env (.ref e)) Q E s:=by
 unfold leaving;refine wpAny_bind (oW g i st f λh1 f1 j=>?_);refine kQ (s:={s with heap:=h1}) f1 λh2 h l=>k h2 ?_ (j.trans l);obtain⟨a,b,⟨_,_,c⟩,d⟩:=h;exact⟨a,b,c,d⟩
theorem fw{outer:List Env}{g:Obj}{vs:Array Value}(d:A.frames=some (env::outer))(l:env.frame=some L)(st:uG φ)(f:base.StaysIn s.heap)(a:base.get? e=none)(m:s.heap.FunFrames base (env::outer))(h:s.heap.get? e=some g)(p:φ g)(i:g.data=.fields vs)(j:vs[1]?=some .none)
  (k:∀h',jS φ base outer e .none h'->s.heap.UpToSlots h'->Q () {s with heap:=h'}):wpAny M A (leaving env (.ref e)) Q E s:=by
 unfold leaving noteFrame;simp only[l];refine wpAny_bind (wpAny_bind (wpAny_field h i j ?_));rw[if_neg Qd];refine mB (φ:=φ) (base:=base) d m l h st p f a i (Array.getElem?_eq_some_iff.mp j).1 λh1 b=>?_;refine mj (s:={s with heap:=h1}) b.stay b.frs b.tr λh2 c=>k h2 ⟨c.stay,a,c.frs.2.2,c.tr⟩ (b.up.trans c.up)
end
theorem ObjOk.there{P:Program}{w:World}{H:Hp}{h:Heap}{a:Addr}{o:HO}(x:ObjOk P w H h a o):∃u,h.get? a=some u:=by
 cases o with
 |lst xs=>obtain⟨_,_,_,_,e⟩:=x;exact⟨_,e⟩
 |tup xs=>obtain⟨_,_,_,ob,e,_⟩:=x;exact⟨_,e⟩
 |dK kvs=>obtain⟨_,_,_,_,o,_,_,e,_⟩:=x;exact⟨_,e⟩
 |dT kvs=>obtain⟨_,_,_,_,o,_,_,e,_⟩:=x;exact⟨_,e⟩
 |set S n=>obtain⟨o,_,_,_,e,_⟩:=x;exact⟨_,e⟩
 |ins C dx fs=>obtain⟨_,_,_,e,_⟩:=x;exact⟨_,e⟩
 |own y=>exact x
 |xd fs=>obtain⟨_,⟨_,_,_,e,_⟩,_⟩:=x;exact⟨_,e⟩
 |rng lo hi=>obtain⟨_,_,_,e⟩:=x;exact⟨_,e⟩
 |frz ob u=>obtain⟨e,_⟩:=x;exact⟨_,e⟩
 |tbl ps=>exact⟨_,(show h.get? a=some _ from x)⟩
 |met f y=>exact⟨_,(show h.get? a=some _ from x)⟩
 |ext φ=>obtain⟨_,e,_⟩:=x;exact e
def kg(cls:Value):Option Addr->Obj->Prop
 |none,o=>o.cls=cls/\∃vs,o.data=.fields vs/\vs[2]?=some .none
 |some d,o=>o.cls=cls/\(∃vs,o.data=.fields vs)/\(d=0\/o.dict=some d)
theorem kg.cl{cls:Value}{a:Option Addr}{o:Obj}(h:kg cls a o):o.cls=cls/\∃vs,o.data=.fields vs:=by
 cases a with
 |none=>exact⟨h.1,h.2.choose,h.2.choose_spec.1⟩
 |some d=>exact⟨h.1,h.2.1⟩
theorem qB(f:Array Value->Array Value)(o:Obj):(Obj.mapFields f o).dict=o.dict:=by
 unfold Obj.mapFields;split<;>rfl
theorem kg.stab(cls:Value)(a:Option Addr):uG (kg cls a):=λo v h=>by
 cases a with
 |none=>
  obtain⟨h1,vs,h2,b⟩:=h;exact⟨(Obj.cls_mapFields _ _).trans h1,_,Obj.data_mapFields h2 _,by rw[Array.getElem?_setIfInBounds_ne Qd];exact b⟩
 |some d=>
  obtain⟨h1,⟨vs,h2⟩,b⟩:=h;exact⟨(Obj.cls_mapFields _ _).trans h1,⟨_,Obj.data_mapFields h2 _⟩,by rw[qB];exact b⟩
structure DX(l:List Env)(H':Hp)(h₀ h':Heap)(a:Addr)(cls:Value)(dct:Option Addr):Prop where
 ex:∃(B:Heap),jS (kg cls dct) B l a .none h'/\(∀b o,H' b=some o->∃u,B.get? b=some u)/\∀b u,h₀.get? b=some u->b∉frs l->∃u',B.get? b=some u'
def e8(P:Program)(w:World):uJ:=λouter H s E e s'=>∃(a:Addr)(cls:Value)(H':Hp),e=.ref a/\s'.os=s.os/\AllBare s'.gens/\Un (frs outer) [] H H' s.heap s'.heap/\fb P w H' s'.heap/\
 ∃b,DX outer H' s.heap s'.heap a cls b/\E cls b H'
section
variable{P:Program}{w:World}{l:List Env}{H H':Hp}{h0 h1 h2 B:Heap}
theorem kU(un:Un (frs l) [] H H' h0 h1)(hok:fb P w H' h1)(s:B.StaysIn h1)(t:B.StaysIn h2)(v:h1.FunFrames B l)(k1:∀b o,H' b=some o->∃u,B.get? b=some u)
  (k2:∀b u,h0.get? b=some u->b∉frs l->∃f,B.get? b=some f)(up:h1.UpToSlots h2):Un (frs l) [] H H' h0 h2/\fb P w H' h2:=by
 have d:∀b u,h1.get? b=some u->(∃f,B.get? b=some f)->h2.get? b=some u:=λb u e⟨f,p⟩=>by
  have:=s b f p;rw[e]at this;rw[Option.some.inj this];exact t b f p
 have fr:∀b u,b∈frs l->h1.get? b=some u->∃k,h2.get? b=some {u with slots:=k}:=λb u a e=>by
  obtain⟨_,o',g,hd⟩:=v.mem a;rw[e]at g;cases g;exact up b u e hd
 have nx:∀b:Addr,b∉([]:List Addr):=λb z=>nomatch z;refine⟨⟨λb o e n a h=>d b o (un.keep b o e n a h) (k2 b o e a),λb o e n a h=>?_,un.free,λb o e h=>?_,un.tups,un.frzs,un.tbls⟩,λb o e=>?_⟩
 ·obtain⟨k,i⟩:=un.slot b o e n a h;obtain⟨m,j⟩:=fr b _ a i;exact⟨m,j⟩
 ·obtain⟨o',i⟩:=un.there b o e h;by_cases a:b∈frs l
  ·obtain⟨k,j⟩:=fr b o' a i;exact⟨_,j⟩
  ·exact⟨o',d b o' i (k2 b o e a)⟩
 ·refine(hok b o e).stay (λc u x q=>d c u q ?_) (λ_ q=>q) λ_ _ q=>q;rcases x with z|z
  ·rw[z];exact k1 b o e
  ·exact k1 c _ z
end
section
variable{X:Cx}{pins:List (Addr×Obj)}{σ:St}{H:Hp}{s s':Shared}{E:XK}{M:Model}{E2:Value->Shared->Prop}
theorem kW{a:Addr}{cls:Value}{c:Option Addr}{B:Heap}(d:X.ex=[])(f:jS (kg cls c) B X.outer a .none s.heap)(k1:∀b o,H b=some o->∃u,B.get? b=some u)
  (k2:∀b u,X.s₀.heap.get? b=some u->b∉frs X.stack->∃j,B.get? b=some j)(J:Inv X pins σ H s)(g:E cls c H):e8 X.prog X.w X.outer X.H₀ X.s₀ E (.ref a) s:=by
 have un:Un (frs X.outer) [] X.H₀ H X.s₀.heap s.heap:=by
  have:=J.base;rw[d]at this;exact this
 refine⟨a,cls,H,rfl,J.os,J.bare,un,J.hok,c,⟨B,f,k1,λb u e h=>k2 b u e λi=>?_⟩,g⟩;rcases List.mem_cons.mp (J.stkSub b i)with z|z
 ·exact absurd (Nat.lt_of_lt_of_le (Heap.lt_size e) J.ok.above) (by rw[z];exact Nat.lt_irrefl _)
 ·exact h z
theorem xD{h1:Heap}{a:Addr}{cls:Value}{c:Option Addr}{k:Obj}{vs:Array Value}(I:Inv X pins σ H s)(v:X.stack=X.env::X.outer)(F:X.env.frame=some X.env.locals)(g:X.ex=[])(kp:∀b o,s.heap.get? b=some o->h1.get? b=some o)(na:s.heap.get? a=none)(y:h1.get? a=some k)(p:kg cls c k)(A:k.data=.fields vs)(B:vs[1]?=some .none)(C:E cls c H):
  wpAny M X.A (leaving X.env (.ref a)) (λ_ m=>e8 X.prog X.w X.outer X.H₀ X.s₀ E (.ref a) m) E2 {s with heap:=h1}:=by
 have st:=I.stack;have j:∀env∈X.stack,∀b,env.frame=some b->b∈frs X.stack:=λenv D b f=>List.mem_filterMap.mpr ⟨env,D,f⟩;have t:s.heap.FunFrames (PySem.W.hideAll s.heap (frs X.stack)) X.stack:=PySem.W.funFrames_hide st j;have k1:∀b o,H b=some o->∃u,(PySem.W.hideAll s.heap (frs X.stack)).get? b=some u:=λb o e=>by
  obtain⟨u,G⟩:=(I.hok b o e).there;exact⟨u,PySem.W.hideAll_get _ G λz=>by rw[I.stkFree b z]at e;cases e⟩
 have k0:∀b u,s.heap.get? b=some u->b∉frs X.stack->∃n,(PySem.W.hideAll s.heap (frs X.stack)).get? b=some n:=λb u e f=>⟨u,PySem.W.hideAll_get _ e f⟩;have h:(PySem.W.hideAll s.heap (frs X.stack)).StaysIn s.heap:=λb o q=>PySem.W.of_hideAll _ q;have d:∀b,s.heap.get? b=none->(PySem.W.hideAll s.heap (frs X.stack)).get? b=none:=λb f=>by
  cases hq:(PySem.W.hideAll s.heap (frs X.stack)).get? b with
  |none=>rfl
  |some o'=>have:=h b o' hq;rw[f]at this;cases this
 have i:s.heap.FunFrames (PySem.W.hideAll s.heap (frs X.stack)) (X.env::X.outer):=by rw[<-v];exact t
 refine fw (s:={s with heap:=h1}) (φ:=kg cls c) (base:=PySem.W.hideAll s.heap (frs X.stack)) (L:=X.env.locals) (outer:=X.outer) (by rw[<-v];exact I.ok.frames) F (kg.stab _ _) (λb o q=>kp b o (h b o q)) (d a na)
  (i.of_keeps λb o q _=>⟨o,kp b o q,rfl⟩) y p A B λh' w K=>?_
 obtain⟨un,ok⟩:=kU (l:=X.stack) (H:=H) (h0:=s.heap) Un.refl I.hok h w.stay t k1 k0 ((Heap.UpToSlots.of_keeps kp).trans K);have J:Inv X pins σ H {s with heap:=h'}:=I.call' (s':={s with heap:=h'}) (ch:=[]) rfl un ok I.bare λ_ z=>nomatch z;refine kW g w k1 (λb u e f=>?_) J C;obtain⟨n,x⟩:=I.base.there b u e (by rw[g];simp);exact k0 b n x f
theorem nV{h1:Heap}{a:Addr}{cls:Value}{vs:List Value}(I:Inv X pins σ H s)(v:X.stack=X.env::X.outer)(A:X.env.frame=some X.env.locals)(f:X.ex=[])(g:Heap.MadeExcOf s.heap h1 a cls vs)(y:E cls none H):
  wpAny M X.A (leaving X.env (.ref a)) (λ_ m=>e8 X.prog X.w X.outer X.H₀ X.s₀ E (.ref a) m) E2 {s with heap:=h1}:=by
 have st:=I.stack;have k:∀env∈X.stack,∀b,env.frame=some b->b∈frs X.stack:=λenv j b d=>List.mem_filterMap.mpr ⟨env,j,d⟩;have p:s.heap.FunFrames (PySem.W.hideAll s.heap (frs X.stack)) X.stack:=PySem.W.funFrames_hide st k;have k1:∀b o,H b=some o->∃u,(PySem.W.hideAll s.heap (frs X.stack)).get? b=some u:=λb o e=>by
  obtain⟨u,C⟩:=(I.hok b o e).there;exact⟨u,PySem.W.hideAll_get _ C λz=>by rw[I.stkFree b z]at e;cases e⟩
 have k0:∀b u,s.heap.get? b=some u->b∉frs X.stack->∃n,(PySem.W.hideAll s.heap (frs X.stack)).get? b=some n:=λb u e d=>⟨u,PySem.W.hideAll_get _ e d⟩;have h:(PySem.W.hideAll s.heap (frs X.stack)).StaysIn s.heap:=λb o q=>PySem.W.of_hideAll _ q;obtain⟨t,j,B,F⟩:=g.there;have c:∀b,s.heap.get? b=none->(PySem.W.hideAll s.heap (frs X.stack)).get? b=none:=λb d=>by
  cases hq:(PySem.W.hideAll s.heap (frs X.stack)).get? b with
  |none=>rfl
  |some o'=>have:=h b o' hq;rw[d]at this;cases this
 have i:s.heap.FunFrames (PySem.W.hideAll s.heap (frs X.stack)) (X.env::X.outer):=by rw[<-v];exact p
 refine fw (s:={s with heap:=h1}) (φ:=kg cls none) (base:=PySem.W.hideAll s.heap (frs X.stack)) (L:=X.env.locals) (outer:=X.outer) (by rw[<-v];exact I.ok.frames) A (kg.stab _ _) (λb o q=>g.keeps b o (h b o q)) (c a g.new)
  (i.of_keeps λb o q _=>⟨o,g.keeps b o q,rfl⟩) j ⟨rfl,_,rfl,rfl⟩ rfl rfl λh' w D=>?_
 obtain⟨un,ok⟩:=kU (l:=X.stack) (H:=H) (h0:=s.heap) Un.refl I.hok h w.stay p k1 k0 ((Heap.UpToSlots.of_keeps g.keeps).trans D);have J:Inv X pins σ H {s with heap:=h'}:=I.call' (s':={s with heap:=h'}) (ch:=[]) rfl un ok I.bare λ_ z=>nomatch z;refine kW f w k1 (λb u e d=>?_) J y;obtain⟨n,x⟩:=I.base.there b u e (by rw[f];simp);exact k0 b n x d
theorem xE{a:Addr}{cls:Value}{g:Option Addr}{B:Obj}{vs:Array Value}(I:Inv X pins σ H s)(A:X.stack=X.env::X.outer)(N:X.env.frame=some X.env.locals)(x:X.ex=[])(O:H a=none)(n0:X.s₀.heap.get? a=none)(S:s.heap.get? a=some B)(p:kg cls g B)(T:B.data=.fields vs)(U:vs[1]?=some .none)(V:E cls g H):
  wpAny M X.A (leaving X.env (.ref a)) (λ_ D=>e8 X.prog X.w X.outer X.H₀ X.s₀ E (.ref a) D) E2 s:=by
 have st:=I.stack;have y:∀env∈X.stack,∀b,env.frame=some b->b∈a::frs X.stack:=λenv W b d=>List.mem_cons_of_mem _ (List.mem_filterMap.mpr ⟨env,W,d⟩);have K:s.heap.FunFrames (PySem.W.hideAll s.heap (a::frs X.stack)) X.stack:=PySem.W.funFrames_hide st y;have k1:∀b o,H b=some o->∃u,(PySem.W.hideAll s.heap (a::frs X.stack)).get? b=some u:=λb o e=>by
  obtain⟨u,Z⟩:=(I.hok b o e).there;refine⟨u,PySem.W.hideAll_get _ Z λz=>?_⟩;rcases List.mem_cons.mp z with z|z
  ·rw[z,O]at e;cases e
  ·rw[I.stkFree b z]at e;cases e
 have k0:∀b u,s.heap.get? b=some u->b≠a->b∉frs X.stack->∃J,(PySem.W.hideAll s.heap (a::frs X.stack)).get? b=some J:=λb u e d i=>⟨u,PySem.W.hideAll_get _ e λz=>(List.mem_cons.mp z).elim d i⟩;have Q:(PySem.W.hideAll s.heap (a::frs X.stack)).StaysIn s.heap:=λb o q=>PySem.W.of_hideAll _ q;have v:s.heap.FunFrames (PySem.W.hideAll s.heap (a::frs X.stack)) (X.env::X.outer):=by rw[<-A];exact K
 have na:(PySem.W.hideAll s.heap (a::frs X.stack)).get? a=none:=PySem.W.hideAll_none _ List.mem_cons_self;refine fw (φ:=kg cls g) (base:=PySem.W.hideAll s.heap (a::frs X.stack)) (L:=X.env.locals) (outer:=X.outer) (by rw[<-A];exact I.ok.frames) N (kg.stab _ _) Q na v S p T U λh' P x4=>?_;have n1:∀b u,X.s₀.heap.get? b=some u->b≠a:=λb u e z=>by rw[z,n0]at e;cases e
 have h:∀b u,s.heap.get? b=some u->b≠a->b∉frs X.stack->h'.get? b=some u:=λb u e d i=>P.stay b u (PySem.W.hideAll_get _ e λz=>(List.mem_cons.mp z).elim d i);have fr:∀b u,b∈frs X.stack->s.heap.get? b=some u->∃F,h'.get? b=some {u with slots:=F}:=λb u d e=>by
  obtain⟨_,o',j,hd⟩:=K.mem d;rw[e]at j;cases j;exact x4 b u e hd
 have f:=I.base;rw[x]at f;have l:∀b u,X.s₀.heap.get? b=some u->b∉frs X.outer->b∉frs X.stack:=λb u e d Y=>by
  rcases List.mem_cons.mp (I.stkSub b Y)with z|z
  ·exact absurd (Nat.lt_of_lt_of_le (Heap.lt_size e) I.ok.above) (by rw[z];exact Nat.lt_irrefl _)
  ·exact d z
 have w:∀b,b∈frs X.outer->b∈frs X.stack:=λb d=>by rw[A];unfold frs at d⊢;rw[List.filterMap_cons,N];exact List.mem_cons_of_mem _ d
 have C:fb X.prog X.w H h':=λb o e=>by
  refine(I.hok b o e).stay (λc u i q=>?_) (λ_ q=>q) λ_ _ q=>q;have tr:∀c o,H c=some o->c≠a/\c∉frs X.stack:=λc o e=>⟨λz=>(by rw[z,O]at e;cases e),λz=>(by rw[I.stkFree c z]at e;cases e)⟩;rcases i with z|z
  ·rw[z]at q⊢;exact h b u q (tr b o e).1 (tr b o e).2
  ·exact h c u q (tr c _ z).1 (tr c _ z).2
 have un:Un (frs X.outer) [] X.H₀ H X.s₀.heap h':=by
  refine⟨λb o e n d k=>h b o (f.keep b o e n d k) (n1 b o e) (l b o e d),λb o e n d k=>?_,f.free,λb o e k=>?_,f.tups,f.frzs,f.tbls⟩
  ·obtain⟨F,m⟩:=f.slot b o e n d k;obtain⟨G,t⟩:=fr b _ (w b d) m;exact⟨G,t⟩
  ·obtain⟨o',m⟩:=f.there b o e k;by_cases d:b∈frs X.stack
   ·obtain⟨F,t⟩:=fr b o' d m;exact⟨_,t⟩
   ·exact⟨o',h b o' m (n1 b o e) d⟩
 refine⟨a,cls,H,rfl,I.os,I.bare,un,C,g,⟨_,P,k1,λb u e d=>?_⟩,V⟩;obtain⟨J,R⟩:=f.there b u e Qs;exact k0 b J R (n1 b u e) (l b u e d)
theorem tD{e:Value}(I:Inv X pins σ H s)(j:X.stack=X.env::X.outer)(o:X.env.frame=some X.env.locals)(c:X.ex=[])(q:e8 X.prog X.w X.stack H s E e s'):
  wpAny M X.A (leaving X.env e) (λ_ h=>e8 X.prog X.w X.outer X.H₀ X.s₀ E e h) E2 s':=by
 obtain⟨a,cls,H',rfl,os,bare,un,hok,d,⟨B,f,k1,k2⟩,m⟩:=q;refine tz (φ:=kg cls d) (base:=B) (L:=X.env.locals) (outer:=X.outer) (by rw[<-j];exact I.ok.frames) o (kg.stab _ _) (by rw[<-j];exact f) λh' k t=>?_;obtain⟨i,g⟩:=kU (h2:=h') un hok f.stay k.stay f.frs k1 k2 t;have v:Inv X pins σ H' s':=I.call' (ch:=[]) os un hok bare λ_ z=>nomatch z;have J:Inv X pins σ H' {s' with heap:=h'}:=I.call' (s':={s' with heap:=h'}) (ch:=[]) os i g bare λ_ z=>nomatch z;refine kW c k k1 (λb u e n=>?_) J m;obtain⟨p,l⟩:=I.base.there b u e (by rw[c];simp);exact k2 b p l n
end
structure kq(X:Cx)(E:XK):Prop where
 on:eT (e8 X.prog X.w) X E
 made:∀(pins:List (Addr×Obj))(σ:St)(H:Hp)(s:Shared)(h1:Heap)(a:Addr)(cls:Value)(vs:List Value),Inv X pins σ H s->Heap.MadeExcOf s.heap h1 a cls vs->E cls none H->X.xe (.ref a) {s with heap:=h1}
 own:PassesOwn (model X.prog X.w) X.A X.env X.xe
 ownAt:∀v,PassesOwnAt (model X.prog X.w) (X.A.mark v) X.A X.env X.xe
 madeZ:∀(pins:List (Addr×Obj))(σ:St)(H:Hp)(s:Shared)(h1:Heap)(a:Addr)(cls:Value)(dct:Option Addr)(oe:Obj)(vs:Array Value),Inv X pins σ H s->(∀b o,s.heap.get? b=some o->h1.get? b=some o)->s.heap.get? a=none->h1.get? a=some oe->kg cls dct oe->oe.data=.fields vs->vs[1]?=some .none->E cls dct H->X.xe (.ref a) {s with heap:=h1}
 madeN:∀(pins:List (Addr×Obj))(σ:St)(H:Hp)(s:Shared)(a:Addr)(cls:Value)(dct:Option Addr)(oe:Obj)(vs:Array Value),Inv X pins σ H s->H a=none->X.s₀.heap.get? a=none->s.heap.get? a=some oe->kg cls dct oe->oe.data=.fields vs->vs[1]?=some .none->E cls dct H->X.xe (.ref a) s
section
variable{P:Program}{w:World}{K:PySem.W.Frag}{mg:Str->Option Value}{base:Heap}
theorem pL{N:List Str}{qual:Str}{scope:Scope}{f:Addr}{i:Value}{A:Around}{outer:List Env}{s:Shared}{H:Hp}{E:XK}:kq (kZ (e8 P w) P w K mg base N qual scope f i A outer s H E) E where
 on:=λpins σ H' s' e m I q=>tD I rfl rfl rfl q
 made:=λpins σ H' s' h1 a cls vs I j b=>nV I rfl rfl rfl j b
 own:=PassesOwn.leaving
 ownAt:=λ_=>PassesOwnAt.leaving
 madeZ:=λpins σ H' s' h1 a cls c l vs I kp na d p g h b=>xD I rfl rfl rfl kp na d p g h b
 madeN:=λpins σ H' s' a cls c l vs I k n0 d p g h b=>xE I rfl rfl rfl k n0 d p g h b
theorem bZ.okX{x qual:Str}{st:Stmt}{f:Addr}{fd:FuncData}{N ps:List Str}{k:Nat}{sp:Sp}(F:bZ K x qual st f fd)(S:ax N ps (af st))(len:∀vs H Q E,sp vs H Q E->vs.length=ps.length)
  (b:∀(a:Value)(A:Around)(outer:List Env)(s:Shared)(H:Hp)(vs:List V)(Q:VK)(E:XK),be k (A.deeper (envOfC qual (af st) s.heap.objs.size f a))->kq (kZ (e8 P w) P w K mg base N qual (af st) f a A outer s H E) E->sp vs H Q E->
   ∃t,PSs (kZ (e8 P w) P w K mg base N qual (af st) f a A outer s H E) (ao st) t/\t {nx:=λ_ H'=>Q .non H',rt:=Q} (gv N vs) H):FnOk P w K mg base (e8 P w) (k+1) f fd ps sp:=by
 obtain⟨l,od,kV,e,m,j,a,ct,i,rfl,h,c⟩:=F.ex;exact yR h c S len λA outer s H vs Q E g d=>b a A outer s H vs Q E g pL d
end
structure eU(P:Program)(w:World)(K:PySem.W.Frag)(mg:Str->Option Value)(base:Heap)(k:Nat)(x:Str)(ps:List Str)(sp:Sp):Prop where
 ex:∃(f:Addr)(fd:FuncData),FnOk P w K mg base (e8 P w) k f fd ps sp/\mg x=some (.ref f)/\PySem.W.keepIn K (.ref f)=true/\c_ K fd ps []
structure ba(P:Program)(w:World)(K:PySem.W.Frag)(mg:Str->Option Value)(base:Heap)(k:Nat)(C:Addr)(m:Str)(ps:List Str)(sp:Sp):Prop where
 ex:∃(f:Addr)(fd:FuncData),FnOk P w K mg base (e8 P w) k f fd ps sp/\qL K C m f/\c_ K fd ps []
section
variable{X:Cx}{k:Nat}{x m:Str}{ps:List Str}{sp:Sp}{C:Addr}{p pos apos:Pos}{e o:Expr}{es:List Expr}{ta:TE}{t:TA}{E:XK}
theorem cK(c:eU X.prog X.w X.K X.mg X.base k x ps sp)(W:kq X E)(m:be k X.A)(i:Gl X x)(d:PA X (e::es) t)(a:(x==("__debug__":Str))=false:=by decide)
  (h:starEach (e::es) X.env=(false,eval e X.env)::starEach es X.env:=by rfl)(b:(backTo pos (starEach es X.env)).any (·.1)=false:=by rfl):
  PE X (.Call (.Name x p) (e::es) [] pos) (ou sp [] E t):=by
 obtain⟨f,fd,F,l,j,g⟩:=c.ex;exact oP F m i l j g .nil W.on d a h b
theorem bq{pl:Sem Bool}(l:PE X o ta)(c:ol X.K C)(h:ba X.prog X.w X.K X.mg X.base k C m ps sp)(W:kq X E)(n:be k X.A)(g:PA X (e::es) t)
  (b:starEach (e::es) X.env=(false,eval e X.env)::starEach es X.env:=by rfl)(a:(backTo pos (starEach es X.env)).any (·.1)=false:=by rfl)
  (p:eval (.Call (.Attribute o m apos) (e::es) [] pos) X.env=(do
   let d<-eval o X.env
   standAt apos.atName
   let(f,first)<-holding [d] (getMethod d m pl)
   callWith pos f first (backTo pos (starEach (e::es) X.env)) (backToKw pos (keywordEach [] X.env))):=by rfl):
  PE X (.Call (.Attribute o m apos) (e::es) [] pos) (ly C m sp [] E ta t):=by
 obtain⟨f,fd,F,j,i⟩:=h.ex;exact oN l c j F n i .nil W.on g b a p
end
section
variable{X:Cx}
def PJ(X:Cx)(es:List Expr)(t:St->Hp->(Str->Hp->Prop)->Prop):Prop:=
 ∀(a:Str)(pins:List (Addr×Obj))(s:Shared)(σ:St)(H:Hp)(Q:VK),a.length+100000*es.length<=sizeLine->Inv X pins σ H s->t σ H (λy H1=>Q (.str (a++y)) H1)->
  wpAny (model X.prog X.w) X.A (joinParts a (evalEach es X.env)) (EP X pins σ Q) X.xe s
def A3:St->Hp->(Str->Hp->Prop)->Prop:=λ_ H R=>R Str.empty H
def zB(te:TE)(t:St->Hp->(Str->Hp->Prop)->Prop):St->Hp->(Str->Hp->Prop)->Prop:=λσ H R=>te σ H λv H1=>∃y,v=.str y/\y.length<=100000/\t σ H1 λz H2=>R (y++z) H2
theorem ku{x y:Str}(h:x.cps.toList=y.cps.toList):x=y:=by
 obtain⟨a⟩:=x;obtain⟨b⟩:=y;exact congrArg Str.mk (Array.toList_inj.mp h)
theorem fR(x y:Str):(x++y).cps.toList=x.cps.toList++y.cps.toList:=Array.toList_append
theorem jL(x y z:Str):x++y++z=x++(y++z):=ku (by rw[fR,fR,fR,fR,List.append_assoc])
theorem lB(x:Str):x++Str.empty=x:=ku (by rw[fR];exact List.append_nil _)
theorem lz(x:Str):Str.empty++x=x:=ku (by rw[fR];exact List.nil_append _)
theorem lA(x y:Str):(x++y).length=x.length+y.length:=Array.size_append
theorem d7:PJ X [] A3:=λa pins s σ H Q b I h=>by
 have h':Q (.str a) H:=by have z:Q (.str (a++Str.empty)) H:=h;rw[lB]at z;exact z
 exact joinParts_nil ⟨.str a,H,I.tok _,⟨_,rfl⟩,h'⟩ (by simp only[List.length_nil]at b;omega)
theorem bu{e:Expr}{es:List Expr}{te:TE}{t:St->Hp->(Str->Hp->Prop)->Prop}(f:PE X e te)(g:PJ X es t):PJ X (e::es) (zB te t):=λa pins s σ H Q i I h=>by
 have c:evalEach (e::es) X.env=eval e X.env::evalEach es X.env:=rfl;rw[c];refine joinParts_cons (bx (f pins s σ H _ I h) λv k⟨x,H1,b,j,y,d,m,q⟩=>?_);subst d;obtain⟨t0,rfl⟩:=j;rw[List.length_cons]at i;have l:=lA a y;refine⟨Qo,g (a++y) pins k σ H1 Q Qo b ?_⟩;simp only[jL];exact q
def tJ(t:St->Hp->(Str->Hp->Prop)->Prop):TE:=λσ H Q=>t σ H λy H1=>Q (.str y) H1
theorem df{a b:Expr}{es:List Expr}{t:St->Hp->(Str->Hp->Prop)->Prop}{pos:Pos}(h:PJ X (a::b::es) t)(hn:es.length<=100):PE X (.JoinedStr (a::b::es) pos) (tJ t):=λpins s σ H Q I q=>by
 refine JoinedStr_many (h Str.empty pins s σ H Q ?_ I ?_)
 ·show 0+100000*(es.length+1+1)<=2^24;omega
 ·simp only[lz];exact q
def CB(tv:TE):TE:=λσ H Q=>tv σ H λv H1=>(∃y,v=.str y/\y.length<=sizeLine/\Q (.str y) H1)\/∃i:Int,v=.int i/\i.natAbs.log2<1920/\Q (.str (toString i:String)) H1
theorem h8{e:Expr}{tv:TE}{pos:Pos}(c:PE X e tv):PE X (.FormattedValue e (-1) none pos) (CB tv):=λpins s σ H Q I h=>by
 refine FormattedValue_plain (bx (c pins s σ H _ I h) λv d⟨x,H1,a,b,q⟩=>?_);rcases q with⟨y,rfl,hy,q⟩|⟨i,rfl,hi,q⟩
 ·obtain⟨t0,rfl⟩:=b;exact formatField_str (λt' tk=>⟨.str y,H1,a.tok tk,⟨_,rfl⟩,q⟩) hy
 ·obtain⟨t0,rfl⟩:=b;exact formatField_int_small hi ⟨.str _,H1,a.tok _,⟨_,rfl⟩,q⟩
def Cu(tv:TE):TE:=λσ H Q=>tv σ H λv H1=>(∃y,v=.str y/\(reprText y).length<=sizeLine/\Q (.str (reprText y)) H1)\/∃i:Int,v=.int i/\i.natAbs.log2<1920/\(Str.ofString (toString i)).length<=sizeLine/\Q (.str (toString i:String)) H1
theorem jd{e:Expr}{tv:TE}{pos:Pos}(d:PE X e tv):PE X (.FormattedValue e 114 none pos) (Cu tv):=λpins s σ H Q I h=>by
 refine wpAny_FormattedValue_repr (bx (d pins s σ H _ I h) λv a⟨x,H1,b,c,q⟩=>?_);rcases q with⟨y,rfl,hy,q⟩|⟨i,rfl,hi,hz,q⟩
 ·obtain⟨t0,rfl⟩:=c;refine pyReprObj_str ?_ hy;exact formatField_str (s:={a with toks:=a.toks+1}) (λt' tk=>⟨.str _,H1,b.tok tk,⟨_,rfl⟩,q⟩) hy
 ·obtain⟨t0,rfl⟩:=c;refine pyReprObj_int hi ?_;exact formatField_str (s:={a with toks:=a.toks+1}) (λt' tk=>⟨.str _,H1,b.tok tk,⟨_,rfl⟩,q⟩) hz
end
theorem zY{X:Cx}:eT (e8 X.prog X.w) X E0:=λ_ _ _ _ _ _ _⟨_,_,_,_,_,_,_,_,_,_,a⟩=>a.elim
section
variable{X:Cx}{k:Nat}{x m:Str}{ps:List Str}{sp:Sp}{C:Addr}{p pos apos:Pos}{e o:Expr}{es:List Expr}{ta:TE}{t:TA}
theorem bV{pl:Sem Bool}(l:PE X o ta)(c:ol X.K C)(h:ba X.prog X.w X.K X.mg X.base k C m ps sp)(n:be k X.A)(g:PA X (e::es) t)
  (b:starEach (e::es) X.env=(false,eval e X.env)::starEach es X.env:=by rfl)(a:(backTo pos (starEach es X.env)).any (·.1)=false:=by rfl)
  (p:eval (.Call (.Attribute o m apos) (e::es) [] pos) X.env=(do
   let d<-eval o X.env
   standAt apos.atName
   let(f,first)<-holding [d] (getMethod d m pl)
   callWith pos f first (backTo pos (starEach (e::es) X.env)) (backToKw pos (keywordEach [] X.env))):=by rfl):
  PE X (.Call (.Attribute o m apos) (e::es) [] pos) (ly C m sp [] E0 ta t):=by
 obtain⟨f,fd,F,j,i⟩:=h.ex;exact oN l c j F n i .nil zY g b a p
end
theorem wB{K:PySem.W.Frag}{h:Heap}{C:Addr}{bmB:List Value}{newId:String}(X:K.In h)(q:PySem.W.excIn K C bmB newId=true):
  ∃bm N nm a bs hdct sn sub ab col dd k0 k1 k2 k3 k5 mN,h.get? C=some (excClassObj nm a C N bs bm hdct sn sub ab col dd k0 k1 k2 k3 k5 newId)/\h.Ns N mN/\mN "__init__"=none/\OwnTail h bmB bm:=by
 unfold PySem.W.excIn at q;split at q
 case h_2=>cases q
 case h_1 dd cd sl ho=>
  split at q
  case h_2=>cases q
  case h_1 C1 bm k0 k1 k2 k3 n k5 hm hs=>
   simp only[beq_iff_eq,Bool.not_eq_true',Bool.and_eq_true]at q;obtain⟨⟨⟨⟨⟨z1,z2⟩,c⟩,g⟩,b⟩,d⟩:=q;subst z1 z2;obtain⟨nm,bs,f,ns,a,hd,sn,sub,ab,col,e⟩:=cd;dsimp only at hm c b d;subst hm c;have es:sl=#[k0,k1,k2,k3,some (.builtin n),k5]:=by
    cases sl with
    |mk l=>
     have:l=[k0,k1,k2,k3,some (.builtin n),k5]:=hs;rw[this]
   subst es;exact⟨bm,ns,nm,a,bs,hd,sn,sub,ab,col,dd,k0,k1,k2,k3,k5,_,X _ _ ho,.of_isNs (PySem.W.isNs_of_in X b),PySem.W.nsMap_none_of_in X b d,PySem.W.tail_of_in X g⟩
def zA(C:Addr)(E:XK)(t:TA):TS:=λ_ σ H=>t σ H λvs H1=>vs.length<=sizeLine/\E (.ref C) none H1
theorem cT{X:Cx}{E:XK}{x:Str}{C:Addr}{bmB:List Value}{B newId initId:String}{b:Expr}{rest:List Expr}{z cpos pos:Pos}{t:TA}(W:kq X E)(p:X.calm=true)(u:Gl X x)(v:X.mg x=some (.ref C))
  (q:PySem.W.excIn X.K C bmB newId=true)(j:ExcBaseFacts B newId initId bmB)(o:PA X (b::rest) t)(f:(x==("__debug__":Str))=false:=by decide)
  (k:starEach (b::rest) X.env=(false,eval b X.env)::starEach rest X.env:=by rfl)(i:(backTo cpos (starEach rest X.env)).any (·.1)=false:=by rfl):
  PS X (.Raise (some (.Call (.Name x z) (b::rest) [] cpos)) none pos) (zA C E t):=by
 intro pins s σ H D I h;obtain⟨bm,N,nm,A,bs,hdct,sn,sub,ab,col,dd,k0,k1,k2,k3,k5,mN,l,n,g,T⟩:=wB I.mod.kin q;have d:(backTo cpos (starEach (b::rest) X.env)).any (·.1)=false:=by
  rw[k];exact i
 have c:=o cpos pins s σ H _ I h;refine wpAny_Raise_call_subT (C:=C) (nm:=nm) (q:=A) (N:=N) (bs:=bs) (bm:=bm) (hdct:=hdct) (sn:=sn) (sub:=sub) (ab:=ab) (col:=col) (dd:=dd) (k0:=k0) (k1:=k1) (k2:=k2) (k3:=k3) (k5:=k5) j (mN:=mN) (T.hasType j.hasBase) (I.ok.hd p) d g
  (eQ I u v ⟨rfl,?_⟩ f)
 rw[k]at c⊢;exact Calls.evalArgs_plain (bx c λus F⟨vs,H1,e,r,y,m⟩=>⟨rfl,by show us.length<=sizeLine;rw[<-r.length];exact y,e.bk _ _ l,n.keeps e.bk,T.keeps e.bk,λh' a w=>W.made pins σ H1 F h' a _ _ e w m⟩)
def XA(X:Cx)(pins:List (Addr×Obj))(σ:St)(E:XK)(ex:Value)(s':Shared):Prop:=∃H1 a,Inv X pins σ H1 a/\e8 X.prog X.w X.stack H1 a E ex s'
def PEX(X:Cx)(e:Expr)(t:XK->TE):Prop:=
 ∀(pins:List (Addr×Obj))(s:Shared)(σ:St)(H:Hp)(Q:VK)(E:XK),Inv X pins σ H s->t E σ H Q->wpAny (model X.prog X.w) X.A (eval e X.env) (EP X pins σ Q) (XA X pins σ E) s
def DJ(X:Cx)(st:Stmt)(t:XK->TS):Prop:=
 ∀(pins:List (Addr×Obj))(s:Shared)(σ:St)(H:Hp)(D:jT)(E:XK),Inv X pins σ H s->t E D σ H->wpAny (model X.prog X.w) X.A (exec st X.env) (SP X pins D) (XA X pins σ E) s
section
variable{X:Cx}{k:Nat}{x:Str}{ps:List Str}{sp:Sp}{p pos:Pos}{e:Expr}{es:List Expr}{t:TA}
theorem se(c:eU X.prog X.w X.K X.mg X.base k x ps sp)(C:be k X.A)(w:Gl X x)(n:PA X.nox (e::es) t)(g:(x==("__debug__":Str))=false:=by decide)
  (v:starEach (e::es) X.env=(false,eval e X.env)::starEach es X.env:=by rfl)(i:(backTo pos (starEach es X.env)).any (·.1)=false:=by rfl):
  PEX X (.Call (.Name x p) (e::es) [] pos) (λE=>ou sp [] E t):=by
 obtain⟨f,fd,F,B,y,o⟩:=c.ex;intro pins s σ H Q E I h;refine wpAny_Call_Name_kw (eQ I w B ?_ g);refine PySem.W.callWith_K (h₀:=X.base) I.ok.mod.kin y (wpAny_mono (n pos pins s σ H _ (I.wish _) h) (λus j⟨vs,H1,a,r,q⟩=>⟨a.unwish.kIn,?_⟩) λ_ _ z=>False.elim z) v i;have d:=a.unwish;have l:bc (vs++[]) (us++[]):=r.append .nil;have A:(us++[]).length=ps.length:=by rw[<-l.length];exact F.len _ _ _ _ q
 refine wpAny_call (codeAny_mono (F.run X.A X.stack j H1 ⟨us,[]⟩ (us++[]) (vs++[]) Q E C d.env0 (o j us d.kIn A) l q) λr s' b=>?_);cases r with
 |error ex=>exact⟨H1,j,d,b⟩
 |ok m=>
  cases m with
  |ret u=>exact d.after b
  |next=>exact False.elim b
  |brk=>exact False.elim b
  |cont=>exact False.elim b
theorem rW{te:XK->TE}(b:PEX X e te)(c:swapsWith e none pos.line X.env=pure false:=by rfl):DJ X (.Expr e pos) (λE=>xY (te E)):=by
 intro pins s σ H D E I h;exact wpAny_Expr_any (bx (b pins s σ H _ E I h) λv f⟨x,H1,a,d,q1⟩=>⟨σ,H1,a,q1⟩) I.quiet c
end
def kX(a:Addr)(cls:Value)(b:Option Addr):HO:=.ext λh=>∃ob vs,h.get? a=some ob/\ob.cls=cls/\ob.data=.fields vs/\∀d,b=some d->d=0\/ob.dict=some d
def Cx.mark(X:Cx)(v:Value):Cx:={X with A:=X.A.mark (some v),calm:=false,xe:=λ_ _=>False}
theorem Cx.Ok.mark{X:Cx}(ok:X.Ok)(v:Value):(X.mark v).Ok :=
 ⟨ok.mod,ok.kind,ok.glob,ok.blt,ok.above,ok.inj,ok.has,ok.cab,(λh=>nomatch h),ok.frames,ok.stk,ok.exf,ok.bs,ok.bsz,ok.noex,ok.exfs,ok.funs,ok.frf⟩
theorem Cx.Ok.unmark{X:Cx}{v:Value}(ok:(X.mark v).Ok)(hd:X.calm=true->X.A.handled=none):X.Ok:=
 ⟨ok.mod,ok.kind,ok.glob,ok.blt,ok.above,ok.inj,ok.has,ok.cab,hd,ok.frames,ok.stk,ok.exf,ok.bs,ok.bsz,ok.noex,ok.exfs,ok.funs,ok.frf⟩
section
variable{X:Cx}{pins:List (Addr×Obj)}{σ:St}{H:Hp}{s:Shared}{v:Value}
theorem Inv.mark(I:Inv X pins σ H s)(v:Value):Inv (X.mark v) pins σ H s:=⟨I.ok.mark v,I.os,I.bare,I.base,I.loc,I.cell,I.free,I.freeC,I.pin,I.hok,I.len⟩
theorem Inv.unmark(I:Inv (X.mark v) pins σ H s)(hd:X.calm=true->X.A.handled=none):Inv X pins σ H s:=⟨I.ok.unmark hd,I.os,I.bare,I.base,I.loc,I.cell,I.free,I.freeC,I.pin,I.hok,I.len⟩
theorem iN{M:Model}{A:Around}{E:Value->Shared->Prop}{i:Nat}{x:Str}{pos:Pos}{Q:Unit->Shared->Prop}(I:Inv X pins σ H s)(G:X.N.Nodup)(hi:X.N[i]?=some x)(J:X.env.scope.names.lookup x=some .local)
  (h:∀s',Inv X pins (σ.set i none) H s'->Q () s'):wpAny M A (do bindName X.env x .none;unbindBehindTheSuite X.env x pos) Q E s:=by
 obtain⟨m,hn,K⟩:=id I.loc;have N:(X.env.scope.kind== .class ||(X.env.scope.kind== .module &&X.env.locals != X.env.globals))=false:=by rw[I.ok.kind];rfl
 refine wpAny_nameGoes_keeps J hn N λh' V w C=>h _ ?_;obtain⟨U,_,_,L,_⟩:=id hn;have lo:∀b o,X.s₀.heap.get? b=some o->b≠X.env.locals:=λb o e=>Nat.ne_of_lt (Nat.lt_of_lt_of_le (Heap.lt_size e) I.ok.above);have kp:∀b o,b≠X.env.locals->s.heap.get? b=some o->h'.get? b=some o:=λb o g e=>(C.2 b g).trans e;refine⟨I.ok,I.os,I.bare,⟨λb o e n g l=>kp b o (lo b o e) (I.base.keep b o e n g l),λb o e n g l=>?_,I.base.free,λb o e l=>?_,I.base.tups,I.base.frzs,I.base.tbls⟩,⟨_,w,λj y w' a t F=>?_⟩,λy c e=>?_,I.free,I.freeC,λp B=>?_,λb ob e=>?_,by simpa using I.len⟩
 ·obtain⟨S,a⟩:=I.base.slot b o e n g l;exact⟨S,kp b _ (lo b o e) a⟩
 ·obtain⟨o',a⟩:=I.base.there b o e l;exact⟨o',kp b _ (lo b o e) a⟩
 ·by_cases v:j=i
  ·subst v;rw[List.getElem?_set_self (by rw[I.len];exact(List.getElem?_eq_some_iff.mp hi).1)]at t;cases t
  ·rw[List.getElem?_set_ne (Ne.symm v)]at t;obtain⟨T,R,q⟩:=K j y w' a t F;have P:y≠x:=λz=>v (jj G a (z▸hi));refine⟨T,R,?_⟩;rcases q with⟨k,e⟩|⟨k,c,e,z⟩
   ·exact .inl ⟨k,by simp[P,e]⟩
   ·exact .inr ⟨k,c,e,z.sameBut C (I.cne y c e)⟩
 ·obtain⟨w',z⟩:=I.cell y c e;exact⟨w',z.sameBut C (I.cne y c e)⟩
 ·obtain⟨e,n,ne,O,d⟩:=I.pin p B;exact⟨kp _ _ ne e,n,ne,O,d⟩
 ·refine(I.hok b ob e).stay (λc u f z=>kp c u ?_ z) (λ_ z=>z) λ_ _ z=>z;intro D;rcases f with f|f
  ·have z2:=I.free;rw[<-D,f,e]at z2;cases z2
  ·rw[D,I.free]at f;cases f
end
theorem xG{P:Program}{w:World}{fs:List Addr}{H H':Hp}{h0 h2:Heap}{a:Addr}{o:HO}(un:Un fs [] H H' h0 h2)(hok:fb P w H' h2)(na:h0.get? a=none)(f:H' a=none)(new:ObjOk P w (upd H' a o) h2 a o):
  Un fs [] H (upd H' a o) h0 h2/\fb P w (upd H' a o) h2:=by
 refine⟨⟨un.keep,un.slot,λb ob e n h=>?_,un.there,λb xs e=>?_,λb ob u e=>?_,λb i e=>?_⟩,λb u e=>?_⟩
 ·rw[ah (λz=>by rw[z,na]at e;cases e)];exact un.free b ob e n h
 ·have z:=un.tups b xs e;rw[ah (ai z f)];exact z
 ·have z:=un.frzs b ob u e;rw[ah (ai z f)];exact z
 ·obtain⟨d,z⟩:=un.tbls b i e;exact⟨d,by rw[ah (ai z f)];exact z⟩
 ·by_cases g:b=a
  ·rw[g,ac]at e;rw[g,<-Option.some.inj e];exact new
  ·rw[ah g]at e;exact(hok b u e).stay (λc v _ q=>q) (λc q=>by rw[ah (ai q f)];exact q) λc xs q=>by rw[ah (ai q f)];exact q
def y_(K:PySem.W.Frag)(d:Value)(i:Nat)(tb:XK->TS)(ts:TS):TS:=λD σ H=>
 tb (λcls c H'=>PySem.W.exmOne K cls d=some true/\∀a,H' a=none->ts {nx:=λb H2=>D.nx (b.set i none) H2,rt:=D.rt,bk:=λb H2=>D.bk (b.set i none) H2,ct:=λb H2=>D.ct (b.set i none) H2} (σ.set i (some (.ref a))) (upd H' a (kX a cls c))) D σ H
theorem rY{X:Cx}{st m:Stmt}{g:List Stmt}{n M:Str}{np J pos:Pos}{tb:XK->TS}{ts:TS}{i:Nat}{Dc:Addr}(hs:X.stack=X.env::X.outer)(hf:X.env.frame=some X.env.locals)
  (C:X.N.Nodup)(hi:X.N[i]?=some n)(x:X.env.scope.names.lookup n=some .local)(hg:Gl X M)(hm:X.mg M=some (.ref Dc))(hb:DJ X st tb)(V:∀v,PSs (X.mark v) (m::g) ts)(S:(M==("__debug__":Str))=false:=by decide):
  PS X (.Try [st] [.ExceptHandler (some (.Name M np)) (some n) (m::g) J] [] [] pos) (y_ X.K (.ref Dc) i tb ts):=by
 intro pins s σ H D I h;refine wpAny_Try_except (wpAny_execs_cons (wpAny_mono (hb pins s σ H D _ I h) (λf j q=>?_) (λex j q=>?_)))
 ·cases f with
  |next=>exact wpAny_execs_nil (wpAny_execs_nil q)
  |ret v=>exact q
  |brk=>exact q
  |cont=>exact q
 ·obtain⟨H1,Z,I1,a,cls,H',rfl,os,bare,un,hok,l,⟨B,f,k1,k2⟩,hE⟩:=q;have f':jS (kg cls l) B (X.env::X.outer) a .none j.heap:=by rw[<-hs];exact f
  have fr:∀{h2:Heap},B.StaysIn h2->j.heap.UpToSlots h2->Un (frs X.stack) [] H1 H' Z.heap h2/\fb X.prog X.w H' h2:=λb2 up=>kU un hok f.stay b2 f.frs k1 k2 up;refine oW (L:=X.env.locals) (outer:=X.outer) (by rw[<-hs];exact I.ok.frames) hf (kg.stab _ _) f' λh4 x4 u4=>?_;refine kQ (s:={j with heap:=h4}) x4 λy O u5=>?_;have J5:Inv X pins σ H' {j with heap:=y}:=I1.call' (s':={j with heap:=y}) (ch:=[]) os (fr O.stay (u4.trans u5)).1 (fr O.stay (u4.trans u5)).2 bare λ_ z=>nomatch z;refine wpAny_handleBy_cons (codeAny_handlers_test ?_) (by intro q;cases q);refine eQ (X:=X.mark (.ref a)) (J5.mark (.ref a)) hg hm ?_ S;have LT:PySem.W.Looks (model X.prog X.w) y (typeOf (.ref a)) cls:=by
   obtain⟨ob,_,_,_,_,T,N,_⟩:=O.tr;have hc:=N.cl.1;subst hc;exact(PySem.W.Looks.ld T).andThen .now
  refine PySem.W.Looks.here (s:={j with heap:=y}) (PySem.W.exm_one J5.kIn LT hE.1) ?_;show codeAny _ _ _ _ _;refine codeAny_handlers_suite_as (kQ (s:={j with heap:=y}) O λP x6 u6=>?_);obtain⟨xa,W⟩:=fr x6.stay ((u4.trans u5).trans u6);obtain⟨oe,_,ws,_,_,U,_,G,_⟩:=f.tr;have na:Z.heap.get? a=none:=by
   cases q:Z.heap.get? a with
   |none=>rfl
   |some o=>
    exfalso;by_cases E:a∈frs X.stack
    ·obtain⟨_,o',F,R⟩:=f.frs.mem E;rw[U]at F;exact R _ ((congrArg Obj.data (Option.some.inj F)).symm.trans G)
    ·obtain⟨u',e'⟩:=k2 a o q E;rw[f.new]at e';cases e'
  have nH:H' a=none:=by
   cases q:H' a with
   |none=>rfl
   |some o=>
    obtain⟨u,e⟩:=k1 a o q;rw[f.new]at e;cases e
  have new:ObjOk X.prog X.w (upd H' a (kX a cls l)) P a (kX a cls l):=by
   obtain⟨K,_,xc,_,_,A,N,Q,_⟩:=x6.tr;exact⟨⟨K,xc,A,N.cl.1,Q,λd hd=>by subst hd;exact N.2.2⟩,⟨K,A⟩,λh1 h2⟨ob,vs,e,r⟩k=>⟨ob,vs,k ob e,r⟩⟩
  obtain⟨xb,Y⟩:=xG xa W na nH new;have J7:Inv X pins σ (upd H' a (kX a cls l)) {j with heap:=P}:=I1.call' (s':={j with heap:=P}) (ch:=[]) os xb Y bare λ_ z=>nomatch z;refine iS (X:=X.mark (.ref a)) (v:=.ref a) (J7.mark (.ref a)) C hi (.inl x) rfl (λs8 J8=>?_) (.inr x);refine wpAny_mono (V (.ref a) pins s8 _ _ _ J8 (hE.2 a nH)) (λfl s9 c=>?_) λ_ _ z=>False.elim z;cases fl with
  |next=>obtain⟨w,H2,p,c⟩:=c;exact iN (p.unmark I.ok.hd) C hi x λt b=>⟨_,H2,b,c⟩
  |brk=>obtain⟨w,H2,p,c⟩:=c;exact iN (p.unmark I.ok.hd) C hi x λt b=>⟨_,H2,b,c⟩
  |cont=>obtain⟨w,H2,p,c⟩:=c;exact iN (p.unmark I.ok.hd) C hi x λt b=>⟨_,H2,b,c⟩
  |ret u=>obtain⟨v,w,H2,p,rv,c⟩:=c;exact iN (p.unmark I.ok.hd) C hi x λt b=>⟨v,_,H2,b,rv,c⟩
open PySem PySem.W PySem.Spec PyProof.Rows Builtin Builtin.ObjectAttr Builtin.Getset_descriptor
structure ExcKit(K:Frag)(D:Addr):Prop where
 ga:findIn K (.ref D) "__getattribute__"=some (some (.builtin "BaseException.__getattribute__"))
 gt:findIn K (.ref D) "__getattr__"=some none
 cl:findIn K (.ref D) "__class__"=some (some (.builtin "object.__class__"))
 hn:specialIn K (.builtin "object.__class__") "__get__"=some (some (.builtin "getset_descriptor.__get__"))
 tk:takesIn K (.builtin "object.__class__")=some true
 mo:mroIn K D (.type "object")=some true
 mb:mroIn K D (.type "BaseException")=some true
def iy(a D:Addr)(h:Heap):Prop:=∃ob vs,h.get? a=some ob/\ob.cls=.ref D/\ob.data=.fields vs
section
variable{prog:Program}{w:World}{A:Around}{E:Value->Shared->Prop}{s:Shared}{K:Frag}{a D:Addr}
theorem jr{M:Model}{h:Heap}(x:iy a D h):Looks M h (typeOf (.ref a)) (.ref D):=by
 obtain⟨ob,vs,e,c,_⟩:=x;rw[<-c];exact(Looks.ld e).andThen .now
theorem tT{M:Model}{h:Heap}(X:K.In h)(k:ExcKit K D):Looks M h (Builtin.ObjectAttr.find (.ref a) (.ref D) "__class__") (.bind (.builtin "getset_descriptor.__get__") (.builtin "object.__class__")):=by
 have l1:=looks_findIn (M:=M) X k.cl;have l2:Looks M h (Builtin.ObjectAttr.getOf (some (.builtin "object.__class__"))) (some (.builtin "getset_descriptor.__get__")):=looks_specialIn X k.hn;have b:=looks_takesIn (M:=M) X k.tk;refine l1.andThen (Looks.andThen (a:=some (.builtin "getset_descriptor.__get__")) l2 ?_);refine Looks.andThen (a:=some (.builtin "getset_descriptor.__get__",.builtin "object.__class__")) (b.andThen ?_) (Looks.tag .now);exact .now
theorem Aq{R:Result->Shared->Prop}{tp:Value}(X:K.In s.heap)(x:iy a D s.heap)(k:ExcKit K D)(h:R (.ok (.ret (.ref D))) s):
  codeAny (model prog w) A (.call (.builtin "getset_descriptor.__get__") ⟨[.builtin "object.__class__",.ref a,tp],[]⟩) R s:=by
 obtain⟨b,g,d,t,os⟩:=s;have l0:=jr (M:=model prog w) x;have l1:=looks_mroIn (M:=model prog w) X k.mo;refine codeAny_call_builtin KF.slot_gs.plain KF.entry_gs
  (KF.slot_gs.check _ _ _ _ _ _ _ _ KF.type_class (KF.args_gs _ _ _) ?_)
 unfold Builtin.«getset_descriptor.__get__» descrGet;rw[PySem.W.dga_obj];refine wpAny_bind (wpAny_pure ?_);unfold descrGetter descrCheckInstance descrNameAndClass isInstance;simp only[KF.owner_class]
 repeat lk
 refine⟨Code.quiet_builtin _ Qk,codeAny_builtin KF.entry_class ?_⟩;unfold Builtin.«object.__class__» shownTypeOf
 repeat lk
 exact h
theorem ke{M:Model}{b:Value}{Q:Unit->Shared->Prop}(X:K.In s.heap)(x:iy a D s.heap)(k:ExcKit K D)(h:Q () s):wpAny M A (checkBuiltinCall "BaseException.__getattribute__" ⟨[.ref a,b],[]⟩) Q E s:=by
 obtain⟨f,g,d,t,os⟩:=s;have l0:=jr (M:=M) x;have i:=looks_mroIn (M:=M) X k.mb;have c:builtinKind "BaseException.__getattribute__"=some .slot:=Qk;have sp:splitId "BaseException.__getattribute__"=some ("BaseException","__getattribute__"):=Qk;have e:=F.args_bexc_ga (.ref a) b;simp only[checkBuiltinCall,c,sp];unfold isInstance
 repeat lk
 exact h
theorem qA{Q:Option Value->Shared->Prop}(X:K.In s.heap)(x:iy a D s.heap)(k:ExcKit K D)(h:Q (some (.ref D)) {s with toks:=s.toks+1}):
  wpAny (model prog w) A (getAttr? (.ref a) "__class__") Q E s:=by
 obtain⟨c,g,d,t,os⟩:=s;have l0:=jr (M:=model prog w) x;have l1:=looks_findIn (M:=model prog w) X k.ga;have l2:=looks_findIn (M:=model prog w) X k.gt;have e:=looks_mroIn (M:=model prog w) X k.mb;have b:=tT (a:=a) (M:=model prog w) X k;unfold getAttr? getAttrBy?;refine wpAny_bind (wpAny_mkText (wpAny_bind (wpAny_attempt ?_)));unfold getAttrBy;refine wpAny_holding (wpAny_bind (Looks.at l0 (wpAny_bind (Looks.at l1 ?_))));show wpAny _ _ (getAttrByItsOwn _ _ _ _ _ _) _ _ _;unfold getAttrByItsOwn hookBefore;refine wpAny_bind (Looks.at (t:=typeLookup (.ref D) "__getattr__") l2 ?_);refine wpAny_bind (wpAny_attempt (wpAny_holding ?_));unfold callGetattribute boundAndCalled;rw[if_neg Qd];refine wpAny_bind (wpAny_of_eq (F.excAttr_ValueError.ga.bind (.ref a)) ?_);refine wpAny_call (codeAny_call_builtin F.excAttr_ValueError.ga.plain F.entry_bexc_ga (ke X x k ?_));unfold Builtin.«object.__getattribute__»;refine wpAny_bind (wpAny_of_eq (a:=(Value.ref a,[Value.str "__class__" t])) rfl ?_);refine wpAny_bind (wpAny_of_eq (a:=("__class__":Str)) rfl (wpAny_bind (Looks.at l0 (wpAny_bind (Looks.at b ?_)))));show wpAny _ _ (bindTo _ _ _ _) _ _ _;unfold bindTo;refine wpAny_bind (wpAny_holding (wpAny_call (Aq X x k ?_)));refine wpAny_pure ?_;refine handed_on rfl ?_;exact wpAny_pure h
theorem pA(k:ExcKit K D):∃ob,K.lookup D=some ob/\∃b,ob.data=.cls b:=by
 obtain⟨b,a,_⟩:=Option.bind_eq_some_iff.mp k.mo;unfold clsIn at a;split at a
 case h_1 ho=>exact⟨_,ho,_,rfl⟩
 case h_2=>cases a
theorem ms(k:ExcKit K D):KitX K (.ref a) (.ref D) (iy a D) where
 ty:=λ_ _ _ x=>jr x
 it:=λM h X _=>by
  obtain⟨ob,e,_⟩:=pA k;intro g i E2 j kp q;unfold isType loadHead;refine wpAny_bind (wpAny_loadPart (kp _ _ (X _ _ e)) ?_);rename_i hd;obtain⟨d,b⟩:=hd;rw[b];exact wpAny_pure q
 ne:=λh tp dd f n l X c=>by
  obtain⟨ob,e,d,b⟩:=pA k;refine Bool.eq_false_iff.mpr λq=>?_;have z:D=tp:=Value.ref.inj (beq_iff_eq.mp q);subst z;have y:=(X _ _ e).symm.trans c;cases y;cases b
 ca:=λX x h=>qA X x k h
theorem bA{X:Cx}:dL X (.builtin "isinstance") (λxs H Q=>∃a D C b c,xs=[.ref a,.ref C]/\H a=some (kX a (.ref D) c)/\ExcKit X.K D/\kitOne X.K (.ref D) (.ref C)=some b/\Q (.bl b) H):=by
 intro pins s σ H xs us Q I r h;obtain⟨a,D,C,b,c,rfl,f,k,e,q⟩:=h;obtain⟨j,l,rfl,g,i⟩:=ot r;cases g;cases i;have x:iy a D s.heap:=let⟨ob,vs,h1,h2,d,_⟩:=(I.hok a _ f).1;⟨ob,vs,h1,h2,d⟩;exact kia_one (ms k) I.kIn x e (λz=>nomatch z) λtk=>⟨.bl b,H,I.tok tk,rfl,q⟩
theorem jR{X:Cx}:dL X (.builtin "isinstance") (λxs H Q=>∃a D T b c,xs=[.ref a,.ty T]/\H a=some (kX a (.ref D) c)/\ExcKit X.K D/\kitOne X.K (.ref D) (.type T)=some b/\Q (.bl b) H):=by
 intro pins s σ H xs us Q I r h;obtain⟨a,D,T,b,c,rfl,f,k,e,q⟩:=h;obtain⟨j,l,rfl,g,i⟩:=ot r;cases g;cases i;have x:iy a D s.heap:=let⟨ob,vs,h1,h2,d,_⟩:=(I.hok a _ f).1;⟨ob,vs,h1,h2,d⟩;exact kia_one (ms k) I.kIn x e (λz=>nomatch z) λtk=>⟨.bl b,H,I.tok tk,rfl,q⟩
end
namespace Tx
open Builtin Builtin.Str PySem.StrLaws
end Tx
namespace Tx
open PySem.NumText PySem.W
end Tx
section
variable{prog:Program}{w:World}{A:Around}{E:Value->Shared->Prop}{h:Heap}{g:Array GenState}{d:Drawn}{t:Nat}{os:OsState}
variable{nm q:Str}{C N:Addr}{bs bm bmB:List Value}{hdct:Bool}{sn:List Str}{sub:List Value}{ab:Bool}{col:Option Bool}{dd:Option Addr}{k0 k1 k2 k3 k5:Option Value}{B newId initId:String}
theorem iA(F:ExcBaseFacts B newId initId bmB)(T:OwnTail h bmB bm){mN:Str->Option Value}{rest:List Value}{fI:Addr}{p:Obj}{Q:Fin->Shared->Prop}
  (k:h.get? C=some (excClassObj nm q C N bs bm hdct sn sub ab col dd k0 k1 k2 k3 k5 newId))(hn:h.Ns N mN)(hi:mN "__init__"=some (.ref fI))
  (m:h.get? fI=some p)(n:p.cls=.type "function")
  (v:∀h' e,Heap.MadeExcOf h h' e (.ref C) rest->wpAny (model prog w) A (call (.ref fI) (.ref e::rest)) (λr s'=>r=.none/\Q (.done (.ret (.ref e))) s') E ⟨h',g,d,t,os⟩)(hrest:rest.length<=sizeLine:=by size_fits):
  wpAny (model prog w) A (Builtin.«type.__call__» ⟨.ref C::rest,[]⟩) Q E ⟨h,g,d,t,os⟩:=by
 repeat (first|with_reducible refine wpAny_loadPart_at k ?_|with_reducible refine wpAny_madeBy_exc k ?_|wp_step)
 refine codeAny_call_builtin_code (Code.quiet_builtin _ F.quiet) (wpAny_check_new_subT F T k ?_);refine codeAny_exc_new_subT F T k ?_ hrest;show wpAny _ _ _ _ _ _;have a:=Heap.get?_push_of_some {cls:=.ref C,data:=.fields #[.ref h.objs.size,.none,.none,.none,.bool false,.none]}
  (Heap.get?_push_of_some {cls:=.type "tuple",data:=.seq rest.toArray} k)
 have c:=Heap.get?_push_of_some {cls:=.ref C,data:=.fields #[.ref h.objs.size,.none,.none,.none,.bool false,.none]}
  (Heap.get?_push_of_some {cls:=.type "tuple",data:=.seq rest.toArray} m)
 have i:((h.push {cls:=.type "tuple",data:=.seq rest.toArray}).push {cls:=.ref C,data:=.fields #[.ref h.objs.size,.none,.none,.none,.bool false,.none]}).Ns N mN:=
  let⟨o,es,ep,e,r⟩:=hn;⟨o,es,ep,Heap.get?_push_of_some _ (Heap.get?_push_of_some _ e),r⟩
 have f:((h.push {cls:=.type "tuple",data:=.seq rest.toArray}).push
   {cls:=.ref C,data:=.fields #[.ref h.objs.size,.none,.none,.none,.bool false,.none]}).get? (h.objs.size+1)=some
   {cls:=.ref C,data:=.fields #[.ref h.objs.size,.none,.none,.none,.bool false,.none]}:=by heap_get
 have l:(Value.ref C::bm).contains (.ref C)=true:=Qs;have j:=T.keeps (h':=(h.push {cls:=.type "tuple",data:=.seq rest.toArray}).push {cls:=.ref C,data:=.fields #[.ref h.objs.size,.none,.none,.none,.bool false,.none]})
  λb o e=>Heap.get?_push_of_some _ (Heap.get?_push_of_some _ e)
 unfold isInstance
 repeat (first|with_reducible refine wpAny_loadPart_at f ?_|(with_reducible refine wpAny_isSubtype_exc a ?_;rw[l])|wp_step)
 show wpAny _ _ (typeLookup (.ref C) _) _ _ _;refine wpAny_typeLookup_tail a i j F.mroIs F.init.lookup ?_;rw[hi];refine wpAny_holding (wpAny_bind ?_);unfold bindSpecial;refine wpAny_bind (wpAny_typeOf (T:="function") ⟨_,c,n⟩ ?_);rw[if_pos Qd];refine wpAny_pure (wpAny_bind (wpAny_mono (v _ (h.objs.size+1) ⟨λb o u=>Heap.get?_push_of_some _ (Heap.get?_push_of_some _ u),Heap.get?_none_of_le (Nat.le_succ _),h.objs.size,f,Heap.get?_none_of_le (Nat.le_refl _),?_⟩) (λr s' y=>?_) λ_ _ x=>x))
 ·exact Heap.get?_push_of_some _ (Heap.get?_push_at rfl rfl)
 ·obtain⟨rfl,s⟩:=y
  wp_walk
  exact s
theorem jB(F:ExcBaseFacts B newId initId bmB)(T:OwnTail h bmB bm){mN:Str->Option Value}{rest:List Value}{fI:Addr}{f:Obj}{Q:Value->Shared->Prop}
  (a:h.get? C=some (excClassObj nm q C N bs bm hdct sn sub ab col dd k0 k1 k2 k3 k5 newId))(hn:h.Ns N mN)(hi:mN "__init__"=some (.ref fI))
  (b:h.get? fI=some f)(c:f.cls=.type "function")
  (j:∀h' e,Heap.MadeExcOf h h' e (.ref C) rest->
   wpAny (model prog w) (A.under (.builtin "type.__call__" ⟨.ref C::rest,[]⟩)) (call (.ref fI) (.ref e::rest)) (λr s'=>r=.none/\Q (.ref e) s') E ⟨h',g,d,t,os⟩) (hrest:rest.length<=sizeLine:=by size_fits):
  wpAny (model prog w) A (call (.ref C) rest) Q E ⟨h,g,d,t,os⟩:=by
 have f1:=tc_lookup;have k:=tc_bind (.ref C);have l:(⟨h,g,d,t,os⟩:Shared).TypeIs (.ref C) "type":=⟨_,a,rfl⟩;refine wpAny_call (codeAny_of_tree ?_);show wpAny _ _ (callAny (.ref C) _) _ _ _
 repeat (any_goals (first|assumption|with_reducible refine wpAny_loadPart_at a ?_|wp_step))
 refine⟨rfl,?_⟩;refine codeAny_call_builtin_at (Code.quiet_builtin _ Qk) entry_typeCall (wpAny_check_type_call_sub a (iA (hrest:=hrest) F T a hn hi b c λh' e i=>?_));exact j h' e i
end
open PySem.W in
def kf(K:Frag)(C:Addr)(bmB:List Value)(newId:String)(fI:Addr):Bool:=match K.lookup C with
 |some ⟨.type "type",_,.cls a,b⟩=>(match a.mro,b.toList with
  |.ref C'::bm,[_,_,_,_,some (.builtin n),_]=>C'==C&&n==newId&& !a.hasDel&&tailIn K bmB bm&&nsOkIn K a.ns&&nsIn K a.ns "__init__"==some (some (.ref fI))
  |_,_=>false)
 |_=>false
theorem nQ{K:PySem.W.Frag}{h:Heap}{N:Addr}{mg:Str->Option Value}{n:Str}{v:Value}(X:K.In h)(G:h.Ns N mg)(e:PySem.W.nsIn K N n=some (some v)):mg n=some v:=by
 obtain⟨o,es,ep,g,hd,_,f⟩:=G;unfold PySem.W.nsIn at e;split at e
 ·rename_i c d a i j q;have:=X _ _ q;rw[g]at this;cases this;cases hd;split at e
  ·rename_i y b;cases e;rw[<-f];unfold nsFind findBy;rw[<-Array.find?_toList,b];rfl
  ·split at e<;>cases e
 ·cases e
theorem mz{K:PySem.W.Frag}{h:Heap}{C fI:Addr}{bmB:List Value}{newId:String}(X:K.In h)(q:kf K C bmB newId fI=true):
  ∃(bm:List Value)(N:Addr)(nm d:Str)(bs:List Value)(hd:Bool)(sn:List Str)(sub:List Value)(ab:Bool)(col:Option Bool)(dd:Option Addr)(k0 k1 k2 k3 k5:Option Value)(mN:Str->Option Value),
   h.get? C=some (excClassObj nm d C N bs bm hd sn sub ab col dd k0 k1 k2 k3 k5 newId)/\h.Ns N mN/\mN "__init__"=some (.ref fI)/\OwnTail h bmB bm:=by
 unfold kf at q;split at q
 ·rename_i dd i g k;split at q
  ·rename_i p bm k0 k1 k2 k3 n k5 e f;simp only[Bool.and_eq_true,beq_iff_eq,Bool.not_eq_true']at q;obtain⟨⟨⟨⟨⟨rfl,rfl⟩,a⟩,m⟩,hok⟩,b⟩:=q;obtain⟨nm,bs,o,ns,d,hd,sn,sub,ab,col,j⟩:=i;dsimp only at e a hok b;subst e a;have c:g=#[k0,k1,k2,k3,some (.builtin n),k5]:=by
    obtain⟨l⟩:=g;simp only at f;rw[f]
   subst c;exact⟨bm,ns,nm,d,bs,hd,sn,sub,ab,col,dd,k0,k1,k2,k3,k5,_,X _ _ k,.of_isNs (PySem.W.isNs_of_in X hok),nQ X (.of_isNs (PySem.W.isNs_of_in X hok)) b,PySem.W.tail_of_in X m⟩
  ·cases q
 ·cases q
section
variable{prog:Program}{w:World}{A:Around}{E:Value->Shared->Prop}{h:Heap}{g:Array GenState}{d:Drawn}{t:Nat}{os:OsState}
variable{nm q:Str}{C N:Addr}{bs bm bmB:List Value}{hdct:Bool}{sn:List Str}{sub:List Value}{ab:Bool}{col:Option Bool}{dd:Option Addr}{k0 k1 k2 k3 k5:Option Value}{B newId initId:String}
theorem jE(F:ExcBaseFacts B newId initId bmB)(T:OwnTail h bmB bm){rest:List Value}{e t0:Addr}{Q:Value->Shared->Prop}
  (c:h.get? C=some (excClassObj nm q C N bs bm hdct sn sub ab col dd k0 k1 k2 k3 k5 newId))(a:h.get? e=some {cls:=.ref C,data:=.fields #[.ref t0,.none,.none,.none,.bool false,.none]})
  (i:∀h' t1,(∀b o,b≠e->h.get? b=some o->h'.get? b=some o)->h'.get? e=some {cls:=.ref C,data:=.fields #[.ref t1,.none,.none,.none,.bool false,.none]}->Q .none ⟨h',g,d,t,os⟩)(hrest:rest.length<=sizeLine:=by size_fits):
  wpAny (model prog w) A (call (.builtin initId) (.ref e::rest)) Q E ⟨h,g,d,t,os⟩:=by
 refine wpAny_call (codeAny_call_builtin F.init.plain F.initEntry (wpAny_check_init_subT F T c a rfl ?_))
 wp_walk
 refine i _ h.objs.size (λb o f q=>?_) ?_
 ·rw[Heap.get?_update_other _ _ (Ne.symm f)];exact Heap.get?_push_of_some _ q
 ·rw[Heap.get?_update_self _ (Heap.get?_push_of_some _ a) rfl];rfl
end
def jk(a C:Addr):HO:=.ext λh=>∃t0:Addr,h.get? a=some {cls:=.ref C,data:=.fields #[.ref t0,.none,.none,.none,.bool false,.none]}
theorem oX{P:Program}{w:World}{H:Hp}{h:Heap}{a C t0:Addr}(e:h.get? a=some {cls:=.ref C,data:=.fields #[.ref t0,.none,.none,.none,.bool false,.none]}):ObjOk P w H h a (jk a C):=
 ⟨⟨t0,e⟩,⟨_,e⟩,λh1 h2⟨t1,b⟩k=>⟨t1,k _ b⟩⟩
structure mP(K:PySem.W.Frag)(cc:Addr)(initId:String):Prop where
 ga:PySem.W.specialIn K (.ref cc) "__getattribute__"=some (some (.builtin "type.__getattribute__"))
 rd:PySem.W.readsIn K cc (.type "type")=true
 fc:PySem.W.findCls K (.ref cc) (.type "type") "__init__"=some (.val (.builtin initId))
 hi:PySem.W.handedIn (.builtin initId)=true
def pO(C:Addr)(t:TA):TE:=λσ H Q=>t σ H λvs H1=>∃a rest,vs=.ref a::rest/\rest.length<=sizeLine/\H1 a=some (jk a C)/\Q .non (upd H1 a (jk a C))
theorem lZ{X:Cx}{c:Str}{cc C fI:Addr}{bmB:List Value}{B newId initId:String}{e:Expr}{es:List Expr}{t:TA}{p m pos:Pos}{pl:Sem Bool}(S:Gl X c)(T:X.mg c=some (.ref cc))(BI:mP X.K cc initId)(q:kf X.K C bmB newId fI=true)(J:ExcBaseFacts B newId initId bmB)
  (R:PA X (e::es) t)(n:(c==("__debug__":Str))=false:=by decide)
  (y:starEach (e::es) X.env=(false,eval e X.env)::starEach es X.env:=by rfl)(w:(backTo pos (starEach es X.env)).any (·.1)=false:=by rfl)
  (U:eval (.Call (.Attribute (.Name c p) "__init__" m) (e::es) [] pos) X.env=(do
   let G<-eval (.Name c p) X.env
   standAt m.atName
   let(f,first)<-holding [G] (getMethod G "__init__" pl)
   callWith pos f first (backTo pos (starEach (e::es) X.env)) (backToKw pos (keywordEach [] X.env))):=by rfl):PE X (.Call (.Attribute (.Name c p) "__init__" m) (e::es) [] pos) (pO C t):=by
 intro pins s σ H Q I h;refine PySem.W.methodCall_KW (pl:=pl) (bx (oO (v:=.ref cc) (u:=.ref cc) S T rfl n pins s σ H (λv H1=>v=V.ref cc/\H1=H) I ⟨rfl,rfl⟩) λu s1⟨x,H1,j,Z,ex,M⟩=>?_) U;subst ex M;obtain rfl:u=Value.ref cc:=Z;refine PySem.W.method_cls j.kIn BI.ga (PySem.W.cls_value j.kIn BI.rd BI.fc BI.hi ?_);have k:=j.tok (s1.toks+1);have F:=R pos pins _ σ H1 _ k h;rw[y]at F⊢;refine Calls.callWith_builtin (by show(false||(backTo pos (starEach es X.env)).any (·.1))=false;rw[w]<;>rfl) (Calls.evalArgs_plain ?_);refine bx F λus s2⟨vs,H2,l,A,a,rest,O,W,E,q2⟩=>?_;subst O;obtain⟨i,b,rfl,z,Y⟩:∃i b,us=i::b/\aN (.ref a) i/\bc rest b:=by
  cases A with
  |cons z A=>exact⟨_,_,rfl,z,A⟩
 obtain rfl:i=Value.ref a:=z;obtain⟨bm,N,nm,qn,bs,hd,sn,sub,ab,col,dd,k0,k1,k2,k3,k5,mN,P,hN,hi,K⟩:=mz l.kIn q;obtain⟨⟨t0,L⟩,_⟩:=l.hok a _ E;obtain⟨hp,g,d,tk,os⟩:=s2;refine jE J K P L (λh' t1 kp D=>?_) (by rw[show b.length=rest.length from Y.length.symm];exact W);refine⟨.non,_,l.write (x:=a) (e:=a) (o:=jk a C) (h':=h') (t':=tk) (by rw[E];exact True.intro) (.inl rfl) kp ⟨_,D⟩ (oX D),rfl,q2⟩
def fq(bmB:List Value):List Value->Bool
 |[]=>bmB== []
 |v::r=>(v::r)==bmB||match v with
  |.ref _=>fq bmB r
  |_=>false
theorem iq{bmB:List Value}{self:Value}{a:Str}(h:refuseLoop self a bmB=pure ()):∀{l:List Value},fq bmB l=true->refuseLoop self a l=pure ()
 |[],e=>by
  have e:(bmB== [])=true:=e;rw[beq_iff_eq.mp e]at h;exact h
 |v::r,e=>by
  unfold fq at e;rcases Bool.or_eq_true_iff.mp e with q|q
  ·rw[beq_iff_eq.mp q];exact h
  ·split at q
   ·rw[refuseLoop_ref];exact iq h q
   ·cases q
structure iQ(K:PySem.W.Frag)(C:Addr)(bmB:List Value)(f:Str):Prop where
 over:(PySem.W.clsIn K C).any (λcd=>fq bmB cd.mro&&cd.hasDict)=true
 mo:PySem.W.mroIn K C (.type "object")=some true
 sa:PySem.W.findIn K (.ref C) "__setattr__"=some (some (.builtin "object.__setattr__"))
 no:PySem.W.findIn K (.ref C) f=some none
section
variable{prog:Program}{w:World}{A:Around}{E:Value->Shared->Prop}{s:Shared}{K:PySem.W.Frag}{x C:Addr}{ox:Obj}{od:Option Obj}{name:Str}{v:Value}{bmB:List Value}{R:Result->Shared->Prop}
theorem wC{tk:Tok}(X:K.In s.heap)(I:PySem.W.InstAt s.heap x ox C od)(k:∀self,refuseLoop self "__setattr__" bmB=pure ())(q:iQ K C bmB name)
  (h:wpAny (model prog w) A.in1 (Builtin.ObjectAttr.storeInOwnDict (.ref x) (.ref C) (.str name tk) name v false)
   (λb s'=>match b with|.done f=>R (.ok f) s'|.again c'=>c'.quiet=true/\codeAny (model prog w) A c' R s') (λe s'=>R (.error e) s') s):
  codeAny (model prog w) A (.call (.builtin "object.__setattr__") ⟨[.ref x,.str name tk,v],[]⟩) R s:=by
 have a:=PySem.F.store_object;obtain⟨g,i,c⟩:=PySem.W.any_some q.over;have c:=(Bool.and_eq_true_iff.mp c).1;have sub:PySem.W.Looks (model prog w) s.heap (isInstance (.ref x) (.type "object")) true:=I.type.andThen (PySem.W.looks_mroIn X q.mo);refine codeAny_call_builtin a.slot.plain a.entry (@PySem.W.check_slot (model prog w) _ _ s "object.__setattr__" "object" "__setattr__" (.ref x) [.str name tk,v] [] _ a.kind a.split sub (a.args (.ref x) (.str name tk) v) ?_);have j:PySem.W.Looks (model prog w) s.heap (mroOf (.ref C)) g.mro:=(PySem.W.looks_clsIn X i).andThen .now;have d:PySem.W.Looks (model prog w) s.heap (Builtin.ObjectAttr.storeTaker? none) none:=.now;rw[PySem.W.osa_eq,refuse_eq];refine wpAny_bind (wpAny_bind (I.type.here (wpAny_bind (j.here ?_))));rw[iq (k _) c];refine wpAny_pure (wpAny_bind (I.type.here (wpAny_bind ((PySem.W.looks_findIn X q.no).here (wpAny_bind (d.here ?_))))));exact h
theorem uZ{vs:Array Value}{Q:Unit->Shared->Prop}(X:K.In s.heap)(c:s.heap.get? x=some {cls:=.ref C,data:=.fields vs})(B:∀self,refuseLoop self "__setattr__" bmB=pure ())(q:iQ K C bmB name)
  (h:∀h' dx t',s.heap.objs.size<=dx->dx≠x->h'.get? x=some {cls:=.ref C,dict:=some dx,data:=.fields vs}->h'.Ns1 dx (λy=>if y=name then some v else none)->(∀b o,b≠x->s.heap.get? b=some o->h'.get? b=some o)->Q () {s with heap:=h',toks:=t'}):
  wpAny (model prog w) A (setAttr (.ref x) name v) Q E s:=by
 have I:PySem.W.InstAt s.heap x {cls:=.ref C,data:=.fields vs} C none:=⟨c,rfl,rfl,trivial⟩;refine PySem.W.set_plain X I q.sa (wC (s:={s with toks:=s.toks+1}) X I B q ?_);obtain⟨D,u,z⟩:=PySem.W.any_some q.over;have hd:=(Bool.and_eq_true_iff.mp z).2;unfold Builtin.ObjectAttr.storeInOwnDict;refine wpAny_bind (wpAny_pure (wpAny_bind (wpAny_bind (wpAny_loadPart c (wpAny_bind (PySem.W.Looks.here (s:={s with toks:=s.toks+1}) (PySem.W.looks_clsIn X u) ?_))))));rw[hd];have a:x≠s.heap.objs.size:=Nat.ne_of_lt (Heap.lt_size c);have f:(s.heap.push {cls:=.type "dict",data:=.dict #[]}).get? x=some {cls:=.ref C,data:=.fields vs}:=Heap.get?_push_of_some _ c;simp only[Bool.not_true,Bool.false_eq_true,if_false];rw[if_neg (by simp[typeHasDict])];refine wpAny_bind (wpAny_alloc' ?_);refine wpAny_bind (wpAny_update' f ?_);refine wpAny_pure ?_;have j:((s.heap.push {cls:=.type "dict",data:=.dict #[]}).update x λo=>{cls:=o.cls,dict:=some s.heap.objs.size,data:=o.data,slots:=o.slots}).get? s.heap.objs.size
   =some {cls:=.type "dict",data:=.dict #[]}:=(Heap.get?_update_ne _ _ _ _ a.symm).trans (Heap.get?_push_at rfl rfl)
 have k:((s.heap.push {cls:=.type "dict",data:=.dict #[]}).update x λo=>{cls:=o.cls,dict:=some s.heap.objs.size,data:=o.data,slots:=o.slots}).Ns s.heap.objs.size (λ_=>none):=
  ⟨_,#[],_,j,rfl,λe c=>absurd c Qs,λ_=>rfl⟩
 show wpAny _ _ (Builtin.ObjectAttr.storeInDict s.heap.objs.size (.str name s.toks) name v) _ _ _;unfold Builtin.ObjectAttr.storeInDict Builtin.ObjectAttr.newKeyGuard;refine wpAny_bind (wpAny_pure (wpAny_bind (wpAny_nsSet1 (Heap.Ns1.of_empty k) λh' d m=>?_)));obtain⟨F,p,n,l,i,g⟩:=d.count (Within.cons name v Within.nil);refine wpAny_bind (wpAny_lookBehind l (by rw[i];exact pastItsLine_dict (Nat.le_trans g (by rw[List.length_cons,List.length_nil,sizeLine_eq];omega))) ?_);refine wpAny_pure ?_;refine h h' s.heap.objs.size _ (Nat.le_refl _) a.symm ?_ d (λb o t q=>?_)
 ·refine(m.2 x a).trans (Heap.get?_update_self _ f rfl)
 ·exact(m.2 b (Nat.ne_of_lt (Heap.lt_size q))).trans ((Heap.get?_update_ne _ _ _ _ t).trans (Heap.get?_push_of_some _ q))
end
def qz(a C dx:Addr):HO:=.ext λh=>∃t0:Addr,h.get? a=some {cls:=.ref C,dict:=some dx,data:=.fields #[.ref t0,.none,.none,.none,.bool false,.none]}
def Bf(C:Addr)(f:Str)(ta tv:TE):TS:=λD σ H=>tv σ H λy H1=>ta σ H1 λx H2=>∃a,x=.ref a/\H2 a=some (jk a C)/\∀dx,H2 dx=none->dx≠a->dx≠0->D.nx σ (upd (upd H2 dx (.xd [(f,y)])) a (qz a C dx))
theorem ri{X:Cx}{pins:List (Addr×Obj)}{σ:St}{H:Hp}{s:Shared}{a C dx:Addr}{f:Str}{y:V}{u:Value}{h':Heap}{t':Nat}{t0:Addr}(I:Inv X pins σ H s)(e:H a=some (jk a C))(n:s.heap.objs.size<=dx)(ne:dx≠a)(w:aN y u)
  (h1:h'.get? a=some {cls:=.ref C,dict:=some dx,data:=.fields #[.ref t0,.none,.none,.none,.bool false,.none]})(h2:h'.Ns1 dx (λg=>if g=f then some u else none))(kp:∀b o,b≠a->s.heap.get? b=some o->h'.get? b=some o):
  Inv X pins σ (upd (upd H dx (.xd [(f,y)])) a (qz a C dx)) {s with heap:=h',toks:=t'}:=by
 have nd:H dx=none:=I.hok.fresh n;have i:s.heap.get? dx=none:=Heap.get?_none_of_le n;have at_:∀b,b≠a->b≠dx->(upd (upd H dx (.xd [(f,y)])) a (qz a C dx)) b=H b:=λb h1 h2=>by rw[ah h1,ah h2]
 have d:∀(b:Addr)(o:Obj),H b=none->b≠a:=λb _ z q=>by rw[q,e]at z;cases z
 have un:Un X.fs [] H (upd (upd H dx (.xd [(f,y)])) a (qz a C dx)) s.heap h':=by
  refine⟨λb o q m _ _=>kp b o (d b o m) q,λb o q m _ _=>⟨o.slots,kp b o (d b o m) q⟩,λb o q m _=>?_,λb o q _=>?_,λb xs q=>?_,λb o z q=>?_,λb ps q=>?_⟩
  ·rw[at_ b (d b o m) (λz=>by rw[z,i]at q;cases q)];exact m
  ·by_cases z:b=a
   ·rw[z];exact⟨_,h1⟩
   ·exact⟨o,kp b o z q⟩
  ·rw[at_ b (λz=>by rw[z,e]at q;cases q) (λz=>by rw[z,nd]at q;cases q)];exact q
  ·rw[at_ b (λz=>by rw[z,e]at q;cases q) (λz=>by rw[z,nd]at q;cases q)];exact q
  ·refine⟨#[],?_⟩;rw[at_ b (λz=>by rw[z,e]at q;cases q) (λz=>by rw[z,nd]at q;cases q),q];simp
 refine I.un un λb o q=>?_;by_cases h:b=a
 ·subst h;rw[ac]at q;cases q;exact⟨⟨t0,h1⟩,⟨_,h1⟩,λx A⟨t1,p⟩k=>⟨t1,k _ p⟩⟩
 ·by_cases l:b=dx
  ·subst l;rw[ah h,ac]at q;cases q;refine⟨_,h2,λg=>?_⟩;by_cases j:g=f
   ·subst j;rw[if_pos rfl];show RelO (([(g,y)]:List (Str×V)).lookup g) (some u);rw[List.lookup_cons_self];exact w
   ·rw[if_neg j];show RelO (([(f,y)]:List (Str×V)).lookup g) none;rw[List.lookup_cons,show(g==f)=false from by simp[j]];exact True.intro
  ·rw[at_ b h l]at q;refine(I.hok b o q).stay (λc v t r=>kp c v (λz=>?_) r) (λc r=>?_) λc xs r=>?_
   ·rcases t with z2|z2
    ·exact h (z2.symm.trans z)
    ·rw[z,e]at z2;cases z2
   ·rw[at_ c (λz=>by rw[z,e]at r;cases r) (λz=>by rw[z,nd]at r;cases r)];exact r
   ·rw[at_ c (λz=>by rw[z,e]at r;cases r) (λz=>by rw[z,nd]at r;cases r)];exact r
theorem vR{X:Cx}{o value:Expr}{f:Str}{pos pos':Pos}{ta tv:TE}{C:Addr}{bmB:List Value}(g:PE X o ta)(k:PE X value tv)(i:∀self,refuseLoop self "__setattr__" bmB=pure ())(q:iQ X.K C bmB f)(j:swapsWith value (some (.Attribute o f pos')) pos.line X.env=pure false):
  PS X (.Assign [.Attribute o f pos'] value pos) (Bf C f ta tv):=by
 intro pins s σ H D I h;refine plainObj_wpAny_Assign_Attribute (bx (k pins s σ H _ I h) λu t⟨y,H1,e,p,q1⟩=>bx (g pins t σ H1 _ e q1) λl v⟨x,H2,b,m,a,ex,d,q2⟩=>?_) j;subst ex;obtain rfl:l=Value.ref a:=m;obtain⟨⟨t0,c⟩,_⟩:=b.hok a _ d;exact uZ b.kIn c i q λh' dx t' n ne h1 h2 kp=>⟨σ,_,ri b d n ne p h1 h2 kp,q2 dx (b.hok.fresh n) ne (λz=>by have:=Nat.lt_of_lt_of_le (Heap.lt_size c) n;rw[z]at this;exact absurd this (Nat.not_lt_zero _))⟩
section
variable{prog:Program}{w:World}{A:Around}{E:Value->Shared->Prop}{s:Shared}{env:Env}
variable{nm q:Str}{C N:Addr}{bs bm bmB:List Value}{hdct:Bool}{sn:List Str}{sub:List Value}{ab:Bool}{col:Option Bool}{dd:Option Addr}{k0 k1 k2 k3 k5:Option Value}{B newId initId:String}
theorem raise_madeN{M:Model}{x:Sem Value}{Q:Flow->Shared->Prop}(b:bm.contains (.type "BaseException")=true)(l:A.handled=none)
  (h:wpAny M A x (λv a=>∃e od t,v=.ref e/\a.heap.get? C=some (excClassObj nm q C N bs bm hdct sn sub ab col dd k0 k1 k2 k3 k5 newId)/\a.heap.get? e=some {cls:=.ref C,dict:=od,data:=.fields #[.ref t,.none,.none,.none,.bool false,.none]}/\E (.ref e) a) E s):
  wpAny M A (raiseStmt env (some x) none) Q E s:=by
 have f:(Value.ref C::bm).contains (.type "BaseException")=true:=by rw[List.contains_cons,b,Bool.or_true]
 unfold raiseStmt;refine wpAny_bind (wpAny_mono h (λv a c=>?_) λ_ _ x=>x);obtain⟨e,od,t,rfl,i,k,j⟩:=c;obtain⟨m,g,d,tk,os⟩:=a
 repeat (first|with_reducible refine wpAny_loadPart_at k ?_|with_reducible refine wpAny_loadPart_at i ?_|(with_reducible refine wpAny_isSubtype_exc i ?_;rw[f])|wp_step)
 exact wpAny_raiseNew_none l j
theorem il(F:ExcBaseFacts B newId initId bmB){mN:Str->Option Value}{x:Str}{P cpos pos:Pos}{args:List Expr}{Q:Flow->Shared->Prop}{fI:Addr}
  (m:bm.contains (.type "BaseException")=true)(O:A.handled=none)(u:(backTo cpos (starEach args env)).any (·.1)=false)(hi:mN "__init__"=some (.ref fI))
  (h:wpAny (model prog w) A (eval (.Name x P) env) (λf p=>f=.ref C/\wpAny (model prog w) A (evalArgs (.ref C) true (backTo cpos (starEach args env)) [])
   (λa k=>a.kw=[]/\a.pos.length<=sizeLine/\k.heap.get? C=some (excClassObj nm q C N bs bm hdct sn sub ab col dd k0 k1 k2 k3 k5 newId)/\k.heap.Ns N mN/\OwnTail k.heap bmB bm/\(∃L,k.heap.get? fI=some L/\L.cls=.type "function")/\
    ∀h' e,Heap.MadeExcOf k.heap h' e (.ref C) a.pos->wpAny (model prog w) (A.under (.builtin "type.__call__" ⟨.ref C::a.pos,[]⟩)) (call (.ref fI) (.ref e::a.pos))
     (λr s'=>r=.none/\∃od t,s'.heap.get? C=some (excClassObj nm q C N bs bm hdct sn sub ab col dd k0 k1 k2 k3 k5 newId)/\s'.heap.get? e=some {cls:=.ref C,dict:=od,data:=.fields #[.ref t,.none,.none,.none,.bool false,.none]}/\E (.ref e) s') E {k with heap:=h'}) E p) E s):
  wpAny (model prog w) A (exec (.Raise (some (.Call (.Name x P) args [] cpos)) none pos) env) Q E s:=by
 rw[arm_exec_Raise]
 first
  |refine b (c (raise_madeN (C:=C) (nm:=nm) (q:=q) (N:=N) (bs:=bs) (bm:=bm) (hdct:=hdct) (sn:=sn) (sub:=sub) (ab:=ab) (col:=col) (dd:=dd) (k0:=k0) (k1:=k1) (k2:=k2) (k3:=k3) (k5:=k5) (newId:=newId) m O (b (i (j (i h (λf p l=>?_) λ_ _ x=>x)) (λv G o=>b (c (wpAny_pure o))) λ_ _ x=>x))))
  |(simp only[y,Option.map];refine b (c (raise_madeN (C:=C) (nm:=nm) (q:=q) (N:=N) (bs:=bs) (bm:=bm) (hdct:=hdct) (sn:=sn) (sub:=sub) (ab:=ab) (col:=col) (dd:=dd) (k0:=k0) (k1:=k1) (k2:=k2) (k3:=k3) (k5:=k5) (newId:=newId) m O (b (i (j (i h (λf p l=>?_) λ_ _ x=>x)) (λv G o=>b (c (wpAny_pure o))) λ_ _ x=>x)))))
 obtain⟨rfl,l⟩:=l;unfold callWith;refine b (wpAny_holding (i l (λa k n=>b (c ?_)) λ_ _ x=>x));obtain⟨apos,H⟩:=a;obtain⟨K,D,M,hn,T,⟨L,I,J⟩,n⟩:=n;obtain rfl:H=[]:=K;obtain⟨X,g,d,tk,os⟩:=k;simp only[u];refine b (wpAny_keeperOf_exc M ?_);refine b (jB (hrest:=D) F T M hn hi I J λh' e V=>i (n h' e V) (λr s' W=>?_) λ_ _ z=>z);obtain⟨rfl,od,t,R,S,U⟩:=W;refine⟨rfl,b (wpAny_holding (wpAny_point (wpAny_pure ?_)))⟩;exact⟨e,od,t,rfl,R,S,U⟩
end
def forget(a:Addr)(H:Hp):Hp:=λb=>if b=a then none else H b
theorem j_{a:Addr}{H:Hp}:forget a H a=none:=if_pos rfl
theorem fO{a b:Addr}{H:Hp}(h:b≠a):forget a H b=H b:=if_neg h
section
variable{X:Cx}{pins:List (Addr×Obj)}{σ:St}{H:Hp}{s:Shared}{a C:Addr}
theorem Inv.forget{φ:Heap->Prop}(I:Inv X pins σ H s)(e:H a=some (.ext φ)):Inv X pins σ (forget a H) s:=by
 have keep:∀b o,H b=some o->(∀i,o≠ .ext i)->L2.forget a H b=some o:=λb o q n=>by
  rw[fO (λz=>by rw[z,e]at q;cases q;exact n φ rfl)];exact q
 have no:∀b,H b=none->L2.forget a H b=none:=λb q=>by
  unfold L2.forget;split
  ·rfl
  ·exact q
 refine⟨I.ok,I.os,I.bare,⟨I.base.keep,I.base.slot,λb o q n h=>no b (I.base.free b o q n h),I.base.there,λb xs q=>keep b _ (I.base.tups b xs q) (λ_ z=>by cases z),λb o u q=>keep b _ (I.base.frzs b o u q) (λ_ z=>by cases z),λb ps q=>?_⟩,I.loc,I.cell,no _ I.free,λx c q=>no _ (I.freeC x c q),λp g=>?_,λb o q=>?_,I.len⟩
 ·obtain⟨m,d⟩:=I.base.tbls b ps q;exact⟨m,keep b _ d (λ_ z=>by cases z)⟩
 ·obtain⟨h1,h2,f⟩:=I.pin p g;exact⟨h1,no _ h2,f⟩
 ·have ne:b≠a:=λz=>by rw[z,j_]at q;cases q
  rw[fO ne]at q;exact(I.hok b o q).stay (λc v _ r=>r) (λc r=>keep c _ r (λ_ z=>by cases z)) λc xs r=>keep c _ r (λ_ z=>by cases z)
theorem qp{h':Heap}{vs:List Value}(I:Inv X pins σ H s)(d:Heap.MadeExcOf s.heap h' a (.ref C) vs):Inv X pins σ (upd H a (jk a C)) {s with heap:=h'}:=by
 have nd:H a=none:=by
  cases q:H a with
  |none=>rfl
  |some o=>
   obtain⟨u,e⟩:=(I.hok a o q).there;rw[d.new]at e;cases e
 obtain⟨t,g,_,_⟩:=d.there;have ne:∀b o,s.heap.get? b=some o->b≠a:=λb o q z=>by rw[z,d.new]at q;cases q
 have un:Un X.fs [] H (upd H a (jk a C)) s.heap h':=by
  refine⟨λb o q m _ _=>d.keeps b o q,λb o q m _ _=>⟨o.slots,d.keeps b o q⟩,λb o q m _=>?_,λb o q _=>⟨o,d.keeps b o q⟩,λb xs q=>?_,λb o z q=>?_,λb ps q=>⟨#[],?_⟩⟩
  ·rw[ah (ne b o q)];exact m
  ·rw[ah (ai q nd)];exact q
  ·rw[ah (ai q nd)];exact q
  ·rw[ah (ai q nd),q];simp
 refine I.un (t':=s.toks) un λb o q=>?_;by_cases f:b=a
 ·subst f;rw[ac]at q;cases q;exact oX g
 ·rw[ah f]at q;exact(I.hok b o q).stay (λc v _ r=>d.keeps c v r) (λc r=>by rw[ah (ai r nd)];exact r) λc xs r=>by rw[ah (ai r nd)];exact r
end
theorem tR{K:PySem.W.Frag}{h:Heap}{f:Addr}(X:K.In h)(e:PySem.W.isFn K (.ref f)=true):∃o,h.get? f=some o/\o.cls=.type "function":=by
 unfold PySem.W.isFn at e;have e:=beq_iff_eq.mp e;unfold PySem.W.typeIn at e;obtain⟨o,b,a⟩:=Option.map_eq_some_iff.mp e;exact⟨o,X _ _ b,a⟩
def uO(C:Addr)(sp:Sp)(E:XK)(t:TA):TS:=λ_ σ H=>t σ H λvs H1=>vs.length<=sizeLine/\∀a,H1 a=none->sp (.ref a::vs) (upd H1 a (jk a C)) (λv H2=>v=.non/\∃dx,dx≠0/\H2 a=some (qz a C dx)/\E (.ref C) (some dx) (forget a H2)) E0
theorem p5{X:Cx}{E:XK}{x:Str}{C fI:Addr}{fd:FuncData}{k:Nat}{ps:List Str}{sp:Sp}{bmB:List Value}{B newId initId:String}{b:Expr}{rest:List Expr}{np cpos pos:Pos}{t:TA}(W:kq X E)(Z:X.calm=true)(hg:Gl X x)(hm:X.mg x=some (.ref C))
  (q:kf X.K C bmB newId fI=true)(y:ExcBaseFacts B newId initId bmB)(n:PySem.W.isFn X.K (.ref fI)=true)(F:FnOk X.prog X.w X.K X.mg X.base cY k fI fd ps sp)(Y:c_ X.K fd ps [])(hr:be (k+1) X.A)(U:PA X (b::rest) t)(m:X.ex=[]:=by rfl)(l:(x==("__debug__":Str))=false:=by decide)
  (K:starEach (b::rest) X.env=(false,eval b X.env)::starEach rest X.env:=by rfl)(p:(backTo cpos (starEach rest X.env)).any (·.1)=false:=by rfl):
  PS X (.Raise (some (.Call (.Name x np) (b::rest) [] cpos)) none pos) (uO C sp E t):=by
 intro pins s σ H D I h;obtain⟨bm,N,nm,qn,bs,hdct,sn,sub,ab,col,dd,k0,k1,k2,k3,k5,mN,J,S,hi,T⟩:=mz I.mod.kin q;have g:(backTo cpos (starEach (b::rest) X.env)).any (·.1)=false:=by
  rw[K];exact p
 have c:=U cpos pins s σ H _ I h;refine il (C:=C) (nm:=nm) (q:=qn) (N:=N) (bs:=bs) (bm:=bm) (hdct:=hdct) (sn:=sn) (sub:=sub) (ab:=ab) (col:=col) (dd:=dd) (k0:=k0) (k1:=k1) (k2:=k2) (k3:=k3) (k5:=k5) y (mN:=mN) (T.hasType y.hasBase) (I.ok.hd Z) g hi
  (eQ I hg hm ⟨rfl,?_⟩ l)
 rw[K]at c⊢;refine Calls.evalArgs_plain (bx c λus s2⟨vs,H1,f,r,hz,hq⟩=>⟨rfl,by show us.length<=sizeLine;rw[<-r.length];exact hz,f.bk _ _ J,S.keeps f.bk,T.keeps f.bk,?_,λh' a w=>?_⟩)
 ·exact tR f.kIn n
 ·have i:=qp f w;have nd:H1 a=none:=by
   cases q:H1 a with
   |none=>rfl
   |some o=>
    obtain⟨u,M⟩:=(f.hok a o q).there;rw[w.new]at M;cases M
  have L:=hq a nd;have O:bc (V.ref a::vs) (Value.ref a::us):=.cons rfl r;have hl:(Value.ref a::us++[]).length=ps.length:=by
   have e:=O.length;rw[F.len _ _ _ _ L]at e;rw[List.append_nil];exact e.symm
  refine wpAny_call (codeAny_mono (F.run _ X.stack _ _ ⟨Value.ref a::us,[]⟩ (Value.ref a::us) _ _ E0 (hr.make C us []) (i.env0.make C us []) (by have:=Y _ (Value.ref a::us) i.kIn hl;rw[List.append_nil]at this;exact this) O L) λr s' d=>?_);cases r with
  |error e=>exact False.elim d
  |ok Q=>
   cases Q with
   |ret u=>
    obtain⟨v,H',j,rv,P,dx,d0,A,R⟩:=i.after d;subst P;obtain⟨⟨t0,G⟩,_⟩:=j.hok a _ A;refine⟨rv,some dx,t0,j.bk _ _ J,G,W.madeN pins σ _ s' a _ (some dx) _ _ (j.forget A) j_ ?_ G ⟨rfl,⟨_,rfl⟩,.inr rfl⟩ rfl rfl R⟩;cases q0:X.s₀.heap.get? a with
    |none=>rfl
    |some o=>
     obtain⟨o',z⟩:=f.base.there a o q0 (by rw[m];simp);rw[w.new]at z;cases z
   |next=>exact False.elim d
   |brk=>exact False.elim d
   |cont=>exact False.elim d
open PySem PySem.Spec PyProof.Rows PySem.W
section
variable{prog:Program}{w:World}{A:Around}{E:Value->Shared->Prop}{s:Shared}{K:Frag}{a D:Addr}
theorem tU{b:Bool}{name:Str}{v:Value}{ob od:Obj}{Q:Value->Shared->Prop}(X:K.In s.heap)(x:iy a D s.heap)(k:ExcKit K D)(I:InstAt s.heap a ob D (some od))(c:findObj K D (some od) name=some (.value v))(e:handedIn v=true)(h:Q v {s with toks:=s.toks+1}):
  wpAny (model prog w) A (getAttr (.ref a) name b) Q E s:=by
 obtain⟨f,g,d,t,os⟩:=s;have l0:=jr (M:=model prog w) x;have l1:=looks_findIn (M:=model prog w) X k.ga;have l2:=looks_findIn (M:=model prog w) X k.gt;have i:=looks_find (M:=model prog w) X I c;unfold getAttr;refine wpAny_bind (wpAny_mkText ?_);unfold getAttrBy;refine wpAny_holding (wpAny_bind (Looks.at l0 (wpAny_bind (Looks.at l1 ?_))));show wpAny _ _ (getAttrByItsOwn _ _ _ _ _ _) _ _ _;unfold getAttrByItsOwn hookBefore;refine wpAny_bind (Looks.at (t:=typeLookup (.ref D) "__getattr__") l2 ?_);refine wpAny_bind (wpAny_attempt (wpAny_holding ?_));unfold callGetattribute boundAndCalled;rw[if_neg (by cases b<;>decide)];refine wpAny_bind (wpAny_of_eq (F.excAttr_ValueError.ga.bind (.ref a)) ?_);refine wpAny_call (codeAny_call_builtin F.excAttr_ValueError.ga.plain F.entry_bexc_ga (ke X x k ?_));unfold Builtin.«object.__getattribute__»;refine wpAny_bind (wpAny_of_eq (a:=(Value.ref a,[Value.str name t])) rfl ?_);refine wpAny_bind (wpAny_of_eq (a:=name) rfl (wpAny_bind (Looks.at l0 (wpAny_bind (Looks.at i ?_)))));refine wpAny_pure ?_;exact handed_on e h
end
def A4(K:Frag)(ta:TE)(f:Str):TE:=λσ H Q=>ta σ H λx H1=>∃a D dx fs v,x=.ref a/\H1 a=some (kX a (.ref D) (some dx))/\dx≠0/\ExcKit K D/\hasDictIn K D=true/\findIn K (.ref D) f=some none/\H1 dx=some (.xd fs)/\fs.lookup f=some v/\Q v H1
theorem vW{X:Cx}{e:Expr}{f:Str}{pos:Pos}{ta:TE}(z:PE X e ta)(y:attributeBase e f X.env (eval e X.env)=eval e X.env:=by rfl):PE X (.Attribute e f pos) (A4 X.K ta f):=by
 intro pins s σ H Q I h;refine pJ y (bx (z pins s σ H _ I h) λu F⟨x,H1,b,E,a,D,dx,fs,v,ex,t,m,k,hd,hn,w,l,q⟩=>?_);subst ex;obtain rfl:u=Value.ref a:=E;obtain⟨⟨ob,vs,c,d,g,n⟩,_⟩:=b.hok a _ t;obtain⟨mA,ns,r⟩:=b.hok dx _ w;have p:=(n dx rfl).resolve_left m;obtain⟨od,B,A⟩:=j4 ns;obtain⟨u,C,i⟩:=RelO.some_of (v:=v) (o:=mA f) (by rw[<-l];exact r f);have j:InstAt F.heap a ob D (some od):=⟨c,d,by unfold notCls;rw[g],by rw[p];exact B⟩;exact tU b.kIn ⟨ob,vs,c,d,g⟩ k j (findObj_own hd hn rfl (by rw[A,C])) (j8 i) ⟨v,H1,b.tok _,i,q⟩
theorem mD:entryFor table "dict.update.loop"=some Builtin.«dict.update.loop»:=entryFor_of_fast (by kernel_rfl)
theorem gO:plainId "dict.update.loop"=true:=Qk
theorem qr:typeLookup (.type "list") ("keys":Str)=pure none:=am_miss_of_fast Qk
section
variable{prog:Program}{w:World}{A:Around}{E:Value->Shared->Prop}{s:Shared}
theorem wZ{a:Addr}{xs:Array Value}{k:Nat}{Q:Option Value->Shared->Prop}{l:Array (Option Value)}(j:s.heap.get? a=some {cls:=.type "list",dict:=none,data:=.seq xs k,slots:=l})(m:A.handled=none)
  (h:∀h' tk,(∀b o,s.heap.get? b=some o->h'.get? b=some o)->Q none {s with heap:=h',toks:=tk}):wpAny (model prog w) A (getAttr? (.ref a) "keys") Q E s:=by
 obtain⟨n,g,d,tk,os⟩:=s;have i:∀f,(⟨n,g,d,f,os⟩:Shared).TypeIs (.ref a) "list":=λ_=>⟨_,j,rfl⟩;have f1:=sub_AttributeError;have p:=F.slot_list_getattribute.lookup;have q:=F.slot_list_getattribute.bind (.ref a);have t:=am_list_getattr_none;unfold getAttr? getAttrBy? getAttrBy
 repeat (any_goals (first|assumption|exact i _|((with_reducible show wpAny _ _ (call (Value.builtin "list.__getattribute__") _ _) _ _ _);refine call_meets F.slot_list_getattribute (i _) am_entry_list_getattribute (F.args_list_getattribute_2 _ _) (meets_getattribute_miss_list a xs k l "keys" _ qr Qk) ⟨j,m,λh' f e c=>?_⟩)|wp_step))
 obtain⟨t',v,u⟩:=c.there;show wpAny _ _ (getattributeRaised _ _ _ _ _ _ _) _ _ _;unfold getattributeRaised
 repeat (any_goals (first|assumption|wp_step))
 exact h _ _ c.keeps
end
section
variable{prog:Program}{w:World}{A:Around}{R:Result->Shared->Prop}{I:Addr}{fp wr:List Addr}{n:Nat}{P:Nat->Value->Prop}{St:Nat->Heap->Prop}
theorem mU(vs:List (aT×Value))(k:aT)(x:Value):(stored vs k x).length<=vs.length+1:=by
 unfold stored;split<;>simp
theorem qC(W:Walks prog w A.in1 I fp wr n P St)(D:Addr)(X:D∉fp)(bs:List Addr)(a:List (aT×Value))(hk:a.length=n)
  (hP:∀(i:Nat)(v:Value),P i v->∃b:Addr,v=.ref b/\bs[i]?=some b)(hsz:n<=sizeLine)(hw:∀b∈bs,b∉wr/\b≠D):
  ∀(k i:Nat)(s:Shared)(vs:List (aT×Value))(j:Int),n-i=k->i<=n->St i s.heap->s.heap.DictOf (aX prog w) D vs->vs.length<=i->
  (∀(j:Nat)(b:Addr)(kv:aT×Value),bs[j]?=some b->a[j]?=some kv->∃u,fz kv.1 u=true/\IsTup s.heap b #[u,kv.2])->
  (∀h' tk,h'.DictOf (aX prog w) D (merged vs (a.drop i))->(∀b o,b∉wr->b≠D->s.heap.get? b=some o->h'.get? b=some o)->R (.ok (.ret .none)) {s with heap:=h',toks:=tk})->
  codeAny (model prog w) A (.builtin "dict.update.loop" ⟨[.ref D,.ref I,rawInt j,.none],[]⟩) R s:=by
 have p:D∉wr:=λh=>X (W.sub _ h);intro k;induction k with
 |zero=>
  intro i s vs j K hi l hd hl q C;have J:i=n:=Qo;subst J;refine codeAny_builtin mD ?_;rw[Around.under_plainId gO _];show wpAny _ A.in1 (pyNext (.ref I)>>=_) _ _ s;refine wpAny_bind (W.done s _ _ l λh' tk x=>?_);show wpAny _ A.in1 (Builtin.Dict.addKeywords D []>>=_) _ _ _;refine wpAny_bind (wpAny_pure ?_);refine wpAny_pure (C h' tk ?_ λb o h1 _ e=>x b o h1 e);rw[List.drop_of_length_le Qo];exact hd.at λo e=>x D o p e
 |succ k ih=>
  intro i s vs j K hi l hd hl q C;have M:i<n:=Qo;refine codeAny_builtin mD ?_;rw[Around.under_plainId gO _];show wpAny _ A.in1 (pyNext (.ref I)>>=_) _ _ s;refine wpAny_bind (W.item i s _ _ M l λv h1 tk hv y d=>?_);obtain⟨b,rfl,V⟩:=hP i v hv;have t:i<a.length:=Qo;have Z:a[i]?=some a[i]:=List.getElem?_eq_getElem t;obtain⟨u,hu,ho⟩:=q i b _ V Z;obtain⟨E,xa⟩:=hw b (List.mem_of_getElem? V);have N:IsTup h1 b #[u,a[i].2]:=let⟨o,e,r⟩:=ho;⟨o,d b o E e,r⟩;obtain⟨o,e,c,m,dd⟩:=N;have F:h1.DictOf (aX prog w) D vs:=hd.at λo e=>d D o p e;show wpAny _ A.in1 (holding [Value.ref b] _>>=_) _ _ _;refine wpAny_bind (wpAny_holding ?_);refine wpAny_bind (wpAny_tryCatch ?_);unfold Builtin.Dict.pairItems;refine wpAny_bind (wpAny_typeOf (T:="tuple") ⟨o,e,c⟩ ?_);rw[if_pos Qd];refine wpAny_bind (wpAny_seqItems e dd (wpAny_pure ?_));show wpAny _ A.in1 (holding [u,a[i].2] (dictSet D u a[i].2)) _ _ _;refine wpAny_holding (wpAny_dictSet_pairs (knd:=aX prog w) (k:=a[i].1) hu F (λh2 G g=>?_) Qo);refine wpAny_pure ⟨plainId_quiet gO _,?_⟩;refine ih (i+1) _ (stored vs a[i].1 a[i].2) (j+1) Qo Qo (W.frame _ _ _ y λb q o e=>?_) G (Nat.le_trans (mU _ _ _) Qo) (λj' f Q U Y=>?_) λh3 S H L=>?_
  ·exact(g.2 b (λz=>X (z▸q))).trans e
  ·obtain⟨u',O,⟨o',B,r'⟩⟩:=q j' f Q U Y;obtain⟨q1,q2⟩:=hw f (List.mem_of_getElem? U);exact⟨u',O,o',(g.2 f q2).trans (d f o' q1 B),r'⟩
  ·refine C h3 S ?_ λf o' q1 q2 B=>L f o' q1 q2 ((g.2 f q2).trans (d f o' q1 B));rw[List.drop_eq_getElem_cons t];exact H
theorem n5{E:Value->Shared->Prop}{s:Shared}{d:Addr}{a:Array Value}{c:Nat}{S:Array (Option Value)}{Q:Value->Shared->Prop}(I:A.handled=none)(J:s.heap.get? d=some {cls:=.type "list",dict:=none,data:=.seq a c,slots:=S})
  (bs:List Addr)(l:List (aT×Value))(R:l.length=a.size)(N:∀(i:Nat)(v:Value),a[i]?=some v->∃b:Addr,v=.ref b/\bs[i]?=some b)(hsz:a.size<=sizeLine)
  (H:∀(j:Nat)(b:Addr)(kv:aT×Value),bs[j]?=some b->l[j]?=some kv->∃u,fz kv.1 u=true/\IsTup s.heap b #[u,kv.2])(O:bs.length=l.length)
  (h:∀h' tk,h'.DictOf (aX prog w) s.heap.objs.size (merged [] l)->(∀b o,s.heap.get? b=some o->h'.get? b=some o)->Q (.ref s.heap.objs.size) {s with heap:=h',toks:=tk}):
  wpAny (model prog w) A (call (.type "dict") [.ref d]) Q E s:=by
 refine callType_codes (Q₁:=λx f=>x=.ref s.heap.objs.size/\f={s with heap:=s.heap.push {cls:=.type "dict",data:=.dict #[]}}) F.kt_called_dict (F.kt_typeCall_dict_1 _) F.entry_dict_init (kt_code_dict_new _ ⟨rfl,rfl⟩) ?_;rintro x f⟨rfl,rfl⟩;have p:(s.heap.push {cls:=.type "dict",data:=.dict #[]}).DictOf (aX prog w) s.heap.objs.size []:=Heap.DictOf.new s.heap;have C:=Heap.get?_push_of_some {cls:=.type "dict",data:=.dict #[]} J;refine⟨p.typeIs,F.args_dict_init_2 _ _,?_⟩;unfold Builtin.«dict.__init__»;refine wpAny_bind ?_;unfold Builtin.Dict.selfAndRest;refine wpAny_bind (wpAny_notOrdered_dict p.typeIs (show wpAny _ _ (pure (s.heap.objs.size,[Value.ref d])) _ _ _ from wpAny_pure (show wpAny _ _ (Builtin.Dict.updateFrom "dict.__init__" s.heap.objs.size (.ref d) [] .none) _ _ _ from ?_)));unfold Builtin.Dict.updateFrom;refine wpAny_bind (wpAny_typeOf (T:="list") ⟨_,C,rfl⟩ ?_);rw[if_pos Qd];refine wpAny_bind (wZ C (show A.in1.in1.handled=none from I) λh1 U k1=>?_);rw[if_pos Qr];refine wpAny_bind (wpAny_rule ?_);have k:=k1 _ _ C;refine wpAny_bind (wpAny_pyIter_list (items:=a) ⟨_,k,rfl,c,rfl⟩ ?_);have D:d<h1.objs.size:=Heap.lt_size k;have m:d<s.heap.objs.size:=Heap.lt_size J;have g:s.heap.objs.size<h1.objs.size:=by
  obtain⟨o,_,_,e,_⟩:=p;exact Heap.lt_size (k1 _ _ e)
 refine wpAny_pure ⟨plainId_quiet gO _,?_⟩;refine qC (A:=A.in1) (Walks.list (A:=A.in1.in1) (show A.in1.in1.handled=none from I) h1.objs.size d (Nat.ne_of_lt D) a) s.heap.objs.size (λz=>?_) bs l R N hsz (λb t=>?_) a.size 0 _ [] 0 rfl (Nat.zero_le _)
  ⟨⟨_,Heap.get?_push_size _ rfl,rfl,rfl⟩,⟨_,Heap.get?_push_of_some _ k,rfl,c,rfl⟩⟩ ?_ (Nat.le_refl _) (λj b kv L M=>?_) λh2 G y B=>?_
 ·rcases List.mem_cons.mp z with z|z
  ·exact absurd z (Nat.ne_of_lt g)
  ·exact absurd (List.mem_singleton.mp z).symm (Nat.ne_of_lt m)
 ·obtain⟨j,P,e⟩:=List.mem_iff_getElem.mp t;obtain⟨u,K,⟨o,q,_⟩⟩:=H j b (l[j]'(Qo)) (by rw[List.getElem?_eq_getElem P,e]) (List.getElem?_eq_getElem _);have n:=Heap.lt_size q;exact⟨λz=>absurd (List.mem_singleton.mp z) (Nat.ne_of_lt (Nat.lt_trans n g)),Nat.ne_of_lt n⟩
 ·obtain⟨o,es,ep,e,r⟩:=p;exact⟨o,es,ep,Heap.get?_push_of_some _ (k1 _ _ e),r⟩
 ·obtain⟨u,K,⟨o,q,r⟩⟩:=H j b kv L M;exact⟨u,K,o,Heap.get?_push_of_some _ (k1 _ _ (Heap.get?_push_of_some _ q)),r⟩
 ·refine⟨rfl,h h2 G y λb o e=>?_⟩;have n:=Heap.lt_size e;exact B b o (λz=>absurd (List.mem_singleton.mp z) (Nat.ne_of_lt (Nat.lt_trans n g))) (Nat.ne_of_lt n) (Heap.get?_push_of_some _ (k1 _ _ (Heap.get?_push_of_some _ e)))
end
section
variable{X:Cx}
theorem jC(L:X.calm=true):dL X (.type "dict") (λxs H Q=>∃(p:Addr)(ps:List (Addr×aT×V)),xs=[.ref p]/\bp X.K H p (ps.map λq=>V.ref q.1)/\(∀q∈ps,bj X.K H q.1 [kV q.2.1,q.2.2])/\∀l,H l=none->Q (.ref l) (upd H l (.dK (cz [] (ps.map (·.2)))))):=by
 intro pins s σ H xs us Q I r h;obtain⟨p,ps,rfl,O,m,q⟩:=h;obtain⟨u,rfl,ru⟩:=fe r;cases ru;obtain⟨B,J,⟨o,n,e,E,F,G⟩,S⟩:=I.list O;obtain⟨oc,od,Y,Z⟩:=o;simp only at E F G;subst E F G;have c:=J.length;rw[List.length_map]at c S;have mk:∀ps:List (Addr×aT×V),(∀q∈ps,bj X.K H q.1 [kV q.2.1,q.2.2])->∃d:List (aT×Value),KV (ps.map (·.2)) d/\∀(j:Nat)(b:Addr)(kv:aT×Value),(ps.map (·.1))[j]?=some b->d[j]?=some kv->∃u,fz kv.1 u=true/\IsTup s.heap b #[u,kv.2]:=by
  intro ps;induction ps with
  |nil=>intro _;exact⟨[],.nil,λj b kv e=>by simp at e⟩
  |cons a r T=>
   intro m;obtain⟨d,k1,k2⟩:=T λx R=>m x (List.mem_cons_of_mem _ R);obtain⟨its',D,z,_⟩:=I.tuple (m a List.mem_cons_self);obtain⟨u1,u2,rfl,r1,r2⟩:=ot D;refine⟨(a.2.1,u2)::d,.cons ⟨rfl,r2⟩ k1,λj b kv t y=>?_⟩;cases j with
   |zero=>
    simp at t y;subst t y;exact⟨u1,gb (P:=X.prog) (w:=X.w) r1,z⟩
   |succ j=>exact k2 j b kv (by simpa using t) (by simpa using y)
 obtain⟨d,k1,k2⟩:=mk ps m;have U:=k1.length;rw[List.length_map]at U;refine n5 (I.ok.hd L) e (ps.map (·.1)) d (by simp;omega) (λi v K=>?_) (by simp;omega) k2 (by simp;omega) λh' tk hd M=>?_
 ·have f:B[i]?=some v:=by simpa using K
  have hi:i<ps.length:=by rw[c];exact(List.getElem?_eq_some_iff.mp f).1
  obtain⟨u',k,C⟩:=J.get (i:=i) (x:=.ref ps[i].1) (by simp[hi]);rw[f]at k;cases k;cases C;exact⟨ps[i].1,rfl,by simp[hi]⟩
 ·have N:KV (cz [] (ps.map (·.2))) (merged [] d):=KV.merge k1 .nil;have A:(cz [] (ps.map (·.2))).length<=sizeLine:=by
   have:=d9 (ps.map (·.2)) [];rw[List.length_map]at this;simp at this;omega
  have g:(s.heap.objs.size==sysModules)=false:=by
   have W:=I.big;exact beq_eq_false_iff_ne.mpr (Nat.ne_of_gt W)
  exact⟨.ref s.heap.objs.size,_,I.laid (t':=tk) (o:=.dK (cz [] (ps.map (·.2)))) M (Nat.le_refl _) ⟨A,g,_,N,hd⟩,rfl,q _ (I.hok.fresh (Nat.le_refl _))⟩
theorem gm:∀(a acc:List (aT×V)),((acc++a).map (·.1)).Nodup->cz acc a=acc++a
 |[],acc,_=>by simp[cz]
 |p::r,acc,h=>by
  have hn:¬(acc.any λkv=>decide (kv.1=p.1))=true:=λz=>by
   obtain⟨kv,h1,h2⟩:=List.any_eq_true.mp z;rw[List.map_append,List.map_cons]at h;have:=(List.nodup_append.mp h).2.2 kv.1 (List.mem_map_of_mem h1) p.1 List.mem_cons_self;exact this (of_decide_eq_true h2)
  have e:b5 acc p.1 p.2=acc++[p]:=by
   unfold b5;rw[if_neg hn]
  show cz (b5 acc p.1 p.2) r=_;rw[e,gm r (acc++[p]) (by simpa using h)];simp
theorem lc:bootBuiltins "dict"=some (.type "dict"):=Qk
end
theorem o_(K:PySem.W.Frag):PySem.W.kitOne K (.type "str") (.type "list")=some false:=by first|rfl|kernel_rfl
theorem pi(K:PySem.W.Frag):PySem.W.kitOne K (.type "int") (.type "list")=some false:=by first|rfl|kernel_rfl
theorem pq(K:PySem.W.Frag):PySem.W.kitOne K (.type "bool") (.type "list")=some false:=by first|rfl|kernel_rfl
theorem pe(K:PySem.W.Frag):PySem.W.kitOne K (.type "NoneType") (.type "list")=some false:=by first|rfl|kernel_rfl
theorem yL(K:PySem.W.Frag):PySem.W.kitOne K (.type "tuple") (.type "list")=some false:=by first|rfl|kernel_rfl
theorem ph(K:PySem.W.Frag):PySem.W.kitOne K (.type "int") (.type "str")=some false:=by first|rfl|kernel_rfl
theorem pj(K:PySem.W.Frag):PySem.W.kitOne K (.type "bool") (.type "str")=some false:=by first|rfl|kernel_rfl
theorem pb(K:PySem.W.Frag):PySem.W.kitOne K (.type "NoneType") (.type "str")=some false:=by first|rfl|kernel_rfl
theorem yK(K:PySem.W.Frag):PySem.W.kitOne K (.type "tuple") (.type "str")=some false:=by first|rfl|kernel_rfl
theorem yM(K:PySem.W.Frag):PySem.W.kitOne K (.type "list") (.type "str")=some false:=by first|rfl|kernel_rfl
theorem zL:typeLookup (.type "list_reverseiterator") ("__len__":Str)=pure none:=am_miss_of_fast Qk
theorem vI:typeLookup (.type "list_reverseiterator") ("__length_hint__":Str)=pure (some (.builtin "list_reverseiterator.__length_hint__")):=by rw[typeLookup_type,builtinLookup_eq_fast];kernel_rfl
section
variable{prog:Program}{w:World}{A:Around}{E:Value->Shared->Prop}{s:Shared}{r:Addr}
theorem rR{Q:Bool->Shared->Prop}(c:s.TypeIs (.ref r) "list_reverseiterator")(h:Q false s):wpAny (model prog w) A (Builtin.List.listLengthHint (.ref r)) Q E s:=by
 unfold Builtin.List.listLengthHint;refine wpAny_bind (wpAny_specialOf c zL ?_);show wpAny _ _ (specialOf (.ref r) "__length_hint__">>=_) _ _ _;refine wpAny_bind (wpAny_specialOf c vI ?_);generalize hid:("list_reverseiterator.__length_hint__":String)=id0
 wp_delta
 rw[show splitId id0=some ("list_reverseiterator","__length_hint__")from by subst hid;decide+kernel];subst hid;refine wpAny_bind (wpAny_isInstance (T:="list_reverseiterator") (b:=true) c (by rw[isSubtype_type];kernel_rfl) ?_);refine wpAny_ite_split (λa=>absurd a Qd) (λ_=>?_);refine wpAny_ite_split (λ_=>?_) (λa=>absurd Qk a);refine wpAny_ite_split (λa=>absurd a Qk) (λ_=>?_);exact wpAny_pure h
theorem nu{R:Result->Shared->Prop}{d:Addr}{c:Array Value}(I:A.handled=none)(J:s.heap.IsList d c)(hi:s.heap.IsRevIter r d ((c.size:Int)-1))(B:d≠r)(S:Addr)(m:S≠r)(t:S≠d)(res:Value)(k:Nat)
  (G:s.heap.get? S=some {cls:=.type "list",data:=.seq #[] k})
  (F:∀h' tk g l,(∀b o,b≠S->b≠r->s.heap.get? b=some o->h'.get? b=some o)->h'.get? S=some {cls:=.type "list",dict:=none,data:=.seq g l,slots:=#[]}->ItemsOf (λi v=>c[c.size-1-i]?=some v) g c.size->R (.ok (.ret res)) {s with heap:=h',toks:=tk})(hn:c.size<=sizeLine):
  wpAny (model prog w) A.in1 (Builtin.List.listExtendWith (.ref S) (.ref r) res)
   (λp s'=>match p with|.done f=>R (.ok f) s'|.again l=>l.quiet=true/\codeAny (model prog w) A l R s') (λe s'=>R (.error e) s') s:=by
 have u:S∉ [r,d]:=λz=>by
  rcases List.mem_cons.mp z with z|z
  ·exact m z
  ·exact t (List.mem_singleton.mp z)
 have W:=Walks.listRev (prog:=prog) (w:=w) (A:=A.in1) I r d B c;have C:∀{h:Heap},h.IsRevIter r d ((c.size:Int)-1)->h.IsList d c->0<=c.size/\h.IsRevIter r d ((c.size:Int)-1-((0:Nat):Int))/\h.IsList d c:=λa b=>⟨Nat.zero_le _,by rw[show((c.size:Int)-1-((0:Nat):Int))=(c.size:Int)-1 by omega];exact a,b⟩;unfold Builtin.List.listExtendWith;refine wpAny_bind (wpAny_typeOf (T:="list_reverseiterator") hi.typeIs ?_);have h1:Builtin.List.listSameRef (.ref S) (.ref r)=false:=by simp[Builtin.List.listSameRef,m]
 have n1:(Value.type "list_reverseiterator"==Value.type "list")=false:=Qd;have n2:(Value.type "list_reverseiterator"==Value.type "tuple")=false:=Qd;simp only[h1,n1,n2,Bool.or_false,Bool.false_eq_true,if_false];refine wpAny_bind (wpAny_pyIter_revIter hi ?_);refine wpAny_bind (wpAny_holding (rR hi.typeIs ?_));refine wpAny_ite_split (λx=>absurd x Qk) (λ_=>wpAny_pure ⟨plainId_quiet PySem.F.plain_extend_loop _,?_⟩);refine codeAny_extend_loopS W.toS hn S u res c.size 0 _ #[] k rfl (Nat.zero_le _) (C hi J) G (ItemsOf.nil _) λs' g l D q n=>?_;rw[Moved.eq_with D];refine F s'.heap s'.toks g l (λb o H y e=>D.heap b o (λj=>?_) e) q n;rcases List.mem_cons.mp j with E|j
 ·exact H E
 ·exact y (List.mem_singleton.mp j)
theorem tu{Q:Value->Shared->Prop}{d:Addr}{c:Array Value}(B:A.handled=none)(t:s.heap.IsList d c)(hi:s.heap.IsRevIter r d ((c.size:Int)-1))(p:d≠r)(hn:c.size<=sizeLine)
  (z:∀h' tk a l,(∀b o,b≠r->s.heap.get? b=some o->h'.get? b=some o)->h'.get? s.heap.objs.size=some {cls:=.type "list",dict:=none,data:=.seq a l,slots:=#[]}->ItemsOf (λi v=>c[c.size-1-i]?=some v) a c.size->Q (.ref s.heap.objs.size) {s with heap:=h',toks:=tk}):
  wpAny (model prog w) A (call (.type "list") [.ref r]) Q E s:=by
 refine callType_codes (Q₁:=λx f=>x=.ref s.heap.objs.size/\f={s with heap:=s.heap.push {cls:=.type "list",data:=.seq #[]}}) PySem.F.called_list (PySem.F.typeCall_list_1 _) PySem.F.entry_list_init (code_list_new _ ⟨rfl,rfl⟩) λx f j=>?_;obtain⟨rfl,rfl⟩:=j;have k:(s.heap.push {cls:=.type "list",data:=.seq #[]}).get? s.heap.objs.size=some {cls:=.type "list",data:=.seq #[]}:=Heap.get?_push_size _ rfl;have u:r<s.heap.objs.size:=let⟨o,e,_⟩:=hi;Heap.lt_size e;have ls:d<s.heap.objs.size:=let⟨o,e,_⟩:=t;Heap.lt_size e;refine⟨⟨_,k,rfl⟩,PySem.F.args_list_init_2 _ _,?_⟩;show wpAny _ _ (do let q<-Builtin.List.listItems (.ref s.heap.objs.size);Builtin.List.listUpdate (.ref s.heap.objs.size) (λ_=>#[]);letGo q.toList.reverse;Builtin.List.listExtendWith (.ref s.heap.objs.size) (.ref r) .none) _ _ _;refine wpAny_bind ?_;unfold Builtin.List.listItems;refine wpAny_bind (wpAny_seqItems k rfl (wpAny_pure ?_));show wpAny _ _ (updateSeq s.heap.objs.size (λ_=>#[])>>=λ_=>letGo (#[]:Array Value).toList.reverse >>=λ_=>Builtin.List.listExtendWith (.ref s.heap.objs.size) (.ref r) .none) _ _ _;refine wpAny_bind (wpAny_updateSeq k rfl ?_);have y:=Heap.get?_update_self (Obj.mapSeq (λ_=>(#[]:Array Value))) k rfl;have g:∀b o,b≠s.heap.objs.size->s.heap.get? b=some o->((s.heap.push {cls:=.type "list",data:=.seq #[]}).update s.heap.objs.size (Obj.mapSeq (λ_=>(#[]:Array Value)))).get? b=some o:=
  λb o n e=>(Heap.get?_update_other _ _ (Ne.symm n)).trans (Heap.get?_push_of_some _ e)
 refine wpAny_bind (wpAny_letGo ?_);refine nu (A:=A.in1) B (t.at λo e=>g _ o (Nat.ne_of_lt ls) e) (hi.at λo e=>g _ o (Nat.ne_of_lt u) e) p s.heap.objs.size (Nat.ne_of_gt u) (Nat.ne_of_gt ls) .none _ y (λh' tk a l C m h=>?_) hn;exact⟨rfl,z h' tk a l (λb o n e=>C b o (Nat.ne_of_lt (Heap.lt_size e)) n (g b o (Nat.ne_of_lt (Heap.lt_size e)) e)) m h⟩
end
section
variable{X:Cx}
def qU(K:PySem.W.Frag)(te:TE):TE:=λσ H Q=>te σ H λx H1=>∃a xs,x=.ref a/\bp K H1 a xs/\∀l,H1 l=none->Q (.ref l) (upd H1 l (.lst xs.reverse))
theorem n8:bootBuiltins "reversed"=some (.type "reversed"):=Qk
theorem b_list':bootBuiltins "list"=some (.type "list"):=Qk
theorem nz{e:Expr}{te:TE}{p p2 pos c:Pos}(L:PE X e te)(K:X.calm=true)(F:Gl X "list")(m1:X.mg "list"=none)(G:Gl X "reversed")(m2:X.mg "reversed"=none)
  (h1:starEach [.Call (.Name "reversed" p2) [e] [] c] X.env=[(false,eval (.Call (.Name "reversed" p2) [e] [] c) X.env)]:=by rfl)(h2:starEach [e] X.env=[(false,eval e X.env)]:=by rfl):
  PE X (.Call (.Name "list" p) [.Call (.Name "reversed" p2) [e] [] c] [] pos) (qU X.K te):=by
 intro pins s σ H Q I h;refine wpAny_Call_Name_kw (h9 I F m1 b_list' ?_ Qd Qd);refine PyProof.Rows.callWith_type1 ?_ h1 rfl;rw[h1];show wpAny _ _ (spliced [(false,eval (.Call (.Name "reversed" p2) [e] [] c) X.env)]) _ _ s;refine Calls.spliced_cons (wpAny_Call_Name_kw (h9 I G m2 n8 ?_ Qd Qd));refine PyProof.Rows.callWith_type1 ?_ h2 rfl;rw[h2];show wpAny _ _ (spliced [(false,eval e X.env)]) _ _ s;refine Calls.spliced_cons (bx (L pins s σ H _ I h) λu j⟨x,H1,t,S,q1⟩=>Calls.spliced_nil ?_);obtain⟨a,xs,rfl,N,q⟩:=q1;cases S;obtain⟨f,D,w,P⟩:=t.list N;have g:=D.length;refine call_reversed_list w.isList (Calls.spliced_nil ?_);have R:a<j.heap.objs.size:=let⟨o,n,e,_⟩:=w;Heap.lt_size e;refine tu (s:={j with heap:=j.heap.push _}) (show X.A.handled=none from t.ok.hd K) (w.isList.push _) ⟨_,Heap.get?_push_size _ rfl,rfl,rfl⟩ (Nat.ne_of_lt R) (by simp;omega) λh' tk d E M J l=>?_;have kp:∀b o,j.heap.get? b=some o->h'.get? b=some o:=λb o z=>M b o (Nat.ne_of_lt (Heap.lt_size z)) (Heap.get?_push_of_some _ z);have U:(j.heap.push (revObj a ((f.toArray.size:Int)-1))).objs.size=j.heap.objs.size+1:=Heap.size_push ..;have m:j.heap.objs.size<=(j.heap.push (revObj a ((f.toArray.size:Int)-1))).objs.size:=by rw[U];exact Nat.le_succ _
 have T:bc xs.reverse d.toList:=fY (acc:=d.toList) xs.reverse (by simpa using l) (by simp[g]) (λi v y O B=>by
  have hi:i<xs.length:=by simpa using(List.getElem?_eq_some_iff.mp B).1
  rw[List.getElem?_reverse hi]at B;obtain⟨V,k,C⟩:=D.get B;have A:f[f.length-1-i]?=some v:=by simpa using O
  rw[g]at k;rw[A]at k;cases k;exact C)
 refine⟨.ref _,_,t.laid (t':=tk) (o:=.lst xs.reverse) kp m ⟨by simpa using P,d.toList,E,T,by simpa using J⟩,rfl,q _ (t.hok.fresh m)⟩
end
open AutoSeq1 (wpAny_loadPart')
section
variable{X:Cx}{pins:List (Addr×Obj)}{σ:St}{H:Hp}{s:Shared}
theorem Inv.freeze{d:Addr}{kvs:List (aT×V)}(I:Inv X pins σ H s)(hd:H d=some (.dK kvs)):∃o,s.heap.get? d=some o/\Inv X pins σ (upd H d (.frz o (.dK kvs))) s:=by
 have v:=I.hok d _ hd;obtain⟨z,y,vs,B,o,es,ep,e,c⟩:ObjOk X.prog X.w H s.heap d (.dK kvs):=v;refine⟨o,e,I.ok,I.os,I.bare,⟨I.base.keep,I.base.slot,λb ob q n A=>?_,I.base.there,λb xs q=>?_,λb ob u q=>?_,λb ps q=>?_⟩,I.loc,I.cell,?_,λx j q=>?_,λp w=>?_,λb u q=>?_,I.len⟩
 ·have g:=I.base.free b ob q n A;rw[ah (λf=>by rw[f,hd]at g;cases g)];exact g
 ·have a:=I.base.tups b xs q;rw[ah (λf=>by rw[f,hd]at a;cases a)];exact a
 ·have a:=I.base.frzs b ob u q;rw[ah (λf=>by rw[f,hd]at a;cases a)];exact a
 ·obtain⟨m,a⟩:=I.base.tbls b ps q;exact⟨m,by rw[ah (λf=>by rw[f,hd]at a;cases a)];exact a⟩
 ·have g:=I.free;rw[ah (λf=>by rw[f,hd]at g;cases g)];exact g
 ·have g:=I.freeC x j q;rw[ah (λf=>by rw[f,hd]at g;cases g)];exact g
 ·obtain⟨l,i,t⟩:=I.pin p w;exact⟨l,by rw[ah (λf=>by rw[f,hd]at i;cases i)];exact i,t⟩
 ·have st:∀{b:Addr}{u:HO},ObjOk X.prog X.w H s.heap b u->ObjOk X.prog X.w (upd H d (.frz o (.dK kvs))) s.heap b u:=λ{b u}h=>h.stay (λ_ _ _ q=>q)
   (λj a=>by rw[ah (λf=>by rw[f,hd]at a;cases a)];exact a) λj ys a=>by rw[ah (λf=>by rw[f,hd]at a;cases a)];exact a
  by_cases k:b=d
  ·subst k;rw[ac]at q;cases q;exact⟨e,st (I.hok b _ hd)⟩
  ·rw[ah k]at q;exact st (I.hok b u q)
end
def Ds(d:Addr)(o:Obj)(kvs:List (aT×V)):It:=
 ⟨λi H=>H d=some (.frz o (.dK kvs))/\i<kvs.length,λi H x H'=>H'=H/\∃kv,kvs[i]?=some kv/\x=kV kv.1,λi H=>H d=some (.frz o (.dK kvs))/\kvs.length<=i⟩
theorem pN{P:Program}{w:World}{K:PySem.W.Frag}{tg:Expr}{d it:Addr}{o:Obj}{kvs:List (aT×V)}{es:Array DictEntry}{ep:Nat}(hd:o.data=.dict es ep)(xa:d≠it):
  oh P w K tg (Ds d o kvs) [it] it (λi h=>h.IsKeyIter it d i kvs.length ep) where
 mem:=Qs
 obj:=λi h st b m=>by
  have e:b=it:=by simpa using m
  subst e;obtain⟨o,e,c,d⟩:=st;exact⟨o,e,λv z=>by rw[d]at z;cases z⟩
 keep:=λi h h' st k=>st.at λo e=>k it Qs o e
 item:=by
  intro X L hw J R i pins s σ H E I A st M;subst L hw J;obtain⟨t,hi⟩:=M;obtain⟨B,_⟩:=(show ObjOk X.prog X.w H s.heap d (.frz o (.dK kvs))from I.hok d _ t);obtain⟨z,hs,vs,g,dd⟩:=dJ I.hok (.inr ⟨o,t⟩);obtain⟨l,a⟩:=dd.dictAt;have j:l=ep:=by
   obtain⟨o',C,q,_,d',_⟩:=a;rw[B]at q;cases q;rw[hd]at d';cases d';rfl
  subst j;have y:=g.length;have N:i<vs.length:=Qo;obtain⟨⟨k,v⟩,S⟩:∃p,vs[i]?=some p:=⟨vs[i],List.getElem?_eq_getElem N⟩;obtain⟨kv,x⟩:∃p,kvs[i]?=some p:=⟨kvs[i],List.getElem?_eq_getElem hi⟩;obtain⟨f0,f1,f2,D,F,G⟩:=A it Qs;rw[y]at st;refine wpAny_pyNext_dict_item st a S λn h' u f O=>?_;have T:Inv X pins σ H {s with heap:=h'}:=I.turned (t':=s.toks) (λb o m e=>(O.2 b m).trans e) f0 f1 D F G;obtain⟨Q,_⟩:=g.getVal S x;have rk:aN (kV kv.1) n:=by
   rcases bB (show fz k n=true from u)with⟨i',t',rfl,rfl⟩|⟨x',t',rfl,rfl⟩
   ·rw[Q];exact⟨t',rfl⟩
   ·rw[Q];exact⟨t',rfl⟩
  obtain⟨oI,Y,U,W⟩:=id f;rw[<-y]at f;exact⟨n,rfl,j9 (s:={s with heap:=h'}) Y U W Qd ⟨kV kv.1,H,T,rk,⟨rfl,kv,x,rfl⟩,f,λb m=>(A b m).1⟩⟩
 done:=by
  intro X L hw J R i pins s σ H E I A st M;subst L hw J;obtain⟨t,hi⟩:=M;obtain⟨B,_⟩:=(show ObjOk X.prog X.w H s.heap d (.frz o (.dK kvs))from I.hok d _ t);obtain⟨z,hs,vs,g,dd⟩:=dJ I.hok (.inr ⟨o,t⟩);obtain⟨l,a⟩:=dd.dictAt;have j:l=ep:=by
   obtain⟨o',C,q,_,d',_⟩:=a;rw[B]at q;cases q;rw[hd]at d';cases d';rfl
  subst j;have y:=g.length;rw[y]at st;obtain⟨f0,f1,f2,D,F,G⟩:=A it Qs;exact wpAny_pyNext_dict_end (I.ok.hd R) st a (List.getElem?_eq_none Qo) λh' Z=>⟨rfl,I.turned (t':=s.toks) (λb o m e=>Z b o m e) f0 f1 D F G⟩
 self:=λ_ _ _ _ _ st h=>wpAny_pyIter_keyiter st h
def BG(tl:TE):TI:=λσ H R=>tl σ H λx H1=>∃d kvs,x=.ref d/\H1 d=some (.dK kvs)/\∀o,R (Ds d o kvs) (upd H1 d (.frz o (.dK kvs)))
theorem vU{X:Cx}{tg l:Expr}{tl:TE}(t:PE X l tl):PI X tg l (BG tl):=by
 intro pins s σ H R I h;refine bx (t pins s σ H _ I h) λv c⟨x,H1,j,w,q1⟩=>?_;obtain⟨d,kvs,rfl,hd,q⟩:=q1;cases w;obtain⟨z,u,vs,i,dd⟩:=dJ j.hok (.inl hd);obtain⟨ep,a⟩:=dd.dictAt;obtain⟨o,m,f⟩:=j.freeze hd;have n:=i.length;refine wpAny_pyIter_dict u a ?_;obtain⟨o',es,k,_,d',_⟩:=id a;rw[m]at k;cases k;have g:d≠c.heap.objs.size:=Nat.ne_of_lt (Heap.lt_size m);refine⟨c.heap.objs.size,[c.heap.objs.size],_,_,_,rfl,f.kept (t':=c.toks) λb ob e=>Heap.get?_push_of_some _ e,pN d' g,⟨_,Heap.get?_push_size _ rfl,rfl,?_⟩,λb p=>?_,q o⟩
 ·rw[<-n];rfl
 ·have e:b=c.heap.objs.size:=by simpa using p
  subst e;exact f.fpOk (Nat.le_refl _) (f.hok.fresh (Nat.le_refl _))
theorem qH{xs:Nat}{js:List Nat}{g:TG}{tt:TT}{te:TE}{σ:St}{Q:VK}{H:Hp}{d:Addr}{o:Obj}{kvs:List (aT×V)}(f:Nat->List V->St->Hp->Prop)(h0:f 0 [] (List.replicate xs none++fB σ js) H)(m:∀i acc a H',f i acc a H'->acc.length<=i)(q:kvs.length<=sizeLine)
  (k:∀i acc a H',i<=kvs.length->f i acc a H'->H' d=some (.frz o (.dK kvs)))
  (n:∀i kv acc a H',kvs[i]?=some kv->f i acc a H'->g (kV kv.1) a H' λc H2=>tt c H2 λb j=>if b=true then te c j λy l=>f (i+1) (acc++[y]) c l else f (i+1) acc c j)
  (hd:∀acc a H',f kvs.length acc a H'->∀p,H' p=none->Q (.ref p) (upd H' p (.lst acc))):dj xs js g tt te σ Q (Ds d o kvs) H:=
 eJ f h0 m q (λi acc a H' h p=>⟨k _ _ _ _ (Nat.le_of_lt h) p,h⟩) (λacc a H' p=>⟨k _ _ _ _ (Nat.le_refl _) p,Nat.le_refl _⟩)
  (λi x acc a H' H2 _ p y=>by obtain⟨rfl,kv,e,rfl⟩:=y;exact n i kv acc a _ e p) hd
section
variable{X:Cx}{pins:List (Addr×Obj)}{σ:St}{H:Hp}{s:Shared}{a:Addr}{kvs:List (aT×V)}{k:aT}{u r:Value}{v:V}{A:Around}{E:Value->Shared->Prop}
theorem As{Q:Value->Shared->Prop}(I:Inv X pins σ H s)(e:H a=some (.dK kvs))(n:aN (kV k) u)(m:aN v r)(l:kvs.length<sizeLine)
  (h1:∀x w' s',valV kvs k=some x->aN x w'->Inv X pins σ H s'->Q w' s')(h2:∀s',valV kvs k=none->Inv X pins σ (upd H a (.dK (b5 kvs k v))) s'->Q r s'):
  wpAny (model X.prog X.w) A (call (.builtin "dict.setdefault") [.ref a,u,r]) Q E s:=by
 obtain⟨z,hd,vs,c,dd⟩:=pC I.hok e;have h:(b5 kvs k v).length<=sizeLine:=by have:=dW kvs k v;omega
 refine call_meetsIn PySem.F.slot_dict_setdefault dd.typeIs PySem.F.entry_dict_setdefault (PySem.F.args_dict_setdefault_3 _ _ _) (kt_meets_setdefault (aX X.prog X.w) a (gb n) hd r)
  ⟨vs,dd,by rw[<-c.length];exact z,λw' hw=>?_,λhn h' d j=>?_⟩
 ·cases e2:valV kvs k with
  |none=>
   have:=RelO.none_of (o:=valueAt vs k) (by rw[<-e2];exact c.val k);rw[hw]at this;cases this
  |some x=>
   obtain⟨p,b,f⟩:=RelO.some_of (v:=x) (o:=valueAt vs k) (by rw[<-e2];exact c.val k);rw[hw]at b;cases b;exact h1 x w' _ e2 f (I.tok _)
 ·refine h2 _ ?_ ?_
  ·cases e2:valV kvs k with
   |none=>rfl
   |some x=>
    obtain⟨p,b,_⟩:=RelO.some_of (v:=x) (o:=valueAt vs k) (by rw[<-e2];exact c.val k);rw[hn]at b;cases b
  ·have g:∃q,h'.get? a=some q:=let⟨q,_,_,i,_⟩:=d;⟨q,i⟩;exact gQ I (by rw[e];exact True.intro) j g (jw h hd (c.put k m) d)
end
def zC(td ty tx:TE):TE:=λσ H Q=>td σ H λx H1=>∃a,x=.ref a/\Cr H1 a/\ty σ H1 λy H2=>tx σ H2 λz b=>∃kvs k,b a=some (.dK kvs)/\y=kV k/\kvs.length<sizeLine/\
 (∀v,valV kvs k=some v->Q v b)/\(valV kvs k=none->Q z (upd b a (.dK (b5 kvs k z))))
theorem si{X:Cx}{o e f:Expr}{apos cpos:Pos}{td ty tx:TE}(A:PE X o td)(t:PE X e ty)(v:PE X f tx)(m:M2 X o "setdefault" apos e f cpos):PE X (.Call (.Attribute o "setdefault" apos) [e,f] [] cpos) (zC td ty tx):=by
 intro pins s σ H Q I h;refine wpAny_Call_method m.base m.few m.line PySem.F.plainAttrs_dict PySem.F.slot_dict_setdefault PySem.F.type_dict_setdefault (bx (A pins s σ H _ I h) λu F⟨x,H1,g,D,a,ex,d,q1⟩=>?_);subst ex;obtain rfl:u=Value.ref a:=D;obtain⟨t1,t2,_⟩:=nW g d;refine⟨t1,t2,?_⟩;rw[m.trees];refine Calls.callWith_builtin rfl (Calls.evalArgs_plain (Calls.spliced_cons (bx (t pins F σ H1 _ g q1) λL G⟨y,H2,l,E,q2⟩=>
  Calls.spliced_cons (bx (v pins G σ H2 _ l q2) λK M⟨z,j,n,i,kvs,k,p,q,w,q3,B⟩=>Calls.spliced_nil ?_))))
 subst q;exact As n p E i w (λx w' J c C b=>⟨x,j,b,C,q3 x c⟩) λJ c b=>⟨z,_,b,i,B c⟩
end L2
namespace Net
open PySem L2
def cQ(i:Nat):Stmt:=PySem.Challenge.pw_netcourt_k92_books_refuse.main.body.getD i (.Pass ⟨0,0,0,0⟩)
abbrev s_NoPlace_init:Stmt:=bo (cQ 9) 0
abbrev s_is_made_of:Stmt:=cQ 15
abbrev s_is_name:Stmt:=cQ 16
abbrev s_is_whole:Stmt:=cQ 17
abbrev s_is_place:Stmt:=cQ 22
abbrev s_ties_by_name:Stmt:=cQ 25
abbrev s_is_tie:Stmt:=cQ 26
abbrev s_walk_stops:Stmt:=cQ 27
abbrev s_walk_end:Stmt:=cQ 28
abbrev s_steps_of:Stmt:=cQ 31
abbrev s_steps_to_places:Stmt:=cQ 32
abbrev s_steps_by_begin:Stmt:=cQ 33
abbrev s_members_of:Stmt:=cQ 37
abbrev s_within_paper:Stmt:=cQ 38
abbrev s_member_paper:Stmt:=cQ 39
abbrev s_look_plain:Stmt:=cQ 88
abbrev s_shows_way:Stmt:=cQ 89
abbrev s_find_plain:Stmt:=cQ 104
abbrev s_find_way:Stmt:=cQ 105
abbrev s_find_ring:Stmt:=cQ 109
abbrev s_lower_prices:Stmt:=cQ 111
abbrev s_is_lower:Stmt:=cQ 112
abbrev s_look_at_claim:Stmt:=cQ 118
abbrev s_refuse_strangers:Stmt:=cQ 119
abbrev s_untold_names:Stmt:=cQ 120
abbrev s_names_of_all:Stmt:=cQ 121
abbrev s_tells_variable:Stmt:=cQ 122
abbrev s_copied:Stmt:=cQ 124
abbrev s_look_claim:Stmt:=cQ 125
abbrev s_find_claim:Stmt:=cQ 134
abbrev s_refuse_no_name:Stmt:=cQ 142
abbrev s_refuse_no_width:Stmt:=cQ 143
abbrev s_refuse_more:Stmt:=cQ 144
abbrev s_Net_init:Stmt:=bo (cQ 145) 0
abbrev s_Net_place:Stmt:=bo (cQ 145) 1
abbrev s_Net_tie:Stmt:=bo (cQ 145) 2
abbrev s_Net_cut:Stmt:=bo (cQ 145) 3
abbrev s_Net_alter:Stmt:=bo (cQ 145) 4
abbrev s_Net_refuse_no_tie:Stmt:=bo (cQ 145) 5
abbrev s_Net_places:Stmt:=bo (cQ 145) 6
abbrev s_Net_ties:Stmt:=bo (cQ 145) 7
abbrev s_Net_twin:Stmt:=bo (cQ 145) 8
abbrev s_Book_init:Stmt:=bo (cQ 147) 0
abbrev s_Book_place:Stmt:=bo (cQ 147) 1
abbrev s_Book_tie:Stmt:=bo (cQ 147) 2
abbrev s_Book_cut:Stmt:=bo (cQ 147) 3
abbrev s_Book_alter:Stmt:=bo (cQ 147) 4
abbrev s_Book_mend_papers:Stmt:=bo (cQ 147) 5
abbrev s_Book_state:Stmt:=bo (cQ 147) 6
abbrev s_Book_forget:Stmt:=bo (cQ 147) 7
abbrev s_Book_refuse_no_claim:Stmt:=bo (cQ 147) 8
abbrev s_Book_net:Stmt:=bo (cQ 147) 9
abbrev s_Book_claims:Stmt:=bo (cQ 147) 10
abbrev s_Book_claim:Stmt:=bo (cQ 147) 11
abbrev s_Book_verdict:Stmt:=bo (cQ 147) 12
abbrev s_Book_paper:Stmt:=bo (cQ 147) 13
abbrev s_l_asked:Stmt:=cQ 149
abbrev s_l_class:Stmt:=cQ 150
abbrev s_l_wrong:Stmt:=cQ 151
abbrev s_l_look:Stmt:=cQ 152
abbrev s_law:Stmt:=cQ 153
section
variable{D:jT}{σ:St}{H:Hp}
theorem DD{t1 t2:TS}(h:∀a,t2=a->(aV t1 a) D σ H):(aV t1 t2) D σ H:=h _ rfl
theorem DC{t1 t2 t3:TS}(h:∀a b,t2=a->t3=b->(aV t1 (aV a b)) D σ H):(aV t1 (aV t2 t3)) D σ H:=h _ _ rfl rfl
theorem DB{t1 t2 t3 a:TS}(h:∀b c d,t2=b->t3=c->a=d->(aV t1 (aV b (aV c d))) D σ H):(aV t1 (aV t2 (aV t3 a))) D σ H:=h _ _ _ rfl rfl rfl
theorem DA{t1 t2 t3 a b:TS}(h:∀c d e f,t2=c->t3=d->a=e->b=f->(aV t1 (aV c (aV d (aV e f)))) D σ H):(aV t1 (aV t2 (aV t3 (aV a b)))) D σ H:=h _ _ _ _ rfl rfl rfl rfl
theorem Dz{t1 t2 t3 a b c:TS}(h:∀d e f g i,t2=d->t3=e->a=f->b=g->c=i->(aV t1 (aV d (aV e (aV f (aV g i))))) D σ H):(aV t1 (aV t2 (aV t3 (aV a (aV b c))))) D σ H:=h _ _ _ _ _ rfl rfl rfl rfl rfl
theorem Dy{t1 t2 t3 a b c d:TS}(h:∀e f g i j k,t2=e->t3=f->a=g->b=i->c=j->d=k->(aV t1 (aV e (aV f (aV g (aV i (aV j k)))))) D σ H):(aV t1 (aV t2 (aV t3 (aV a (aV b (aV c d)))))) D σ H:=h _ _ _ _ _ _ rfl rfl rfl rfl rfl rfl
theorem Dx{t1 t2 t3 a b c d e:TS}(h:∀f g i j k l m,t2=f->t3=g->a=i->b=j->c=k->d=l->e=m->(aV t1 (aV f (aV g (aV i (aV j (aV k (aV l m))))))) D σ H):(aV t1 (aV t2 (aV t3 (aV a (aV b (aV c (aV d e))))))) D σ H:=h _ _ _ _ _ _ _ rfl rfl rfl rfl rfl rfl rfl
theorem Dw{t1 t2 t3 a b c d e f:TS}(h:∀g i j k l m n o,t2=g->t3=i->a=j->b=k->c=l->d=m->e=n->f=o->(aV t1 (aV g (aV i (aV j (aV k (aV l (aV m (aV n o)))))))) D σ H):(aV t1 (aV t2 (aV t3 (aV a (aV b (aV c (aV d (aV e f)))))))) D σ H:=h _ _ _ _ _ _ _ _ rfl rfl rfl rfl rfl rfl rfl rfl
end
def AO:Str:="abcdefghijklmnopqrstuvwxyz"
def i6(c:Nat):Bool:=decide (97<=c)&&decide (c<=122)
def nameB(x:Str):Bool:=decide (1<=x.length)&&decide (x.length<=12)&&x.cps.toList.all i6
structure b7 where
 nm:Str
 a:Str
 b:Str
 w:Int
 c:Int
def b7.tup(r:b7):List V:=[.str r.nm,.str r.a,.str r.b,.int r.w,.int r.c]
structure NS where
 pl:List Str
 ti:List b7
def NS.nil:NS:=⟨[],[]⟩
def NS.nms(S:NS):List Str:=S.ti.map (·.nm)
def fW(ds a:Addr):List (Str×V):=cR "laid" (.ref a) (cR "standing" (.ref ds) [])
theorem rh:¬(("standing":Str)="laid"):=Qk
theorem dY(ds a:Addr):(fW ds a).lookup ("standing":Str)=some (.ref ds):=by
 unfold fW;rw[br,if_neg rh,br,if_pos rfl]
theorem dv(ds a:Addr):(fW ds a).lookup ("laid":Str)=some (.ref a):=by
 unfold fW;rw[br,if_pos rfl]
theorem bL(ds a:Addr){m:Str}(h1:¬m="laid")(h2:¬m="standing"):(fW ds a).lookup m=none:=by
 unfold fW;rw[br,if_neg h1,br,if_neg h2]
 all_goals rfl
def dt(S:NS):List (aT×V):=S.pl.map λx=>(Sum.inr x,V.bl true)
def bY(L:List (b7×Addr)):List (aT×V):=L.map λq=>(Sum.inr q.1.nm,V.ref q.2)
def Rows(H:Hp)(L:List (b7×Addr))(a:List b7):Prop:=L.map (·.1)=a/\∀q∈L,H q.2=some (.tup q.1.tup)
structure NetAt(C:Addr)(H:Hp)(p ds dl:Addr)(S:NS):Prop where
 ob:∃dx,H p=some (.ins C dx (fW ds dl))
 st:H ds=some (.dK (dt S))
 ld:∃L,Rows H L S.ti/\H dl=some (.dK (bY L))
 ne:ds≠dl
def oo(H H':Hp)(ds a:Addr):Prop:=∀b o,H b=some o->b≠ds->b≠a->H' b=some o
def qY:Sp:=λvs H Q _=>∃(x y:Str),vs=[.str x,.str y]/\x.length<=sizeLine/\∀H',Same H H'->Q (.bl (x.cps.toList.all λc=>decide (c∈y.cps.toList))) H'
def qX:Sp:=λvs H Q _=>∃(x:Str),vs=[.str x]/\x.length<=sizeLine/\∀H',Same H H'->Q (.bl (nameB x)) H'
def oy:Sp:=λvs H Q _=>∃(i:Int),vs=[.int i]/\Q (.bl true) H
def mX(C:Addr):Sp:=λvs H Q _=>∃(p dx:Addr),vs=[.ref p]/\H p=some (.ins C dx [])/\∀(ds a:Addr)(H':Hp),H ds=none->H a=none->NetAt C H' p ds a .nil->(∀b o,H b=some o->b≠p->H' b=some o)->Q .non H'
def cS(pl:List Str)(a b:Str):List Str:=pl++[a,b].filter λx=>!decide (x∈pl)
def b7.upd(r:b7)(w c:Int):b7:={r with w:=w,c:=c}
def lg(ti:List b7)(x:Str)(w c:Int):List b7:=ti.map λr=>if r.nm=x then r.upd w c else r
def em(C:Addr):Sp:=λvs H Q _=>∃(p ds a:Addr)(S:NS),vs=[.ref p]/\NetAt C H p ds a S/\∀l,H l=none->Q (.ref l) (upd H l (.lst (S.pl.map V.str)))
def iX(C:Addr):Sp:=λvs H Q _=>∃(p ds a:Addr)(S:NS),vs=[.ref p]/\NetAt C H p ds a S/\∀(l:Addr)(H':Hp)(L:List (b7×Addr)),H l=none->Same H H'->Rows H L S.ti->H' l=some (.lst (L.map λq=>V.ref q.2))->Q (.ref l) H'
structure de(K:PySem.W.Frag)(mg:Str->Option Value)(C:Addr):Prop where
 cl:ol K C
 nS:d_ K C "standing"
 nL:d_ K C "laid"
 mgC:mg "Net"=some (.ref C)
 all:mg "all"=none
 isi:mg "isinstance"=none
 str:mg "str"=none
 int:mg "int"=none
 bool:mg "bool"=none
 list:mg "list"=none
 tuple:mg "tuple"=none
 len:mg "len"=none
 range:mg "range"=none
 abs:mg "abs"=none
 small:io mg "SMALL_LETTERS" (.str AO)
 longest:io mg "LONGEST_NAME" (.int 12)
 mostP:io mg "MOST_PLACES" (.int 20)
 mostT:io mg "MOST_TIES" (.int 40)
 kIB:PySem.W.kitOne K (.type "int") (.type "bool")=some false
section
variable{P:Program}{w:World}{K:PySem.W.Frag}{mg:Str->Option Value}{base:Heap}{C:Addr}
theorem vC:ax ["text","signs"] ["text","signs"] (af s_is_made_of):=⟨rfl,rfl,rfl,Qk,rfl,Qk,Qk⟩
theorem wL{f:Addr}{fd:FuncData}(F:bZ K "is_made_of" "is_made_of" s_is_made_of f fd)(T:de K mg C):FnOk P w K mg base cY 1 f fd ["text","signs"] qY:=by
 refine F.ok vC (λvs H Q E h=>?_) (λg A outer s H vs Q E n h=>?_)
 ·obtain⟨x,y,rfl,_⟩:=h;rfl
 ·obtain⟨x,y,rfl,m,k⟩:=h;refine⟨_,ag (av (aI (uE rfl) Qr T.all Ca (aa (cM (N:=["sign","signs"]) (xs:=1) (js:=[1]) rfl (aQ rfl) (zS (pv 0))
   (λ_ _ _ _=>aO (i:=0) (show List.Nodup (["sign","signs"]:List Str)by decide+kernel) rfl (Or.inl rfl)) (λ_ _ _ _=>cF) (λ_ _ _ _=>dR p8 (pv 0) (pv 1) Qw)) ad))),?_⟩
  refine⟨_,rfl,x,rfl,uB (λi acc a H'=>H'=H/\acc=(x.cps.toList.take i).map (λc=>V.bl (decide (c∈y.cps.toList)))/\∃o,a=[o,some (.str y)])
   ⟨rfl,rfl,none,rfl⟩ (λi acc a H' h=>?_) m (λi c acc a H' j h=>?_) (λacc a H' h p l=>?_)⟩
  ·rw[h.2.1,List.length_map,List.length_take];omega
  ·obtain⟨rfl,rfl,o,rfl⟩:=h;refine⟨_,rfl,_,rfl,_,_,rfl,rfl,rfl,?_,_,rfl⟩;have d:x.cps.toList[i]?=some c:=by simpa using j
   rw[StrLaws.found_one,List.take_add_one,d,List.map_append];rfl
  ·obtain⟨rfl,rfl,o,rfl⟩:=h;refine⟨p,x.cps.toList.map (λc=>decide (c∈y.cps.toList)),rfl,bp.of ?_,?_⟩
   ·rw[ac,List.map_map,List.take_of_length_le Qs];rfl
   ·rw[List.all_map];exact k _ λb ob e=>by rw[ah (ai e l)];exact e
theorem xC(c:Nat):decide (c∈AO.cps.toList)=i6 c:=by
 have e:AO.cps.toList=(List.range 26).map (97+ ·):=Qk;rw[e];unfold i6;rw[Bool.eq_iff_iff];simp only[decide_eq_true_eq,Bool.and_eq_true,List.mem_map,List.mem_range];constructor
 ·rintro⟨k,h1,h2⟩;omega
 ·intro h;exact⟨c-97,Qo,Qo⟩
theorem vB:ax ["word"] ["word"] (af s_is_name):=⟨rfl,rfl,rfl,Qk,rfl,Qk,Qk⟩
theorem wJ{f:Addr}{fd:FuncData}(F:bZ K "is_name" "is_name" s_is_name f fd)(T:de K mg C)(b:cj P w K mg base 1 "is_made_of" ["text","signs"] qY):FnOk P w K mg base cY 2 f fd ["word"] qX:=by
 refine F.ok vB (λvs H Q E h=>?_) (λd A outer s H vs Q E g h=>?_)
 ·obtain⟨x,rfl,_⟩:=h;rfl
 ·obtain⟨x,rfl,a,k⟩:=h;refine⟨_,ae (aH (d6 (bb (aI aZ Qr T.isi b9 (aa (pv 0) (aa (dq T.str Qr pI) ad))))) (ag (av dS)) au)
   (ag (av (nA (sm yH yH ak (aI lb Qr T.len jG (aa (pv 0) ad)) (bR T.longest Qr))
    (je (aw b g Qr (aa (pv 0) (aa (bR T.small Qr) ad))))))),?_⟩
  refine⟨_,rfl,_,"str",_,true,rfl,.str x,rfl,true,rfl,aD ?_⟩;refine⟨_,rfl,x,rfl,a,_,_,rfl,rfl,_,rfl,?_⟩;refine tL (λh1=>⟨_,_,rfl,rfl,_,rfl,tL (λh2=>⟨_,rfl,x,AO,rfl,a,λH' s'=>?_⟩) (λh2=>?_)⟩) (λh1=>⟨_,rfl,aD ?_⟩)
  ·have e:nameB x=(x.cps.toList.all λc=>decide (c∈AO.cps.toList)):=by
    unfold nameB;rw[decide_eq_true (p:=1<=x.length) (by have:=of_decide_eq_true h1;omega),decide_eq_true (p:=x.length<=12) (by have:=of_decide_eq_true h2;omega)];simp only[xC,Bool.true_and]
   rw[<-e];exact k H' s'
  ·have e:nameB x=false:=by
    unfold nameB;rw[decide_eq_false (p:=x.length<=12) (λz=>h2 (decide_eq_true Qo))];simp
   have:=k H (Same.refl H);rw[e]at this;exact this
  ·have e:nameB x=false:=by
    unfold nameB;rw[decide_eq_false (p:=1<=x.length) (λz=>h1 (decide_eq_true Qo))];simp
   have:=k H (Same.refl H);rw[e]at this;exact this
theorem rj:ax ["thing"] ["thing"] (af s_is_whole):=⟨rfl,rfl,rfl,Qk,rfl,Qk,Qk⟩
theorem sI{f:Addr}{fd:FuncData}(F:bZ K "is_whole" "is_whole" s_is_whole f fd)(T:de K mg C):FnOk P w K mg base cY 1 f fd ["thing"] oy:=by
 refine F.ok rj (λvs H Q E h=>?_) (λa A outer s H vs Q E b h=>?_)
 ·obtain⟨x,rfl,_⟩:=h;rfl
 ·obtain⟨x,rfl,k⟩:=h;refine⟨_,ag (av (nA (aI aZ Qr T.isi b9 (aa (pv 0) (aa (dq T.int Qr yS) ad)))
   (je (zV (aI aZ Qr T.isi b9 (aa (pv 0) (aa (dq T.bool Qr Ax) ad))))))),?_⟩
  exact⟨_,rfl,_,"int",_,true,rfl,.int x,rfl,true,rfl,bC ⟨_,rfl,_,"bool",_,false,rfl,.int x,T.kIB,false,rfl,k⟩⟩
theorem nc:ax ["word"] ["word"] (af s_refuse_no_name):=⟨rfl,rfl,rfl,Qk,rfl,Qk,Qk⟩
theorem lM:ax ["width"] ["width"] (af s_refuse_no_width):=⟨rfl,rfl,rfl,Qk,rfl,Qk,Qk⟩
theorem ng:ax ["many","most"] ["many","most"] (af s_refuse_more):=⟨rfl,rfl,rfl,Qk,rfl,Qk,Qk⟩
theorem vD:ax ["self"] ["self"] (af s_Net_init):=⟨rfl,rfl,rfl,Qk,rfl,Qk,Qk⟩
theorem wN{f:Addr}{fd:FuncData}(F:bZ K "__init__" "Net.__init__" s_Net_init f fd)(T:de K mg C):FnOk P w K mg base cY 1 f fd ["self"] (mX C):=by
 refine F.ok vD (λvs H Q E h=>?_) (λm A outer s H vs Q E n h=>?_)
 ·obtain⟨p,dx,rfl,_⟩:=h;rfl
 ·obtain⟨p,dx,rfl,l,k⟩:=h;refine⟨_,ae (hJ (pv 0) fo rfl) (ag (hJ (pv 0) fo rfl)),?_⟩;intro ds d;have n1:p≠ds:=ai l d;refine⟨_,rfl,p,C,dx,[],rfl,(by rw[ah n1];exact l),T.cl,T.nS,(by show 0<1000;decide),?_⟩;intro g a;have n2:p≠g:=by
   intro e;subst e;rw[ac]at a;cases a
  have i:ds≠g:=by
   intro e;subst e;rw[ah n1.symm,ac]at a;cases a
  have c:H g=none:=by
   rw[ah n2.symm,ah i.symm]at a;exact a
  refine⟨_,rfl,p,C,dx,_,rfl,(by rw[ah n2,ac]),T.cl,T.nL,(by show 1<1000;decide),?_⟩;refine k ds g _ d c ⟨⟨dx,ac⟩,?_,⟨[],⟨rfl,λq h=>nomatch h⟩,?_⟩,i⟩ λb o e j=>?_
  ·rw[ah n1.symm,ah i,ah n1.symm,ac];rfl
  ·rw[ah n2.symm,ac];rfl
  ·rw[ah j,ah (ai e c),ah j,ah (ai e d)];exact e
theorem ky{S:NS}{x:Str}(h:x∉S.pl):valV (dt S) (Sum.inr x:aT)=none:=by
 cases e:valV (dt S) (Sum.inr x:aT)with
 |none=>rfl
 |some v=>
  have:=iD e;unfold dt at this;rw[List.map_map]at this;obtain⟨y,b,a⟩:=List.mem_map.mp this;exact absurd (Sum.inr.inj a▸b) h
theorem uT{S:NS}{x:Str}(h:x∈S.pl):(valV (dt S) (Sum.inr x:aT)).isSome=true:=by
 cases e:valV (dt S) (Sum.inr x:aT)with
 |some v=>rfl
 |none=>
  refine absurd ?_ (lq e);unfold dt;rw[List.map_map];exact List.mem_map.mpr ⟨x,h,rfl⟩
theorem x_(S:NS)(x:Str):(valV (dt S) (Sum.inr x:aT)).isSome=decide (x∈S.pl):=by
 by_cases h:x∈S.pl
 ·rw[uT h,decide_eq_true h]
 ·rw[ky h,decide_eq_false h];rfl
theorem o0{L:List (b7×Addr)}{a:List b7}(h:L.map (·.1)=a):(bY L).map (·.1)=a.map λr=>(Sum.inr r.nm:aT):=by
 rw[<-h];unfold bY;rw[List.map_map,List.map_map];rfl
theorem kO{L:List (b7×Addr)}{S:NS}{x:Str}(b:L.map (·.1)=S.ti)(h:x∉S.nms):valV (bY L) (Sum.inr x:aT)=none:=by
 cases e:valV (bY L) (Sum.inr x:aT)with
 |none=>rfl
 |some v=>
  have:=iD e;rw[o0 b]at this;obtain⟨y,c,a⟩:=List.mem_map.mp this;exact absurd (List.mem_map.mpr ⟨y,c,Sum.inr.inj a⟩) h
theorem iK{L:List (b7×Addr)}{S:NS}{x:Str}(f:L.map (·.1)=S.ti)(h:x∈S.nms):∃q∈L,q.1.nm=x/\valV (bY L) (Sum.inr x:aT)=some (.ref q.2):=by
 have g:∃q∈L,q.1.nm=x:=by
  unfold NS.nms at h;rw[<-f,List.map_map]at h;exact List.mem_map.mp h
 have a:∀L:List (b7×Addr),(∃q∈L,q.1.nm=x)->∃q∈L,q.1.nm=x/\valV (bY L) (Sum.inr x:aT)=some (.ref q.2):=by
  intro L;induction L with
  |nil=>rintro⟨q,h,_⟩;exact nomatch h
  |cons q r i=>
   intro h;by_cases e:q.1.nm=x
   ·exact⟨q,List.mem_cons_self,e,bH (congrArg Sum.inr e)⟩
   ·obtain⟨j,h1,h2⟩:=h;rcases List.mem_cons.mp h1 with rfl|h1
    ·exact absurd h2 e
    ·obtain⟨q2,b,c,d⟩:=i ⟨j,h1,h2⟩;refine⟨q2,List.mem_cons_of_mem _ b,c,?_⟩;show valV (_::bY r) _=_;rw[bI (λz=>e (Sum.inr.inj z))];exact d
 exact a L g
theorem rp:ax ["self","name"] ["self","name"] (af s_Net_place):=⟨rfl,rfl,rfl,Qk,rfl,Qk,Qk⟩
theorem pR:ax ["self","name"] ["self","name"] (af s_Net_refuse_no_tie):=⟨rfl,rfl,rfl,Qk,rfl,Qk,Qk⟩
theorem zJ:ax ["self","name"] ["self","name"] (af s_Net_cut):=⟨rfl,rfl,rfl,Qk,rfl,Qk,Qk⟩
theorem pS:ax ["self"] ["self"] (af s_Net_places):=⟨rfl,rfl,rfl,Qk,rfl,Qk,Qk⟩
theorem p_{f:Addr}{fd:FuncData}(F:bZ K "places" "Net.places" s_Net_places f fd)(T:de K mg C):FnOk P w K mg base cY 1 f fd ["self"] (em C):=by
 refine F.ok pS (λvs H Q E h=>?_) (λa A outer s H vs Q E d h=>?_)
 ·obtain⟨p,ds,b,S,rfl,_⟩:=h;rfl
 ·obtain⟨p,ds,b,S,rfl,⟨⟨dx,h1⟩,h2,_,_⟩,k⟩:=h;refine⟨_,ag (av (b6 (gp rfl) Qr T.list eS (aa (aY (pv 0) rfl) ad))),?_⟩;refine⟨_,rfl,p,C,dx,_,_,rfl,h1,T.cl,T.nS,dY _ _,ds,dt S,rfl,.inl h2,λl c=>?_⟩;have e:(dt S).map (λkv=>kV kv.1)=S.pl.map V.str:=by
   unfold dt;rw[List.map_map];rfl
  rw[e];exact k l c
theorem u_:ax ["self"] ["self"] (af s_Net_ties):=⟨rfl,rfl,rfl,Qk,rfl,Qk,Qk⟩
theorem wG{f:Addr}{fd:FuncData}(F:bZ K "ties" "Net.ties" s_Net_ties f fd)(T:de K mg C):FnOk P w K mg base cY 1 f fd ["self"] (iX C):=by
 refine F.ok u_ (λvs H Q E h=>?_) (λj A outer s H vs Q E n h=>?_)
 ·obtain⟨p,ds,b,S,rfl,_⟩:=h;rfl
 ·obtain⟨p,ds,b,S,rfl,⟨⟨dx,h1⟩,h2,⟨L,R,c⟩,_⟩,k⟩:=h;refine⟨_,ag (av (b6 (n6 rfl) Qr T.list eS (aa (zX PySem.F.plainAttrs_dict PySem.F.slot_dict_values PySem.F.type_dict_values qo (aY (pv 0) rfl)) ad))),?_⟩;refine⟨_,rfl,p,C,dx,_,_,rfl,h1,T.cl,T.nL,dv _ _,.inr (.inr (.inl ⟨rfl,.inl ⟨_,c⟩⟩)),b,bY L,rfl,rfl,.inl c,λv i=>?_⟩;have m:b≠v:=ai c i;refine⟨v,b,bY L,rfl,ac,.inl (by rw[ah m];exact c),λl a=>?_⟩;have g:l≠v:=by
   intro e;subst e;rw[ac]at a;cases a
  have d:H l=none:=by rw[ah g]at a;exact a
  refine k l _ L d ((Same.new i).upd a) R ?_;rw[ac];unfold bY;rw[List.map_map];rfl
end
section
variable{P:Program}{w:World}{K:PySem.W.Frag}{mg:Str->Option Value}{base:Heap}{C:Addr}
theorem fK{f:Type}[DecidableEq f]:∀{l m:List f},l.Nodup->(∀x∈l,x∈m)->l.length<=m.length
 |[],_,_,_=>Nat.zero_le _
 |x::r,m,h,b=>by
  obtain⟨h1,h2⟩:=List.nodup_cons.mp h;have c:x∈m:=b x List.mem_cons_self;have:=fK (l:=r) (m:=m.erase x) h2 λy d=>by
   have a:y≠x:=λe=>h1 (e▸d);exact(List.mem_erase_of_ne a).mpr (b y (List.mem_cons_of_mem _ d))
  rw[List.length_erase_of_mem c]at this;have g:0<m.length:=List.length_pos_of_mem c;rw[List.length_cons];omega
end
inductive li where
 |place(n:Str)
 |tie(r:b7)
 |cut(n:Str)
 |alter(n:Str)(w c:Int)
def NS.did(S:NS):li->NS
 |.place n=>⟨S.pl++[n],S.ti⟩
 |.tie r=>⟨cS S.pl r.a r.b,S.ti++[r]⟩
 |.cut n=>⟨S.pl,S.ti.filter λr=>!decide (r.nm=n)⟩
 |.alter n w c=>⟨S.pl,lg S.ti n w c⟩
theorem ji{l:List Str}{x:Str}(h:l.Nodup)(a:x∉l):(l++[x]).Nodup:=L2.iJ h a
theorem Rows.same{H H':Hp}{L:List (b7×Addr)}{a:List b7}(s:Same H H')(h:Rows H L a):Rows H' L a:=⟨h.1,λq b=>s _ _ (h.2 q b)⟩
theorem NetAt.same{C:Addr}{H H':Hp}{p ds a:Addr}{S:NS}(s:Same H H')(h:NetAt C H p ds a S):NetAt C H' p ds a S:=
 ⟨let⟨dx,e⟩:=h.ob;⟨dx,s _ _ e⟩,s _ _ h.st,let⟨L,r,e⟩:=h.ld;⟨L,r.same s,s _ _ e⟩,h.ne⟩
theorem bN{x:Str}(h:nameB x=true):PyData.strOk x=true:=by
 unfold nameB at h;simp only[Bool.and_eq_true,List.all_eq_true]at h;unfold PyData.strOk;rw[Array.all_eq_true'];intro c a;have:=h.2 c (by simpa using a);unfold i6 at this;simp at this;simp;omega
def Bh(r:b7):PyData:=.tuple [.str r.nm,.str r.a,.str r.b,.int r.w,.int r.c]
theorem vJ{K:PySem.W.Frag}{H:Hp}{l:Addr}{ws:List Str}(h:H l=some (.lst (ws.map V.str)))(ok:∀x∈ws,nameB x=true):mM K H 2 (.ref l) (.list (ws.map PyData.str)):=by
 refine .inl ⟨_,_,bp.of h,rfl,?_⟩;clear h;induction ws with
 |nil=>exact .nil
 |cons x r b=>exact .cons ⟨bN (ok x List.mem_cons_self),rfl⟩ (b λy a=>ok y (List.mem_cons_of_mem _ a))
theorem zM{K:PySem.W.Frag}{H:Hp}{l:Addr}(h:H l=some (.lst [])):mM K H 2 (.ref l) (.list []):=.inl ⟨_,_,bp.of h,rfl,.nil⟩
theorem xK(ds:List PyData):PyData.eqv (.list ds) (.list [])=ds.isEmpty:=by
 cases ds<;>rfl
theorem fN(x:Str)(ns:List Str):jn (.str x) (ns.map V.str)=decide (x∈ns):=by
 unfold jn;rw[List.any_map,Bool.eq_iff_iff];simp only[List.any_eq_true,Function.comp,decide_eq_true_eq,xL];constructor
 ·rintro⟨y,h1,h2⟩;have:=eq_of_beq h2;exact this▸h1
 ·intro h;exact⟨x,h,Qs⟩
theorem dz(ns:List Str):(ns.map V.str).all gK=true:=by
 rw[List.all_map];exact List.all_eq_true.mpr λ_ _=>rfl
theorem Ah:∀{a:List b7},(a.map (·.nm)).Nodup->∀{r b:b7},r∈a->b∈a->r.nm=b.nm->r=b:=by
 intro a;induction a with
 |nil=>intro _ r b h;exact nomatch h
 |cons x a i=>
  intro hn r b h h' e;obtain⟨h1,h2⟩:=List.nodup_cons.mp (show(x.nm::a.map (·.nm)).Nodup from hn);rcases List.mem_cons.mp h with g|f
  ·rcases List.mem_cons.mp h' with d|c
   ·rw[g,d]
   ·exact absurd (show x.nm∈a.map (·.nm)from List.mem_map.mpr ⟨b,c,by rw[<-e,g]⟩) h1
  ·rcases List.mem_cons.mp h' with d|c
   ·exact absurd (show x.nm∈a.map (·.nm)from List.mem_map.mpr ⟨r,f,by rw[e,d]⟩) h1
   ·exact i h2 f c e
section
variable{P:Program}{w:World}{K:PySem.W.Frag}{mg:Str->Option Value}{base:Heap}{C:Addr}
theorem lP:ax ["self","name","width","cost","row"] ["self","name","width","cost"] (af s_Net_alter):=⟨rfl,rfl,rfl,Qk,rfl,Qk,Qk⟩
abbrev Dj:List Str:=["self","name","a","b","width","cost","word","new_places","end"]
theorem kB:ax Dj ["self","name","a","b","width","cost"] (af s_Net_tie):=⟨rfl,rfl,rfl,Qk,rfl,Qk,Qk⟩
end
end Net
namespace L2
open PySem PySem.Spec PyProof.Rows
end L2
namespace Net
open PySem L2
end Net
namespace L2
open PySem PySem.Spec PyProof.Rows
section
variable{X:Cx}
theorem jD:dL X (.type "dict") (λxs H Q=>∃d kvs,xs=[.ref d]/\Rd H d (.dK kvs)/\∀l,H l=none->Q (.ref l) (upd H l (.dK kvs))):=by
 intro pins s σ H xs us Q I r h;obtain⟨d,kvs,rfl,hd,q⟩:=h;obtain⟨u,rfl,i⟩:=fe r;cases i;obtain⟨z,g,vs,a,dd⟩:=dJ I.hok hd;have e:=a.length;refine kt_call_dict g dd (by rw[<-e];exact z) λh' f j=>?_;have kp:∀b o,s.heap.get? b=some o->h'.get? b=some o:=λb o c=>(j.2 b (Nat.ne_of_lt (Heap.lt_size c))).trans (Heap.get?_push_of_some _ c);exact⟨.ref s.heap.objs.size,_,I.laid (t':=s.toks) (o:=.dK kvs) kp (Nat.le_refl _) (jw z (beq_eq_false_iff_ne.mpr (Ne.symm (Nat.ne_of_lt I.big))) a f),rfl,q _ (I.hok.fresh (Nat.le_refl _))⟩
end
end L2
namespace Net
open PySem L2
theorem fP(ds a:Addr):fW ds a=[(("standing":Str),V.ref ds),(("laid":Str),V.ref a)]:=by
 unfold fW;simp only[cR,if_neg rh]
theorem mw(ds a l:Addr):cR "standing" (.ref l) (fW ds a)=fW l a:=by
 rw[fP,fP];simp[cR]
theorem my(ds a l:Addr):cR "laid" (.ref l) (fW ds a)=fW ds l:=by
 rw[fP,fP];simp[cR,rh]
def qV(C:Addr):Sp:=λvs H Q _=>∃(p ds c:Addr)(S:NS),vs=[.ref p]/\NetAt C H p ds c S/\
 ∀(x b a:Addr)(H':Hp),Same H H'->H x=none->H b=none->H a=none->NetAt C H' x b a S->Q (.ref x) H'
section
variable{P:Program}{w:World}{K:PySem.W.Frag}{mg:Str->Option Value}{base:Heap}{C:Addr}
theorem oH:ax ["self","other"] ["self"] (af s_Net_twin):=⟨rfl,rfl,rfl,Qk,rfl,Qk,Qk⟩
theorem wF{f:Addr}{fd:FuncData}(F:bZ K "twin" "Net.twin" s_Net_twin f fd)(T:de K mg C)(td:mg "dict"=none)(J:om P w K mg base 1 C ["self"] (mX C)):FnOk P w K mg base cY 3 f fd ["self"] (qV C):=by
 refine F.ok oH (λvs H Q E h=>?_) (λI A outer s H vs Q E W h=>?_)
 ·obtain⟨p,ds,u,S,rfl,_⟩:=h;rfl
 ·obtain⟨p,ds,u,S,rfl,N,q⟩:=h;refine⟨_,ae (aF (i:=1) oH.nd rfl (Or.inl rfl) (hZ J W Qr T.mgC))
   (ae (hJ (pv 1) (b6 jD Qr td lc (aa (aY (pv 0) rfl) ad)) rfl)
   (ae (hJ (pv 1) (b6 jD Qr td lc (aa (aY (pv 0) rfl) ad)) rfl)
   (ag (av (pv 1))))),?_⟩
  intro x dx nx t X;refine⟨x,dx,rfl,ac,λM g H1 U O G o=>⟨rfl,?_⟩⟩;have Y:Same H (upd (upd H dx (.own x)) x (.ins C dx [])):=λb ob e=>by
   rw[ah (ai e nx),ah (ai e t)];exact e
  have m:Same H H1:=λb ob e=>o b ob (Y b ob e) (ai e nx);obtain⟨⟨dp,h1⟩,h2,⟨L,R,V⟩,ne⟩:=N;obtain⟨⟨a,z⟩,_,_,_⟩:=G;refine⟨_,rfl,p,C,dp,_,_,rfl,m _ _ h1,T.cl,T.nS,dY _ _,ds,dt S,rfl,.inl (m _ _ h2),λl1 j=>?_⟩;have d:x≠l1:=ai z j;refine⟨_,rfl,x,C,a,_,rfl,(by rw[ah d];exact z),T.cl,T.nS,(by rw[fP];show 2<1000;decide),?_⟩;rw[mw];have f1:H l1=none:=m.free j;generalize hH3:upd (upd H1 l1 (.dK (dt S))) x (.ins C a (fW l1 g))=H3;have n:Same H H3:=λb ob e=>by
   rw[<-hH3,ah (ai e nx),ah (ai e f1)];exact m b ob e
  have D:H3 x=some (.ins C a (fW l1 g)):=by rw[<-hH3];exact ac
  have y:H3 l1=some (.dK (dt S)):=by rw[<-hH3,ah d.symm];exact ac
  refine⟨_,rfl,p,C,dp,_,_,rfl,n _ _ h1,T.cl,T.nL,dv _ _,u,bY L,rfl,.inl (n _ _ V),λl2 c=>?_⟩;have l:x≠l2:=ai D c;have k:l1≠l2:=ai y c;refine⟨_,rfl,x,C,a,_,rfl,(by rw[ah l];exact D),T.cl,T.nL,(by rw[fP];show 2<1000;decide),?_⟩;rw[my];have v:H l2=none:=n.free c;have B:Same H (upd (upd H3 l2 (.dK (bY L))) x (.ins C a (fW l1 l2))):=λb ob e=>by
   rw[ah (ai e nx),ah (ai e v)];exact n b ob e
  refine⟨_,rfl,q x l1 l2 _ B nx f1 v ⟨⟨a,ac⟩,?_,⟨L,R.same B,?_⟩,k⟩⟩
  ·rw[ah d.symm,ah k];exact y
  ·rw[ah l.symm,ac]
end
def PD(H:Hp):Nat->V->PyData->Prop
 |_,.non,d=>d=.none
 |_,.bl b,d=>d=.bool b
 |_,.int i,d=>d=.int i
 |_,.str x,d=>PyData.strOk x=true/\d=.str x
 |n+1,.ref a,d=>(∃xs ds,H a=some (.lst xs)/\d=.list ds/\Paired (PD H n) xs ds)\/∃xs ds,H a=some (.tup xs)/\d=.tuple ds/\Paired (PD H n) xs ds
 |_,_,_=>False
theorem eG{d f:Type}{F:d->f->Prop}{a:d}:∀{xs:List d}{ys:List f}{i:Nat},Paired F xs ys->xs[i]?=some a->∃b,ys[i]?=some b/\F a b
 |_,_,i,.nil,h=>by simp at h
 |_,_,0,.cons (a:=c) (b:=b) h _,e=>by
  have g:c=a:=by simpa using e
  subst g;exact⟨b,rfl,h⟩
 |_,_,i+1,.cons _ t,e=>by
  obtain⟨b,h1,h2⟩:=eG (i:=i) t (by simpa using e);exact⟨b,by simpa using h1,h2⟩
theorem PD.same{H H':Hp}(s:Same H H'):∀{n:Nat}{v:V}{d:PyData},PD H n v d->PD H' n v d
 |0,v,d,h=>by cases v<;>first|exact h|exact h.elim
 |n+1,v,d,h=>by
  cases v<;>first|exact h|exact h.elim|skip
  rcases h with⟨xs,ds,e,a,p⟩|⟨xs,ds,e,a,p⟩
  ·exact .inl ⟨xs,ds,s _ _ e,a,L2.Paired.mapP p λ_ _ h=>PD.same s h⟩
  ·exact .inr ⟨xs,ds,s _ _ e,a,L2.Paired.mapP p λ_ _ h=>PD.same s h⟩
theorem PD.rd{K:PySem.W.Frag}{H:Hp}:∀{n:Nat}{v:V}{d:PyData},PD H n v d->mM K H n v d
 |0,v,d,h=>by cases v<;>first|exact h|exact h.elim
 |n+1,v,d,h=>by
  cases v<;>first|exact h|exact h.elim|skip
  rcases h with⟨xs,ds,e,a,p⟩|⟨xs,ds,e,a,p⟩
  ·exact .inl ⟨xs,ds,bp.of e,a,L2.Paired.mapP p λ_ _ h=>PD.rd h⟩
  ·exact .inr ⟨xs,ds,bj.of e,a,L2.Paired.mapP p λ_ _ h=>PD.rd h⟩
def yQ:PyData->Bool
 |.list _=>true
 |_=>false
def yP:PyData->Bool
 |.str _=>true
 |_=>false
theorem PD.ty{K:PySem.W.Frag}{H:Hp}{n:Nat}{v:V}{d:PyData}(h:PD H n v d):∃t,gq K H v t/\PySem.W.kitOne K t (.type "list")=some (yQ d)/\PySem.W.kitOne K t (.type "str")=some (yP d):=by
 cases n with
 |zero=>
  cases v<;>try exact h.elim
  ·cases(show d=_ from h);exact⟨_,.non,pe K,pb K⟩
  ·cases(show d=_ from h);exact⟨_,.bl _,pq K,pj K⟩
  ·cases(show d=_ from h);exact⟨_,.int _,pi K,ph K⟩
  ·cases h.2;exact⟨_,.str _,o_ K,rfl⟩
 |succ n=>
  cases v<;>try exact h.elim
  ·cases(show d=_ from h);exact⟨_,.non,pe K,pb K⟩
  ·cases(show d=_ from h);exact⟨_,.bl _,pq K,pj K⟩
  ·cases(show d=_ from h);exact⟨_,.int _,pi K,ph K⟩
  ·cases h.2;exact⟨_,.str _,o_ K,rfl⟩
  ·rcases h with⟨xs,ds,e,rfl,p⟩|⟨xs,ds,e,rfl,p⟩
   ·exact⟨_,.lst e,rfl,yM K⟩
   ·exact⟨_,.tup e,yL K,yK K⟩
theorem PD.str_of{H:Hp}{n:Nat}{v:V}{d:PyData}(h:PD H n v d)(e:yP d=true):∃x,v=.str x/\d=.str x:=by
 cases n with
 |zero=>cases v<;>first|exact h.elim|(cases(show d=_ from h);cases e)|exact⟨_,rfl,h.2⟩
 |succ n=>
  cases v<;>first|exact h.elim|(cases(show d=_ from h);cases e)|exact⟨_,rfl,h.2⟩|skip
  rcases h with⟨xs,ds,a,rfl,p⟩|⟨xs,ds,a,rfl,p⟩<;>cases e
theorem PD.list_of{H:Hp}{n:Nat}{v:V}{ds:List PyData}(h:PD H n v (.list ds)):∃m a xs,n=m+1/\v=.ref a/\H a=some (.lst xs)/\Paired (PD H m) xs ds:=by
 cases n with
 |zero=>cases v<;>first|exact h.elim|cases(show PyData.list ds=_ from h)|cases h.2
 |succ n=>
  cases v<;>first|exact h.elim|cases(show PyData.list ds=_ from h)|cases h.2|skip
  rcases h with⟨xs,b,d,c,p⟩|⟨xs,b,d,c,p⟩
  ·cases c;exact⟨n,_,xs,rfl,rfl,d,p⟩
  ·cases c
def dF(ti:List b7)(x:Str):Option b7:=ti.find? λr=>decide (r.nm=x)
def dD(ti:List b7)(here:Str):PyData->Option Str
 |.str x=>(dF ti x).bind λr=>if r.a=here then some r.b else none
 |_=>none
def stD(ti:List b7):Str->List PyData->Option (List Str)
 |here,[]=>some [here]
 |here,d::ds=>(dD ti here d).bind λh=>(stD ti h ds).map (here:: ·)
def kx(ti:List b7)(a:Str):PyData->Option (List Str)
 |.list ds=>stD ti a ds
 |_=>none
def eY(ti:List b7)(a:Str)(d:PyData):Option Str:=(kx ti a d).bind List.getLast?
theorem jt(ti:List b7)(a:Str)(e:List PyData):eY ti a (.list e)=(stD ti a e).bind List.getLast?:=rfl
def ss:Option Str->V
 |none=>.non
 |some x=>.str x
theorem mV{ti:List b7}:∀{ds:List PyData}{a:Str}{l:List Str},stD ti a ds=some l->l≠ []
 |[],a,l,h=>by cases h;exact List.cons_ne_nil _ _
 |d::ds,a,l,h=>by
  unfold stD at h;cases e:dD ti a d with
  |none=>rw[e]at h;cases h
  |some x=>
   rw[e]at h;cases e2:stD ti x ds with
   |none=>rw[Option.bind_some,e2]at h;cases h
   |some b=>rw[Option.bind_some,e2]at h;cases h;exact List.cons_ne_nil _ _
theorem lD{ti:List b7}(r:List PyData):∀{ds:List PyData}{a:Str},stD ti a ds=none->stD ti a (ds++r)=none
 |[],a,h=>by cases h
 |d::ds,a,h=>by
  show(dD ti a d).bind (λx=>(stD ti x (ds++r)).map (a:: ·))=none;unfold stD at h;cases e:dD ti a d with
  |none=>rfl
  |some x=>
   rw[e,Option.bind_some]at h;rw[Option.bind_some];have h':stD ti x ds=none:=by
    cases e2:stD ti x ds with
    |none=>rfl
    |some l=>rw[e2]at h;cases h
   rw[lD r h'];rfl
theorem iU{ti:List b7}{d:PyData}{here:Str}:∀{ds:List PyData}{a:Str}{l:List Str},stD ti a ds=some l->l.getLast?=some here->stD ti a (ds++[d])=(dD ti here d).map λx=>l++[x]
 |[],a,l,h,e=>by
  cases h;have b:a=here:=by simpa using e
  subst b;show(dD ti a d).bind (λx=>(stD ti x []).map (a:: ·))=_;cases dD ti a d<;>rfl
 |c::ds,a,l,h,e=>by
  unfold stD at h;show(dD ti a c).bind (λx=>(stD ti x (ds++[d])).map (a:: ·))=_;cases e1:dD ti a c with
  |none=>rw[e1]at h;cases h
  |some x=>
   rw[e1,Option.bind_some]at h;rw[Option.bind_some];cases e2:stD ti x ds with
   |none=>rw[e2]at h;cases h
   |some g=>
    rw[e2]at h;cases h;have f:=mV e2;have b:g.getLast?=some here:=by
     rw[<-e];cases g with
     |nil=>exact absurd rfl f
     |cons y ys=>simp[List.getLast?_cons_cons]
    rw[iU e2 b];cases dD ti here d<;>rfl
theorem lC{ti:List b7}{ds:List PyData}{a here:Str}{l:List Str}{i:Nat}{d:PyData}(h:stD ti a (ds.take i)=some l)(e:l.getLast?=some here)(hd:ds[i]?=some d):stD ti a (ds.take (i+1))=(dD ti here d).map λx=>l++[x]:=by
 rw[List.take_add_one,hd];exact iU h e
theorem iT{ti:List b7}{ds:List PyData}{a here:Str}{l:List Str}{i:Nat}{d:PyData}(h:stD ti a (ds.take i)=some l)(e:l.getLast?=some here)(hd:ds[i]?=some d)(b:dD ti here d=none):stD ti a ds=none:=by
 have h1:=lC h e hd;rw[b]at h1;have h2:=lD (ds.drop (i+1)) (show stD ti a (ds.take (i+1))=none from h1);rw[List.take_append_drop]at h2;exact h2
theorem lR{ti:List b7}{L:List (b7×Addr)}(h:L.map (·.1)=ti)(x:Str):(dF ti x=none/\valV (bY L) (Sum.inr x:aT)=none)\/∃q∈L,q.1.nm=x/\dF ti x=some q.1/\valV (bY L) (Sum.inr x:aT)=some (.ref q.2):=by
 subst h;induction L with
 |nil=>exact .inl ⟨rfl,rfl⟩
 |cons q r d=>
  by_cases e:q.1.nm=x
  ·refine .inr ⟨q,List.mem_cons_self,e,?_,bH (congrArg Sum.inr e)⟩;show List.find? _ (q.1::_)=_;rw[List.find?_cons_of_pos (by simpa using e)]
  ·have h1:dF ((q::r).map (·.1)) x=dF (r.map (·.1)) x:=by
    show List.find? _ (q.1::_)=_;rw[List.find?_cons_of_neg (by simpa using e)];rfl
   have h2:valV (bY (q::r)) (Sum.inr x:aT)=valV (bY r) (Sum.inr x:aT):=bI (λz=>e (Sum.inr.inj z));rw[h1,h2];rcases d with z|⟨f,a,b,c⟩
   ·exact .inl z
   ·exact .inr ⟨f,List.mem_cons_of_mem _ a,b,c⟩
structure AA(mg:Str->Option Value):Prop where
 dict:mg "dict"=none
 sum:mg "sum"=none
structure oi(C:Addr)(H:Hp)(p ds dl:Addr)(S:NS):Prop where
 net:NetAt C H p ds dl S
 nd:S.nms.Nodup
 few:S.ti.length<=40
theorem oi.same{C:Addr}{H H':Hp}{p ds a:Addr}{S:NS}(s:Same H H')(h:oi C H p ds a S):oi C H' p ds a S:=⟨h.net.same s,h.nd,h.few⟩
def jX(C:Addr):Sp:=λvs H Q _=>∃(p ds b:Addr)(S:NS)(a:Str),vs=[.ref p,.str a]/\NetAt C H p ds b S/\∀H',Same H H'->Q (.bl (decide (a∈S.pl))) H'
def lH(C:Addr):Sp:=λvs H Q _=>∃(p ds a:Addr)(S:NS),vs=[.ref p]/\oi C H p ds a S/\∀(d:Addr)(H':Hp)(L:List (b7×Addr)),H d=none->Same H H'->Rows H L S.ti->H' d=some (.dK (bY L))->Q (.ref d) H'
def oz(C:Addr):Sp:=λvs H Q _=>∃(p ds b:Addr)(S:NS)(a:Str)(x:V)(n:Nat)(d:PyData),vs=[.ref p,.str a,x]/\oi C H p ds b S/\a∈S.pl/\PD H n x d/\(∀e,d=.list e->e.length<=1000)/\
 (∀H',Same H H'->kx S.ti a d=none->Q .non H')/\∀(l:List Str)(st:Addr)(H':Hp),Same H H'->H st=none->H' st=some (.lst (l.map V.str))->kx S.ti a d=some l->Q (.ref st) H'
def yB(C:Addr):Sp:=λvs H Q _=>∃(p ds b:Addr)(S:NS)(a:Str)(x:V)(n:Nat)(d:PyData),vs=[.ref p,.str a,x]/\oi C H p ds b S/\a∈S.pl/\PD H n x d/\(∀e,d=.list e->e.length<=1000)/\
 ∀H',Same H H'->Q (ss (eY S.ti a d)) H'
section
variable{P:Program}{w:World}{K:PySem.W.Frag}{mg:Str->Option Value}{base:Heap}{C:Addr}
theorem ni:ax ["net","paper"] ["net","paper"] (af s_is_place):=⟨rfl,rfl,rfl,Qk,rfl,Qk,Qk⟩
theorem nK{f:Addr}{fd:FuncData}(F:bZ K "is_place" "is_place" s_is_place f fd)(T:de K mg C)(m1:dN P w K mg base 1 C "places" ["self"] (em C)):FnOk P w K mg base cY 2 f fd ["net","paper"] (jX C):=by
 refine F.ok ni (λvs H Q E h=>?_) (λc A outer s H vs Q E e h=>?_)
 ·obtain⟨p,ds,b,S,a,rfl,_⟩:=h;rfl
 ·obtain⟨p,ds,b,S,a,rfl,N,q⟩:=h;obtain⟨dx,h1⟩:=N.ob;refine⟨_,ag (av (dR fJ (pv 1) (bn (pv 0) T.cl m1 e) Qw)),?_⟩;refine⟨_,rfl,_,rfl,p,dx,_,rfl,h1,bL ds b Qk Qk,p,ds,b,S,rfl,N,λl d=>?_⟩;refine⟨l,S.pl.map V.str,rfl,.inl (bp.of ac),rfl,dz _,?_⟩;show Q (.bl (jn (.str a) (S.pl.map V.str))) _;rw[fN];exact q _ (Same.new d)
theorem pV:ax ["net"] ["net"] (af s_ties_by_name):=⟨rfl,rfl,rfl,Qk,rfl,Qk,Qk⟩
theorem qf{f:Addr}{fd:FuncData}(F:bZ K "ties_by_name" "ties_by_name" s_ties_by_name f fd)(T:de K mg C)(M:AA mg)(m2:dN P w K mg base 1 C "ties" ["self"] (iX C)):FnOk P w K mg base cY 2 f fd ["net"] (lH C):=by
 refine F.ok pV (λvs H Q E h=>?_) (λO A outer s H vs Q E U h=>?_)
 ·obtain⟨p,ds,u,S,rfl,_⟩:=h;rfl
 ·obtain⟨p,ds,u,S,rfl,⟨N,nd,few⟩,q⟩:=h;obtain⟨dx,h1⟩:=N.ob;refine⟨_,ag (av (b6 (jC rfl) Qr M.dict lc (aa (cM (N:=["row"]) (xs:=1) (js:=[]) rfl (aQ rfl) (bD (bn (pv 0) T.cl m2 U))
   (λ_ _ _ _=>aO (i:=0) (show List.Nodup (["row"]:List Str)by decide+kernel) rfl (Or.inl rfl)) (λ_ _ _ _=>cF)
   (λ_ _ _ _=>aK (aa (ay (dX K Qr) (pv 0) ak (λ_ _=>Qr)) (aa (pv 0) ad)))) ad))),?_⟩
  refine⟨_,rfl,p,dx,_,rfl,h1,bL ds u Qk Qk,p,ds,u,S,rfl,N,λl H1 L X I m D=>?_⟩;refine⟨l,rfl,⟨_,bp.of D⟩,cP (K:=K) (ys:=L.map λq=>V.ref q.2) (λi acc c H'=>∃ps:List (Addr×aT×V),acc=ps.map (λq=>V.ref q.1)/\ps.map (·.2)=bY (L.take i)/\(∀q∈ps,H' q.1=some (.tup [kV q.2.1,q.2.2]))/\Same H1 H'/\∃o,c=[o])
   ⟨[],rfl,rfl,λ_ h=>(nomatch h),Same.refl H1,none,rfl⟩ (λi acc c H' h=>?_) ?_ (λi acc c H' _ h=>?_) (λi x acc c H' k h=>?_) (λacc c H' h W B=>?_)⟩
  ·obtain⟨ps,rfl,e,_⟩:=h;have:=congrArg List.length e;unfold bY at this;rw[List.length_map,List.length_map,List.length_take]at this;rw[List.length_map];omega
  ·have e:L.length=S.ti.length:=by rw[<-m.1,List.length_map]
   rw[List.length_map,e];exact Nat.le_trans few Qd
  ·obtain⟨_,_,_,_,j,_⟩:=h;exact bp.of (j _ _ D)
  ·obtain⟨ps,rfl,e,y,j,o,rfl⟩:=h;rw[List.getElem?_map]at k;cases eq:L[i]? with
   |none=>rw[eq]at k;cases k
   |some n=>
    rw[eq]at k;cases k;have R:=j _ _ (I _ _ (m.2 n (List.mem_of_getElem? eq)));refine⟨_,rfl,_,_,_,.str n.1.nm,rfl,rfl,bj.of R,rfl,_,rfl,(by show 2<=sizeLine;decide),λt G=>?_⟩;refine⟨ps++[(t,Sum.inr n.1.nm,V.ref n.2)],by rw[List.map_append];rfl,?_,λz g=>?_,j.upd G,_,rfl⟩
    ·rw[List.map_append,e,List.take_add_one,eq];unfold bY;rw[List.map_append];rfl
    ·rcases List.mem_append.mp g with g|g
     ·exact(Same.new G) _ _ (y z g)
     ·cases List.mem_singleton.mp g;exact ac
  ·obtain⟨ps,rfl,e,y,j,o,rfl⟩:=h;rw[List.length_map,List.take_length]at e;have J:=Same.new (o:=.lst (ps.map λq=>V.ref q.1)) B;refine⟨W,ps,rfl,bp.of ac,λz g=>bj.of (J _ _ (y z g)),λd hd=>?_⟩;have en:cz [] (ps.map (·.2))=bY L:=by
    rw[e,gm _ _ ?_,List.nil_append];rw[List.nil_append,o0 m.1];have:=nd;unfold NS.nms at this;rw[show(λr:b7=>(Sum.inr r.nm:aT))=Sum.inr∘(λr:b7=>r.nm)from rfl,<-List.map_map];exact List.Pairwise.map _ (λa b v z=>v (Sum.inr.inj z)) this
   rw[en];have sa:=I.trans (j.trans J);exact q d _ L (sa.free hd) (sa.upd hd) m ac
def ib(ti:List b7):PyData->Bool
 |.str y=>(dF ti y).isSome
 |_=>false
def oC:Sp:=λvs H Q _=>∃(dd:Addr)(v:V)(n:Nat)(d:PyData)(L:List (b7×Addr))(ti:List b7),vs=[.ref dd,v]/\H dd=some (.dK (bY L))/\L.map (·.1)=ti/\PD H n v d/\Q (.bl (ib ti d)) H
theorem rC:ax ["rows","paper"] ["rows","paper"] (af s_is_tie):=⟨rfl,rfl,rfl,Qk,rfl,Qk,Qk⟩
theorem sR{f:Addr}{fd:FuncData}(F:bZ K "is_tie" "is_tie" s_is_tie f fd)(T:de K mg C):FnOk P w K mg base cY 1 f fd ["rows","paper"] oC:=by
 refine F.ok rC (λvs H Q E h=>?_) (λl A outer s H vs Q E o h=>?_)
 ·obtain⟨dd,v,n,d,L,ti,rfl,_⟩:=h;rfl
 ·obtain⟨dd,v,n,d,L,ti,rfl,a,m,j,q⟩:=h;have p:=cU o;refine⟨_,ag (av (nA (aI aZ Qr T.isi b9 (aa (pv 1) (aa (dq T.str Qr pI) ad))) (je (sk (jf p (pv 1) (pv 0)))))),?_⟩;obtain⟨t2,i,_,b⟩:=PD.ty (K:=K) j;refine⟨_,rfl,v,"str",t2,yP d,rfl,i,b,_,rfl,?_⟩;cases es:yP d with
  |false=>
   refine aD ?_;have e:ib ti d=false:=by cases d<;>first|rfl|cases es
   rw[e]at q;exact q
  |true=>
   obtain⟨y,rfl,rfl⟩:=j.str_of es;refine bC ⟨_,rfl,_,rfl,dd,_,rfl,cD.k (k:=Sum.inr y) a,?_⟩;have e:ib ti (.str y)=(valV (bY L) (Sum.inr y:aT)).isSome:=by
    show(dF ti y).isSome=_;rcases lR m y with⟨c,g⟩|⟨t,_,_,c,g⟩
    ·rw[c,g];rfl
    ·rw[c,g];rfl
   rw[e]at q;exact q
abbrev AF:List Str:=["net","a","paper","rows","stops","name"]
theorem gz:ax AF ["net","a","paper"] (af s_walk_stops):=⟨rfl,rfl,rfl,Qk,rfl,Qk,Qk⟩
theorem sK{f:Addr}{fd:FuncData}(F:bZ K "walk_stops" "walk_stops" s_walk_stops f fd)(T:de K mg C)(c1:cj P w K mg base 2 "is_place" ["net","paper"] (jX C))(c2:cj P w K mg base 2 "ties_by_name" ["net"] (lH C))(c3:cj P w K mg base 1 "is_tie" ["rows","paper"] oC):
  FnOk P w K mg base cY 3 f fd ["net","a","paper"] (oz C):=by
 refine F.ok gz (λvs H Q E h=>?_) (λxl A outer s H vs Q E hr h=>?_)
 ·obtain⟨p,ds,dl,S,a,x,n,d,rfl,_⟩:=h;rfl
 ·obtain⟨p,ds,dl,S,a,x,n,d,rfl,N,ha,hx,xb,q1,q2⟩:=h;have hu:=cU hr;refine⟨_,ae (aH (PW.pt (gE (d6 (bb (aI aZ Qr T.isi b9 (aa (pv 2) (aa (dq T.list Qr eS) ad)))))
    (eN (d6 (bb (aw c1 hr Qr (aa (pv 0) (aa (pv 1) ad)))))))) (ag (av gk)) au)
   (ae (aF (i:=3) gz.nd rfl (Or.inl rfl) (aw c2 hr Qr (aa (pv 0) ad)))
   (ae (aF (i:=4) gz.nd rfl (Or.inl rfl) (aR (aa (pv 1) ad)))
   (ae (cO PassesOwn.never rfl (bD (pv 2)) (aO (i:=5) gz.nd rfl (Or.inl rfl))
    (ae (aH (PW.pt (gE (d6 (bb (aw c3 (hr.mono Qd) Qr (aa (pv 3) (aa (pv 5) ad)))))
     (eN (aE Br (ay az (cG hu (pv 3) (pv 5) (λ_ _=>rfl)) ak (λ_ _=>Qr)) (ay bF (pv 4) (lX iR ak) (λ_ _=>Qr)) (aM _))))) (ag (av gk)) au)
    (ag (aG (dH PySem.F.plainAttrs_list PySem.F.slot_list_append PySem.F.type_list_append bW (pv 4) (aa (ay az (cG hu (pv 3) (pv 5) (λ_ _=>rfl)) ak (λ_ _=>Qr)) ad))))))
   (ag (av (pv 4)))))),?_⟩
  obtain⟨t,ty,kl,ks⟩:=PD.ty (K:=K) hx;refine⟨_,rfl,x,"list",t,yQ d,rfl,ty,kl,_,rfl,?_⟩;cases el:yQ d with
  |false=>
   refine bC (bC ?_);refine q1 H (Same.refl H) ?_;cases d<;>first|rfl|cases el
  |true=>
   refine aD ?_;obtain⟨e,rfl⟩:∃e,d=.list e:=by cases d<;>first|exact⟨_,rfl⟩|cases el
   obtain⟨m,ap,xs,rfl,rfl,xa,pr⟩:=hx.list_of;have xn:=xb e rfl;have xi:xs.length=e.length:=Paired.length pr;refine⟨_,rfl,_,rfl,p,ds,dl,S,a,rfl,N.net,λH1 s1=>⟨_,rfl,?_⟩⟩;rw[decide_eq_true ha];refine aD ?_;refine⟨_,rfl,p,ds,dl,S,rfl,N.same s1,λdd H2 L xm xg RL Y=>?_⟩;have s2:=s1.trans xg;refine⟨_,rfl,(by show 1<=sizeLine;decide),λst u=>?_⟩;have s3:Same H (upd H2 st (.lst [.str a])):=s2.upd u;have J:H st=none:=s2.free u;have xf:dd≠st:=ai Y u;have W:=RL.same xg;have X:Rows (upd H2 st (.lst [.str a])) L S.ti:=W.same (Same.new u);have G:(upd H2 st (.lst [.str a])) dd=some (.dK (bY L)):=by rw[ah xf];exact Y
   have I:(upd H2 st (.lst [.str a])) st=some (.lst ([a].map V.str)):=ac;have xj:∀q∈L,q.2≠st:=λq hq=>ai (W.2 q hq) u;generalize upd H2 st (.lst [.str a])=H3 at s3 X G I;refine⟨_,rfl,ap,rfl,⟨_,bp.of (s3 _ _ xa)⟩,cC (K:=K) (a:=ap) (xs:=xs) (λi D H'=>∃(l:List Str)(here:Str)(v:Option V),D=[some (.ref p),some (.str a),some (.ref ap),some (.ref dd),some (.ref st),v]/\Same H H'/\H' dd=some (.dK (bY L))/\Rows H' L S.ti/\H' st=some (.lst (l.map V.str))/\
     stD S.ti a (e.take i)=some l/\l.getLast?=some here/\l.length=i+1)
    ⟨[a],a,none,rfl,s3,G,X,I,rfl,rfl,rfl⟩ (λi D H' _ h=>?_) (λi v D H' hv h=>?_) (λD H' h=>?_)⟩
   ·obtain⟨_,_,_,_,B,_⟩:=h;exact bp.of (B _ _ xa)
   ·obtain⟨l,here,v0,rfl,B,c,j,g,M,U,xc⟩:=h;have hi:i<xs.length:=(List.getElem?_eq_some_iff.mp hv).1;have xh:i<e.length:=Qo;have R:e[i]?=some e[i]:=List.getElem?_eq_getElem xh;have pd:PD H m v e[i]:=by
     obtain⟨b,hb,hp⟩:=eG pr hv;rw[R]at hb;cases hb;exact hp
    generalize e[i]=di at R pd;have xk:=pd.same B;refine⟨_,rfl,_,rfl,dd,v,m,di,L,S.ti,rfl,c,j.1,xk,_,rfl,?_⟩;cases es:yP di with
    |false=>
     have Z:ib S.ti di=false:=by cases di<;>first|rfl|cases es
     rw[Z];refine bC (bC ?_);refine q1 H' B (iT M U R ?_);cases di<;>first|rfl|cases es
    |true=>
     obtain⟨y,rfl,rfl⟩:=pd.str_of es;rcases lR j.1 y with⟨r1,r2⟩|⟨o,xd,hn,r1,r2⟩
     ·have Z:ib S.ti (.str y)=false:=by show(dF S.ti y).isSome=_;rw[r1];rfl
      rw[Z];refine bC (bC ?_);refine q1 H' B (iT M U R ?_);show(dF S.ti y).bind _=none;rw[r1];rfl
     ·have Z:ib S.ti (.str y)=true:=by show(dF S.ti y).isSome=_;rw[r1];rfl
      rw[Z];refine aD ?_;have O:ko (l.map V.str) (-1)=some (V.str here):=by
       obtain⟨ys,rfl⟩:∃ys,l=ys++[here]:=List.getLast?_eq_some_iff.mp U;rw[List.map_append];exact jH _ _
      refine⟨_,rfl,_,rfl,dd,.ref o.2,rfl,by rw[<-r2];exact cD.k (k:=Sum.inr y) c,o.2,_,_,.str o.1.a,rfl,rfl,bj.of (j.2 o xd),rfl,_,rfl,_,rfl,st,_,_,_,rfl,rfl,bp.of g,O,rfl,_,rfl,?_⟩;have sd:dD S.ti here (.str y)=if o.1.a=here then some o.1.b else none:=by
       show(dF S.ti y).bind _=_;rw[r1];rfl
      by_cases eh:o.1.a=here
      ·have e0:(!decide (V.str o.1.a=V.str here))=false:=by rw[eh];simp
       refine aJ e0 ?_;rw[if_pos eh]at sd;refine⟨_,rfl,.inl ⟨rfl,_,bp.of g⟩,_,rfl,_,rfl,dd,.ref o.2,rfl,by rw[<-r2];exact cD.k (k:=Sum.inr y) c,o.2,_,_,.str o.1.b,rfl,rfl,bj.of (j.2 o xd),rfl,st,_,_,rfl,rfl,g,aW (by rw[List.length_map];omega),?_⟩;have xe:∀b ob,H b=some ob->b≠st:=λb ob z=>ai z J;refine⟨l++[o.1.b],o.1.b,_,rfl,λb ob z=>?_,?_,⟨j.1,λz hz=>?_⟩,?_,?_,Qs,by simp[xc]⟩
       ·rw[ah (xe b ob z)];exact B _ _ z
       ·rw[ah xf];exact c
       ·rw[ah (xj z hz)];exact j.2 z hz
       ·rw[ac,List.map_append];rfl
       ·rw[lC M U R,sd];rfl
      ·have e0:(!decide (V.str o.1.a=V.str here))=true:=by simp[eh]
       refine cB e0 ?_;rw[if_neg eh]at sd;exact q1 H' B (iT M U R sd)
   ·obtain⟨l,here,v0,rfl,B,c,j,g,M,U,xc⟩:=h;rw[xi,List.take_length]at M;exact⟨_,rfl,q2 l st H' B J g M⟩
theorem rE:ax ["net","a","paper","stops"] ["net","a","paper"] (af s_walk_end):=⟨rfl,rfl,rfl,Qk,rfl,Qk,Qk⟩
theorem Af{f:Addr}{fd:FuncData}(F:bZ K "walk_end" "walk_end" s_walk_end f fd)(T:de K mg C)(o:cj P w K mg base 3 "walk_stops" ["net","a","paper"] (oz C)):FnOk P w K mg base cY 4 f fd ["net","a","paper"] (yB C):=by
 refine F.ok rE (λvs H Q E h=>?_) (λt A outer s H vs Q E v h=>?_)
 ·obtain⟨p,ds,m,S,a,x,n,d,rfl,_⟩:=h;rfl
 ·obtain⟨p,ds,m,S,a,x,n,d,rfl,N,u,z,c,q⟩:=h;refine⟨_,ae (aF (i:=3) rE.nd rfl (Or.inl rfl) (aw o v Qr (aa (pv 0) (aa (pv 1) (aa (pv 2) ad)))))
   (ag (av (fm (da (nB (pv 3))) gk (ay bF (pv 3) (lX iR ak) (λ_ _=>Qr))))),?_⟩
  refine⟨_,rfl,_,rfl,_,rfl,p,ds,m,S,a,x,n,d,rfl,N,u,z,c,λH1 k hn=>?_,λl st H1 k y g j=>?_⟩
  ·refine⟨_,rfl,_,rfl,bC ?_⟩;have:=q H1 k;unfold eY at this;rw[hn]at this;exact this
  ·refine⟨_,rfl,_,rfl,aD ?_⟩;have e:l≠ []:=by
    cases d<;>first|exact mV j|cases j
   obtain⟨ys,here,rfl⟩:∃ys here,l=ys++[here]:=⟨l.dropLast,l.getLast e,(List.dropLast_concat_getLast e).symm⟩;have b:ko ((ys++[here]).map V.str) (-1)=some (V.str here):=by
    rw[List.map_append];exact jH _ _
   refine⟨_,rfl,_,rfl,st,_,_,_,rfl,rfl,bp.of g,b,?_⟩;have:=q H1 k;unfold eY at this;rw[j]at this;simpa[ss]using this
end
end Net
namespace L2
open PySem PySem.Spec PyProof.Rows
theorem j0{X:Cx}:im X (compareOp .IsNot) (λx y H Q=>∃a b,x=.bl a/\y=.bl b/\Q (.bl (!decide (a=b))) H):=by
 intro pins s σ H x y v u Q I c d h;obtain⟨a,b,rfl,rfl,q⟩:=h;cases c;cases d;refine wpAny_isNot_plain rfl (bh I q ?_);cases a<;>cases b<;>rfl
end L2
namespace Net
open PySem L2
abbrev cg:=Str×Str×Str
def cg.vs(t:cg):List V:=[.str t.1,.str t.2.1,.str t.2.2]
def bO(to:Bool)(ti:List b7):List cg:=ti.map λr=>if to then(r.nm,r.b,r.a)else(r.nm,r.a,r.b)
def iw(H:Hp)(L:List (cg×Addr))(T:List cg):Prop:=L.map (·.1)=T/\∀q∈L,H q.2=some (.tup (cg.vs q.1))
theorem iw.same{H H':Hp}{L:List (cg×Addr)}{T:List cg}(s:Same H H')(h:iw H L T):iw H' L T:=⟨h.1,λq a=>s _ _ (h.2 q a)⟩
inductive Path(T:List cg)(a:Str):List Str->Str->Prop
 |nil:Path T a [] a
 |snoc {ws:List Str} {x nm y:Str} (p:Path T a ws x) (h:(nm,x,y)∈T):Path T a (ws++[nm]) y
def lj(T:List cg)(S:List Str):Prop:=∀t∈T,t.2.1∈S->t.2.2∈S
theorem Path.in_{T:List cg}{a:Str}{S ws:List Str}{x:Str}(c:lj T S)(h:a∈S)(p:Path T a ws x):x∈S:=by
 induction p with
 |nil=>exact h
 |snoc p h b=>exact c _ h b
abbrev Fd:=Str×List Str×Addr
def e9(G:List Fd):List (aT×V):=G.map λg=>(Sum.inr g.1,V.ref g.2.2)
def bf(G:List Fd):List Str:=G.map (·.1)
structure mO(H:Hp)(d:Addr)(T:List cg)(a:Str)(G:List Fd):Prop where
 ob:H d=some (.dK (e9 G))
 ws:∀g∈G,H g.2.2=some (.lst (g.2.1.map V.str))/\Path T a g.2.1 g.1/\g.2.1.length<G.length
 nd:(bf G).Nodup
theorem mO.same{H H':Hp}{d:Addr}{T:List cg}{a:Str}{G:List Fd}(s:Same H H')(h:mO H d T a G):mO H' d T a G:=
 ⟨s _ _ h.ob,λg b=>⟨s _ _ (h.ws g b).1,(h.ws g b).2⟩,h.nd⟩
theorem ij{G:List Fd}{x:Str}(h:x∈bf G):∃g∈G,g.1=x/\valV (e9 G) (Sum.inr x:aT)=some (.ref g.2.2):=by
 induction G with
 |nil=>exact nomatch h
 |cons g r b=>
  by_cases e:g.1=x
  ·exact⟨g,List.mem_cons_self,e,bH (congrArg Sum.inr e)⟩
  ·have h':x∈bf r:=by
    rcases List.mem_cons.mp h with z|z
    ·exact absurd z.symm e
    ·exact z
   obtain⟨g',h1,h2,a⟩:=b h';refine⟨g',List.mem_cons_of_mem _ h1,h2,?_⟩;show valV (_::e9 r) _=_;rw[bI (λz=>e (Sum.inr.inj z))];exact a
theorem iO{G:List Fd}{x:Str}(h:x∉bf G):valV (e9 G) (Sum.inr x:aT)=none:=by
 cases e:valV (e9 G) (Sum.inr x:aT)with
 |none=>rfl
 |some v=>
  have:=iD e;unfold e9 at this;rw[List.map_map]at this;obtain⟨y,b,a⟩:=List.mem_map.mp this;exact absurd (List.mem_map.mpr ⟨y,b,Sum.inr.inj a⟩) h
theorem px(G:List Fd)(x:Str):(valV (e9 G) (Sum.inr x:aT)).isSome=decide (x∈bf G):=by
 by_cases h:x∈bf G
 ·obtain⟨g,_,_,e⟩:=ij h;rw[e,decide_eq_true h];rfl
 ·rw[iO h,decide_eq_false h];rfl
def kz(C:Addr):Sp:=λvs H Q _=>∃(p ds b:Addr)(S:NS)(a:Str),vs=[.ref p,.str a]/\NetAt C H p ds b S/\S.ti.length<=40/\
 ∀(l:Addr)(H':Hp)(L:List (cg×Addr)),H l=none->Same H H'->iw H' L (bO (decide (a="to")) S.ti)->H' l=some (.lst (L.map λq=>V.ref q.2))->Q (.ref l) H'
def ra:Sp:=λvs H Q _=>∃(l:Addr)(L:List (cg×Addr))(T:List cg)(a:Str),vs=[.ref l,.str a]/\H l=some (.lst (L.map λq=>V.ref q.2))/\iw H L T/\T.length<=40/\nameB a=true/\(∀t∈T,nameB t.2.2=true)/\
 ∀(d:Addr)(H':Hp)(G:List Fd),H d=none->Same H H'->mO H' d T a G->a∈bf G->lj T (bf G)->G.length<=41->(∀g∈G,H g.2.2=none)->Q (.ref d) H'
def fX(x:Str)(L:List (cg×Addr)):List (cg×Addr):=L.filter λq=>decide (q.1.2.1=x)
structure uI(H:Hp)(d:Addr)(L:List (cg×Addr))(B:List Fd):Prop where
 ob:H d=some (.dK (e9 B))
 ls:∀b∈B,H b.2.2=some (.lst ((fX b.1 L).map λq=>V.ref q.2))
 all:∀q∈L,q.1.2.1∈bf B
theorem uI.same{H H':Hp}{d:Addr}{L:List (cg×Addr)}{B:List Fd}(s:Same H H')(h:uI H d L B):uI H' d L B:=⟨s _ _ h.ob,λb a=>s _ _ (h.ls b a),h.all⟩
structure BI(H H':Hp)(d:Addr)(L:List (cg×Addr))(B:List Fd):Prop where
 same:Same H H'
 on:uI H' d L B
 hd:H d=none
 fr:∀b∈B,H b.2.2=none
 na:(B.map (·.2.2)).Nodup
 nd:(bf B).Nodup
 few:B.length<=L.length
theorem ic{c i:Type}{f:c->i}:∀{l:List c},(l.map f).Nodup->∀{a b:c},a∈l->b∈l->f a=f b->a=b
 |[],_,_,_,h,_,_=>nomatch h
 |x::r,n,a,b,g,d,e=>by
  obtain⟨n1,n2⟩:=List.nodup_cons.mp n;rcases List.mem_cons.mp g with h1|h1
  ·rcases List.mem_cons.mp d with h2|h2
   ·exact h1.trans h2.symm
   ·exact absurd (by rw[<-h1,e];exact List.mem_map.mpr ⟨b,h2,rfl⟩) n1
  ·rcases List.mem_cons.mp d with h2|h2
   ·exact absurd (by rw[<-h2,<-e];exact List.mem_map.mpr ⟨a,h1,rfl⟩) n1
   ·exact ic n2 h1 h2 e
theorem kn(x:Str)(L:List (cg×Addr))(q:cg×Addr):fX x (L++[q])=fX x L++if q.1.2.1=x then [q]else []:=by
 unfold fX;rw[List.filter_append];by_cases h:q.1.2.1=x
 ·rw[if_pos h];simp[h]
 ·rw[if_neg h];simp[h]
theorem uF(x:Str)(L:List (cg×Addr)):(fX x L).length<=L.length:=List.length_filter_le ..
def Bd:Sp:=λvs H Q _=>∃(l:Addr)(L:List (cg×Addr))(T:List cg),vs=[.ref l]/\H l=some (.lst (L.map λq=>V.ref q.2))/\iw H L T/\T.length<=40/\∀(d:Addr)(H':Hp)(B:List Fd),Same H H'->uI H' d L B->Q (.ref d) H'
theorem gu{to:Bool}(ti:List b7):(bO to ti).length=ti.length:=List.length_map ..
section
variable{P:Program}{w:World}{K:PySem.W.Frag}{mg:Str->Option Value}{base:Heap}{C:Addr}
theorem ro:ax ["net","word"] ["net","word"] (af s_steps_of):=⟨rfl,rfl,rfl,Qk,rfl,Qk,Qk⟩
theorem sL{f:Addr}{fd:FuncData}(F:bZ K "steps_of" "steps_of" s_steps_of f fd)(T:de K mg C)(m2:dN P w K mg base 1 C "ties" ["self"] (iX C)):FnOk P w K mg base cY 2 f fd ["net","word"] (kz C):=by
 refine F.ok ro (λvs H Q E h=>?_) (λU A outer s H vs Q E R h=>?_)
 ·obtain⟨p,ds,u,S,I,rfl,_⟩:=h;rfl
 ·obtain⟨p,ds,u,S,I,rfl,N,few,q⟩:=h;obtain⟨dx,h1⟩:=N.ob;refine⟨_,ae (aH (aE bS (pv 1) aj (aM _)) (ag (av (cM (N:=["row"]) (xs:=1) (js:=[]) rfl (aQ rfl) (bD (bn (pv 0) T.cl m2 R))
   (λ_ _ _ _=>aO (i:=0) (show List.Nodup (["row"]:List Str)by decide+kernel) rfl (Or.inl rfl)) (λ_ _ _ _=>cF)
   (λ_ _ _ _=>aK (aa (ay (dX K Qr) (pv 0) ak (λ_ _=>Qr)) (aa (ay (dX K Qr) (pv 0) ak (λ_ _=>Qr)) (aa (ay (dX K Qr) (pv 0) ak (λ_ _=>Qr)) ad))))))) au)
   (ag (av (cM (N:=["row"]) (xs:=1) (js:=[]) rfl (aQ rfl) (bD (bn (pv 0) T.cl m2 R))
   (λ_ _ _ _=>aO (i:=0) (show List.Nodup (["row"]:List Str)by decide+kernel) rfl (Or.inl rfl)) (λ_ _ _ _=>cF)
   (λ_ _ _ _=>aK (aa (ay (dX K Qr) (pv 0) ak (λ_ _=>Qr)) (aa (ay (dX K Qr) (pv 0) ak (λ_ _=>Qr)) (aa (ay (dX K Qr) (pv 0) ak (λ_ _=>Qr)) ad))))))),?_⟩
  refine⟨_,rfl,rfl,_,rfl,?_⟩;by_cases G:I="to"
  ·have J:decide (I="to")=true:=decide_eq_true G;rw[J]at q;refine cB (by rw[G];simp) ?_;refine⟨_,rfl,p,dx,_,rfl,h1,bL ds u Qk Qk,p,ds,u,S,rfl,N,λl H1 L W B k v=>?_⟩;have m:=k.same B;refine⟨l,rfl,⟨_,bp.of v⟩,cP (K:=K) (ys:=L.map λq=>V.ref q.2) (λi acc a H'=>∃M:List (cg×Addr),acc=M.map (λq=>V.ref q.2)/\iw H' M (bO true ((L.take i).map (·.1)))/\Same H1 H'/\∃o,a=[o])
    ⟨[],rfl,⟨rfl,λ_ h=>nomatch h⟩,Same.refl H1,none,rfl⟩ (λi acc a H' h=>?_) ?_ (λi acc a H' _ h=>?_) (λi x acc a H' g h=>?_) (λacc a H' h O d=>?_)⟩
   ·obtain⟨M,rfl,e,_⟩:=h;have:=congrArg List.length e.1;rw[gu,List.length_map,List.length_map,List.length_take]at this;rw[List.length_map];omega
   ·have e:L.length=S.ti.length:=by rw[<-k.1,List.length_map]
    rw[List.length_map,e];exact Nat.le_trans few Qd
   ·obtain⟨_,_,_,c,_⟩:=h;exact bp.of (c _ _ v)
   ·obtain⟨M,rfl,e,c,o,rfl⟩:=h;rw[List.getElem?_map]at g;cases eq:L[i]? with
    |none=>rw[eq]at g;cases g
    |some b=>
     rw[eq]at g;cases g;have n:=c _ _ (m.2 b (List.mem_of_getElem? eq));refine⟨_,rfl,_,_,_,.str b.1.nm,rfl,rfl,bj.of n,rfl,_,rfl,_,_,_,.str b.1.b,rfl,rfl,bj.of n,rfl,_,rfl,_,_,_,.str b.1.a,rfl,rfl,bj.of n,rfl,(by show 3<=sizeLine;decide),λt y=>?_⟩;refine⟨M++[((b.1.nm,b.1.b,b.1.a),t)],by rw[List.map_append];rfl,⟨?_,λz j=>?_⟩,c.upd y,_,rfl⟩
     ·rw[List.map_append,e.1,List.take_add_one,eq,List.map_append];unfold bO;rw[List.map_append];rfl
     ·rcases List.mem_append.mp j with j|j
      ·exact(Same.new y) _ _ (e.2 z j)
      ·cases List.mem_singleton.mp j;exact ac
   ·obtain⟨M,rfl,e,c,o,rfl⟩:=h;rw[List.length_map,List.take_length,k.1]at e;have D:=Same.new (o:=.lst (M.map λq=>V.ref q.2)) d;have sa:=B.trans c;exact q O _ M (sa.free d) (sa.trans D) (e.same D) ac
  ·have J:decide (I="to")=false:=decide_eq_false G;rw[J]at q;refine aJ (by simp[G]) ?_;refine⟨_,rfl,p,dx,_,rfl,h1,bL ds u Qk Qk,p,ds,u,S,rfl,N,λl H1 L W B k v=>?_⟩;have m:=k.same B;refine⟨l,rfl,⟨_,bp.of v⟩,cP (K:=K) (ys:=L.map λq=>V.ref q.2) (λi acc a H'=>∃M:List (cg×Addr),acc=M.map (λq=>V.ref q.2)/\iw H' M (bO false ((L.take i).map (·.1)))/\Same H1 H'/\∃o,a=[o])
    ⟨[],rfl,⟨rfl,λ_ h=>nomatch h⟩,Same.refl H1,none,rfl⟩ (λi acc a H' h=>?_) ?_ (λi acc a H' _ h=>?_) (λi x acc a H' g h=>?_) (λacc a H' h O d=>?_)⟩
   ·obtain⟨M,rfl,e,_⟩:=h;have:=congrArg List.length e.1;rw[gu,List.length_map,List.length_map,List.length_take]at this;rw[List.length_map];omega
   ·have e:L.length=S.ti.length:=by rw[<-k.1,List.length_map]
    rw[List.length_map,e];exact Nat.le_trans few Qd
   ·obtain⟨_,_,_,c,_⟩:=h;exact bp.of (c _ _ v)
   ·obtain⟨M,rfl,e,c,o,rfl⟩:=h;rw[List.getElem?_map]at g;cases eq:L[i]? with
    |none=>rw[eq]at g;cases g
    |some b=>
     rw[eq]at g;cases g;have n:=c _ _ (m.2 b (List.mem_of_getElem? eq));refine⟨_,rfl,_,_,_,.str b.1.nm,rfl,rfl,bj.of n,rfl,_,rfl,_,_,_,.str b.1.a,rfl,rfl,bj.of n,rfl,_,rfl,_,_,_,.str b.1.b,rfl,rfl,bj.of n,rfl,(by show 3<=sizeLine;decide),λt y=>?_⟩;refine⟨M++[((b.1.nm,b.1.a,b.1.b),t)],by rw[List.map_append];rfl,⟨?_,λz j=>?_⟩,c.upd y,_,rfl⟩
     ·rw[List.map_append,e.1,List.take_add_one,eq,List.map_append];unfold bO;rw[List.map_append];rfl
     ·rcases List.mem_append.mp j with j|j
      ·exact(Same.new y) _ _ (e.2 z j)
      ·cases List.mem_singleton.mp j;exact ac
   ·obtain⟨M,rfl,e,c,o,rfl⟩:=h;rw[List.length_map,List.take_length,k.1]at e;have D:=Same.new (o:=.lst (M.map λq=>V.ref q.2)) d;have sa:=B.trans c;exact q O _ M (sa.free d) (sa.trans D) (e.same D) ac
abbrev DW:List Str:=["steps","onward","step"]
theorem rG:ax DW ["steps"] (af s_steps_by_begin):=⟨rfl,rfl,rfl,Qk,rfl,Qk,Qk⟩
theorem Bv{f:Addr}{fd:FuncData}(F:bZ K "steps_by_begin" "steps_by_begin" s_steps_by_begin f fd)(T:de K mg C):FnOk P w K mg base cY 1 f fd ["steps"] Bd:=by
 refine F.ok rG (λvs H Q E h=>?_) (λZ A outer s H vs Q E hr h=>?_)
 ·obtain⟨l,L,T,rfl,_⟩:=h;rfl
 ·obtain⟨l,L,TT,rfl,W,tr,few,q⟩:=h;refine⟨_,(ae (aF (i:=1) rG.nd rfl (Or.inl rfl) fo)
   (ae (cO PassesOwn.never rfl (bD (pv 0)) (aO (i:=2) rG.nd rfl (Or.inl rfl))
    (ag (aG (dH PySem.F.plainAttrs_list PySem.F.slot_list_append PySem.F.type_list_append bW (si (pv 1) (ay az (pv 2) ak (λ_ _=>Qr)) (aR ad) ⟨rfl,rfl,rfl,rfl⟩) (aa (pv 2) ad)))))
   (ag (av (pv 1))))),?_⟩
  intro d hd;have R:L.length<=40:=by
   have:L.length=TT.length:=by rw[<-tr.1,List.length_map]
   omega
  have Y:=Same.new (o:=.dK []) hd;refine⟨_,rfl,l,rfl,⟨_,bp.of (Y _ _ W)⟩,cC (K:=K) (a:=l) (xs:=L.map λq=>V.ref q.2) (λj x H'=>∃(B:List Fd)(v:Option V),x=[some (.ref l),some (.ref d),v]/\BI H H' d (L.take j) B)
   ⟨[],none,rfl,Y,⟨ac,λ_ h=>(nomatch h),λ_ h=>(nomatch h)⟩,hd,λ_ h=>(nomatch h),List.nodup_nil,List.nodup_nil,Nat.zero_le _⟩ (λj x H' _ h=>?_) (λj v x H' p h=>?_) (λx H' h=>?_)⟩
  ·obtain⟨_,_,_,b⟩:=h;exact bp.of (b.same _ _ W)
  ·obtain⟨B,v',rfl,b⟩:=h;rw[List.getElem?_map]at p;cases eq:L[j]? with
   |none=>rw[eq]at p;cases p
   |some t=>
    rw[eq]at p;cases p;have hq:=b.same _ _ (tr.2 t (List.mem_of_getElem? eq));have G:L.take (j+1)=L.take j++[t]:=by rw[List.take_add_one,eq];rfl
    have hj:(L.take j).length<=40:=Nat.le_trans (List.length_take_le' ..) R;have hB:=b.few;refine⟨_,rfl,d,rfl,.inl ⟨_,.inl b.on.ob⟩,_,rfl,_,_,_,.str t.1.2.1,rfl,rfl,bj.of hq,rfl,Qd,λe n=>⟨e9 B,Sum.inr t.1.2.1,(Same.new n) _ _ b.on.ob,rfl,aW (by unfold e9;rw[List.length_map];omega),λv p=>?_,λhn=>?_⟩⟩
    ·have I:t.1.2.1∈bf B:=by
      by_cases z:t.1.2.1∈bf B
      ·exact z
      ·rw[iO z]at p;cases p
     obtain⟨D,m,U,N⟩:=ij I;rw[N]at p;cases p;have h0:=(Same.new (o:=.lst []) n) _ _ (b.on.ls D m);refine⟨.inl ⟨rfl,_,bp.of h0⟩,_,rfl,_,_,_,rfl,rfl,h0,aW (by rw[List.length_map];have:=uF D.1 (L.take j);omega),?_⟩;have S:d≠D.2.2:=bM b.on.ob (b.on.ls D m) (by intro z;cases z);refine⟨B,_,rfl,⟨λy ob z=>?_,⟨?_,λk c=>?_,λq1 g=>?_⟩,b.hd,b.fr,b.na,b.nd,?_⟩⟩
     ·rw[ah (ai z (b.fr D m))];exact(b.same.upd n) _ _ z
     ·rw[ah S];exact(Same.new n) _ _ b.on.ob
     ·rw[G,kn];by_cases O:k=D
      ·subst O;rw[if_pos U.symm,ac,List.map_append];rfl
      ·rw[if_neg (λz=>O (ic b.nd c m (z.symm.trans U.symm))),List.append_nil,ah (λz=>O (ic b.na c m z))];exact(Same.new n) _ _ (b.on.ls k c)
     ·rw[G]at g;rcases List.mem_append.mp g with z|z
      ·exact b.on.all q1 z
      ·cases List.mem_singleton.mp z;exact I
     ·rw[G,List.length_append];omega
    ·have I:t.1.2.1∉bf B:=λz=>by
      obtain⟨_,_,_,N⟩:=ij z;rw[hn]at N;cases N
     rw[dG _ hn];have M:d≠e:=ai b.on.ob n;have h0:(upd (upd H' e (.lst [])) d (.dK (e9 B++[((Sum.inr t.1.2.1:aT),V.ref e)]))) e=some (.lst []):=by rw[ah M.symm];exact ac
     have J:H e=none:=b.same.free n;refine⟨.inl ⟨rfl,_,bp.of h0⟩,_,rfl,_,_,_,rfl,rfl,h0,Qd,?_⟩;have u:fX t.1.2.1 (L.take j)=[]:=by
      unfold fX;refine List.filter_eq_nil_iff.mpr λq1 g z=>I ?_;rw[<-of_decide_eq_true z];exact b.on.all q1 g
     refine⟨B++[(t.1.2.1,[],e)],_,rfl,⟨λy ob z=>?_,⟨?_,λk c=>?_,λq1 g=>?_⟩,b.hd,λk c=>?_,?_,?_,?_⟩⟩
     ·rw[ah (ai z J),ah (ai z b.hd)];exact(b.same.upd n) _ _ z
     ·rw[ah M,ac];unfold e9;rw[List.map_append];rfl
     ·rw[G,kn];rcases List.mem_append.mp c with c|c
      ·have X:k.2.2≠e:=ai (b.on.ls k c) n;rw[if_neg (λz=>I (by rw[z];exact List.mem_map.mpr ⟨k,c,rfl⟩)),List.append_nil,ah X,ah (bM (b.on.ls k c) b.on.ob (by intro z;cases z)),ah X];exact b.on.ls k c
      ·cases List.mem_singleton.mp c;rw[if_pos rfl,u];exact ac
     ·unfold bf;rw[List.map_append];rw[G]at g;rcases List.mem_append.mp g with z|z
      ·exact List.mem_append_left _ (b.on.all q1 z)
      ·cases List.mem_singleton.mp z;exact List.mem_append_right _ List.mem_cons_self
     ·rcases List.mem_append.mp c with c|c
      ·exact b.fr k c
      ·cases List.mem_singleton.mp c;exact J
     ·rw[List.map_append];refine L2.iJ b.na λz=>?_;obtain⟨k,c,e1⟩:=List.mem_map.mp z;have:=b.on.ls k c;rw[show k.2.2=e from e1,n]at this;cases this
     ·unfold bf;rw[List.map_append];exact L2.iJ b.nd I
     ·rw[G,List.length_append,List.length_append];show B.length+1<=(L.take j).length +1;omega
  ·obtain⟨B,v',rfl,b⟩:=h;rw[List.length_map,List.take_length]at b;exact⟨_,rfl,q d H' B b.same b.on⟩
structure BF(H H':Hp)(d wt:Addr)(T:List cg)(a:Str)(G:List Fd)(ws:List Str):Prop where
 same:Same H H'
 fd:mO H' d T a G
 wl:H' wt=some (.lst (ws.map V.str))
 hd:H d=none
 hw:H wt=none
 fr:∀g∈G,H g.2.2=none/\g.2.2≠wt
 inw:∀x∈ws,x∈bf G
 st:a∈bf G
 sub:∀x∈bf G,x∈a::T.map (·.2.2)
theorem BF.up{H H' H2:Hp}{d c:Addr}{T:List cg}{a:Str}{G:List Fd}{ws:List Str}(b:BF H H' d c T a G ws)(s:Same H' H2):BF H H2 d c T a G ws:=
 ⟨b.same.trans s,b.fd.same s,s _ _ b.wl,b.hd,b.hw,b.fr,b.inw,b.st,b.sub⟩
theorem BF.few{H H':Hp}{d c:Addr}{T:List cg}{a:Str}{G:List Fd}{ws:List Str}(b:BF H H' d c T a G ws):G.length<=T.length+1:=by
 have:=fK b.fd.nd b.sub;unfold bf at this;rw[List.length_map,List.length_cons,List.length_map]at this;exact this
theorem BF.ok{H H':Hp}{d f:Addr}{T:List cg}{a:Str}{G:List Fd}{ws:List Str}(b:BF H H' d f T a G ws)(h1:nameB a=true)(h2:∀t∈T,nameB t.2.2=true):∀x∈bf G,nameB x=true:=λx e=>by
 rcases List.mem_cons.mp (b.sub x e)with rfl|z
 ·exact h1
 ·obtain⟨t,c,rfl⟩:=List.mem_map.mp z;exact h2 t c
def BW(H:Hp)(l od d b:Addr)(T:List cg)(a:Str)(m:Nat)(σ:St)(H':Hp):Prop:=∃(G:List Fd)(ws:List Str)(c e f g:Option V),σ=[some (.ref l),some (.str a),some (.ref od),some (.ref d),some (.ref b),c,e,f,g]/\BF H H' d b T a G ws/\
 (∀t∈T,t.2.1∈bf G->t.2.1∉ws->t.2.2∈bf G)/\m=2*(T.length+1-G.length)+ws.length/\m<=100
abbrev Dn:List Str:=["steps","a","onward","found","waiting","here","name","begin","end"]
theorem fi:ax Dn ["steps","a"] (af s_steps_to_places):=⟨rfl,rfl,rfl,Qk,rfl,Qk,Qk⟩
theorem Ag{f:Addr}{fd:FuncData}(F:bZ K "steps_to_places" "steps_to_places" s_steps_to_places f fd)(T:de K mg C)(cy:cj P w K mg base 1 "steps_by_begin" ["steps"] Bd):FnOk P w K mg base cY 2 f fd ["steps","a"] ra:=by
 refine F.ok fi (λvs H Q E h=>?_) (λyc A outer s H vs Q E hr h=>?_)
 ·obtain⟨l,L,T,a,rfl,_⟩:=h;rfl
 ·obtain⟨l,L,TT,a,rfl,U,W,few,x7,x8,xr⟩:=h;have hu:=cU hr;have hU:=hr.units;refine⟨_,ae (aF (i:=2) fi.nd rfl (Or.inl rfl) (aw cy hr rfl (aa (pv 0) ad)))
   (ae (aF (i:=3) fi.nd rfl (Or.inl rfl) (vY (rZ (pv 1) (aR ad) vT) rfl rfl Qs Qd))
   (ae (aF (i:=4) fi.nd rfl (Or.inl rfl) (aR (aa (pv 1) ad)))
   (ae (rX PassesOwn.never (aE (jg hU) (pv 4) (aR ad) (aM _))
    (ae (aF (i:=5) fi.nd rfl (Or.inl rfl) (dH PySem.F.plainAttrs_list PySem.F.slot_list_pop PySem.F.type_list_pop tf (pv 4) (aa ak ad)))
    (ag (cO PassesOwn.never rfl (bD (sj hu (pv 2) (pv 5) (aR ad) ⟨rfl,rfl,rfl,rfl⟩)) (zT rfl (jc (aO (i:=6) fi.nd rfl (Or.inl rfl)) (jc (aO (i:=7) fi.nd rfl (Or.inl rfl)) (jc (aO (i:=8) fi.nd rfl (Or.inl rfl)) vV))))
     (ag (aH (da (dw hu (pv 8) (pv 3)))
      (ae (dQ hu (pv 3) (pv 8) (aU dm (cG hu (pv 3) (pv 5) (λ_ _=>rfl)) (aR (aa (pv 6) ad))) rfl)
      (ag (aG (dH PySem.F.plainAttrs_list PySem.F.slot_list_append PySem.F.type_list_append bW (pv 4) (aa (pv 8) ad))))) au))))))
   (ag (av (pv 3)))))),?_⟩
  refine⟨_,rfl,l,L,TT,rfl,U,W,few,λod H9 B9 s9 xf=>?_⟩;have hl:=s9 _ _ U;have tr:=W.same s9;have q:∀(d:Addr)(H':Hp)(G:List Fd),H9 d=none->Same H9 H'->mO H' d TT a G->a∈bf G->lj TT (bf G)->G.length<=41->(∀g∈G,H9 g.2.2=none)->Q (.ref d) H':=
   λd H' G h1 h2 h3 h4 h5 h6 h7=>xr d H' G (s9.free h1) (s9.trans h2) h3 h4 h5 h6 λg O=>s9.free (h7 g O)
  clear xr U W;generalize H9=H at*;intro d hd;refine⟨_,rfl,Qd,λe he=>?_⟩;have xd:d≠e:=ai ac he;have xi:H e=none:=by rw[ah xd.symm]at he;exact he
  refine⟨by rw[ah xd];exact ac,[(Sum.inr a,.ref e)],rfl,(by show 1<=15;decide),?_⟩;have s1:Same H (upd (upd (upd H d (.dK [])) e (.lst [])) d (.dK (cz [] [(Sum.inr a,V.ref e)]))):=λb ob z=>by
   rw[ah (ai z hd),ah (ai z xi),ah (ai z hd)];exact z
  have F1:mO (upd (upd (upd H d (.dK [])) e (.lst [])) d (.dK (cz [] [(Sum.inr a,V.ref e)]))) d TT a [(a,[],e)]:=
   ⟨ac,λg O=>by
    rw[List.mem_singleton.mp O];exact⟨by rw[ah xd.symm];exact ac,.nil,by show 0<1;decide⟩,by simp[bf]⟩
  generalize upd (upd (upd H d (.dK [])) e (.lst [])) d (.dK (cz [] [(Sum.inr a,V.ref e)]))=H1 at s1 F1;refine⟨_,rfl,(by show 1<=sizeLine;decide),λI xb=>?_⟩;have s2:=Same.new (o:=.lst [.str a]) xb;have x5:e≠I:=ai (F1.ws _ List.mem_cons_self).1 xb;have B0:BF H (upd H1 I (.lst [.str a])) d I TT a [(a,[],e)] [a]:=⟨s1.trans s2,F1.same s2,ac,hd,s1.free xb,λg O=>by rw[List.mem_singleton.mp O];exact⟨xi,x5⟩,λx D=>D,List.mem_cons_self,λx D=>by rw[List.mem_singleton.mp D];exact List.mem_cons_self⟩;generalize upd H1 I (.lst [.str a])=H2 at B0;refine⟨BW H l od d I TT a,⟨_,_,_,none,none,none,none,rfl,B0,λt J h1 h2=>absurd h1 h2,rfl,?_⟩,?_⟩
  ·show 2*(TT.length+1-1)+1<=100;omega
  rintro m M H'⟨G,ws,v1,v2,v3,v4,rfl,B,cl,hm,h100⟩;have xz:=B.ok x7 x8;refine⟨_,rfl,Qd,λee xk=>⟨2,_,_,Qd,vJ ((Same.new xk) _ _ B.wl) (λx D=>xz x (B.inw x D)),zM ac,_,rfl,?_⟩⟩;have n:=B.up (Same.new (o:=.lst []) xk);generalize upd H' ee (.lst [])=H3 at n;show if(!PyData.eqv (.list (ws.map PyData.str)) (.list []))=true then _ else _;rw[xK];cases ws with
  |nil=>
   refine aD ⟨_,rfl,?_⟩;have hf:=n.few;exact q d H3 G hd n.same n.fd n.st (λt J hb=>cl t J hb (λz=>nomatch z)) Qo λg O=>(n.fr g O).1
  |cons here rest=>
   refine bC ⟨λM H'=>∃m',m'<m/\BW H l od d I TT a m' M H',λ_ _ z=>z,?_⟩;have Y:here∈bf G:=n.inw here List.mem_cons_self;refine⟨_,rfl,.inl ⟨rfl,_,bp.of n.wl⟩,I,_,0,0,.str here,rfl,rfl,n.wl,Qd,Qd,by simp[seqIndex?],rfl,?_⟩;have sw:Same H (upd H3 I (.lst ((here::rest).map V.str |>.eraseIdx 0))):=λb ob z=>by
    rw[ah (ai z n.hw)];exact n.same _ _ z
   have x1:d≠I:=bM n.fd.ob n.wl (by intro z;cases z);have B2:BF H (upd H3 I (.lst ((here::rest).map V.str |>.eraseIdx 0))) d I TT a G rest:=
    ⟨sw,⟨by rw[ah x1];exact n.fd.ob,λg O=>⟨by rw[ah (n.fr g O).2];exact(n.fd.ws g O).1,(n.fd.ws g O).2⟩,n.fd.nd⟩,ac,n.hd,n.hw,n.fr,λx D=>n.inw x (List.mem_cons_of_mem _ D),n.st,n.sub⟩
   generalize upd H3 I (.lst ((here::rest).map V.str |>.eraseIdx 0))=H4 at B2;have yd:L.length=TT.length:=by rw[<-tr.1,List.length_map]
   have oc:=xf.same B2.same;refine⟨_,rfl,od,rfl,.inl ⟨_,.inl oc.ob⟩,_,rfl,Qd,λe5 xj=>?_⟩;have s5:=Same.new (o:=.lst []) xj;have B3:=B2.up s5;have xe:=oc.same s5;have x4:e5≠I:=(ai B2.wl xj).symm;have h5:(upd H4 e5 (.lst [])) e5=some (.lst []):=ac;generalize upd H4 e5 (.lst [])=H5 at B3 xe h5;have xy:∃(X:Addr),(Option.getD (valV (e9 B9) (Sum.inr here:aT)) (.ref e5))=.ref X/\H5 X=some (.lst ((fX here L).map λq=>V.ref q.2))/\X≠I:=by
    by_cases hk:here∈bf B9
    ·obtain⟨b0,xh,e0,v0⟩:=ij hk;refine⟨b0.2.2,by rw[v0];rfl,by rw[<-e0];exact xe.ls b0 xh,λz=>?_⟩;have:=xf.ls b0 xh;rw[z,B2.hw]at this;cases this
    ·refine⟨e5,by rw[iO hk];rfl,?_,x4⟩;have:fX here L=[]:=by
      unfold fX;refine List.filter_eq_nil_iff.mpr λq1 Z z=>hk ?_;rw[<-of_decide_eq_true z];exact xf.all q1 Z
     rw[this];exact h5
   obtain⟨X,xu,xm,x2⟩:=xy;refine⟨_,cD.k (k:=Sum.inr here) xe.ob,X,xu,⟨_,bp.of xm⟩,cC (K:=K) (a:=X) (xs:=(fX here L).map λq=>V.ref q.2) (λj M H'=>∃(p:List Fd)(u:List Str)(v2 v3 v4:Option V),M=[some (.ref l),some (.str a),some (.ref od),some (.ref d),some (.ref I),some (.str here),v2,v3,v4]/\BF H H' d I TT a p u/\here∈bf p/\
     (∀t∈TT,t.2.1∈bf p->t.2.1∉u->t.2.1≠here->t.2.2∈bf p)/\(∀t∈(fX here L).take j,t.1.2.2∈bf p)/\2*(TT.length+1-p.length)+u.length<m/\H' X=some (.lst ((fX here L).map λq=>V.ref q.2)))
    ⟨G,rest,_,_,_,rfl,B3,Y,λt J h1 h2 h3=>cl t J h1 (λz=>(List.mem_cons.mp z).elim h3 h2),λt J=>(nomatch J),by rw[hm,List.length_cons];omega,xm⟩ (λj M H' _ h=>?_) (λj v M H' hv h=>?_) (λM H' h=>?_)⟩
   ·obtain⟨_,_,_,_,_,_,b,_,_,_,_,D⟩:=h;exact bp.of D
   ·obtain⟨p,u,x9,ya,yb,rfl,b,hh,c1,c2,lt,D⟩:=h;rw[List.getElem?_map]at hv;cases eq:(fX here L)[j]? with
    |none=>rw[eq]at hv;cases hv
    |some qq=>
     rw[eq]at hv;cases hv;obtain⟨xo,xx⟩:=List.mem_filter.mp (List.mem_of_getElem? eq);have eb:=of_decide_eq_true xx;have xa:qq.1∈TT:=by rw[<-tr.1];exact List.mem_map.mpr ⟨qq,xo,rfl⟩
     have hq:=b.same _ _ (tr.2 qq xo);obtain⟨⟨nm,bg,en⟩,qa⟩:=qq;have tk:∀t∈(fX here L).take (j+1),t∈(fX here L).take j\/t=((nm,bg,en),qa):=λt J=>by
      rw[List.take_add_one,eq]at J;rcases List.mem_append.mp J with z|z
      ·exact .inl z
      ·exact .inr (List.mem_singleton.mp z)
     refine⟨qa,_,rfl,bj.of hq,rfl,_,_,rfl,_,_,rfl,_,_,rfl,rfl,?_⟩;refine⟨_,rfl,_,rfl,d,_,rfl,cD.k (k:=Sum.inr en) b.fd.ob,_,rfl,?_⟩;rw[px];by_cases ek:en∈bf p
     ·refine aJ (by simp[ek]) ⟨p,u,_,_,_,rfl,b,hh,c1,λt J=>?_,lt,D⟩;rcases tk t J with z|rfl
      ·exact c2 t z
      ·exact ek
     ·refine cB (by simp[ek]) ?_;obtain⟨g,O,eg,vg⟩:=ij hh;have xl:=b.fd.ws g O;have yf:=b.few;refine⟨_,rfl,_,rfl,d,.ref g.2.2,rfl,by rw[<-vg];exact cD.k (k:=Sum.inr here) b.fd.ob,_,rfl,(by show 1<=sizeLine;decide),λpn xw=>?_⟩;have z1:=Same.new (o:=.lst [.str nm]) xw;refine⟨g.2.2,pn,_,_,rfl,rfl,z1 _ _ xl.1,ac,?_,λR xn=>?_⟩
      ·rw[List.length_map];exact Nat.le_trans (show _+1<=100 by omega) Qd
      have z2:=z1.upd (o:=.lst (g.2.1.map V.str++[.str nm])) xn;have ep:(upd (upd H' pn (.lst [.str nm])) R (.lst (g.2.1.map V.str++[.str nm]))) R=some (.lst ((g.2.1++[nm]).map V.str)):=by rw[ac,List.map_append];rfl
      have N:H' R=none:=z1.free xn;have S:=b.up z2;have xc:=z2 _ _ D;generalize upd (upd H' pn (.lst [.str nm])) R (.lst (g.2.1.map V.str++[.str nm]))=H6 at ep S xc;refine⟨_,rfl,_,rfl,d,_,rfl,iC.k (k:=Sum.inr en) S.fd.ob (aW (by unfold e9;rw[List.length_map];omega)),?_⟩;rw[dG _ (iO ek)];have x3:R≠d:=bM ep S.fd.ob (by intro z;cases z);have xq:I≠d:=bM S.wl S.fd.ob (by intro z;cases z);have xp:R≠I:=λz=>by rw[z]at N;rw[b.wl]at N;cases N
      have x6:X≠d:=bM xc S.fd.ob (by intro z;cases z);have xv:H R=none:=b.same.free N;have xt:e9 p++[((Sum.inr en:aT),V.ref R)]=e9 (p++[(en,g.2.1++[nm],R)]):=by unfold e9;rw[List.map_append];rfl
      rw[xt];have xg:(upd H6 d (.dK (e9 (p++[(en,g.2.1++[nm],R)])))) I=some (.lst (u.map V.str)):=by rw[ah xq];exact S.wl
      have yg:u.length<=100:=Qo;refine⟨_,rfl,.inl ⟨rfl,_,bp.of xg⟩,_,rfl,I,_,_,rfl,rfl,xg,aW (by rw[List.length_map];omega),?_⟩;have kk:bf (p++[(en,g.2.1++[nm],R)])=bf p++[en]:=by unfold bf;rw[List.map_append];rfl
      refine⟨p++[(en,g.2.1++[nm],R)],u++[en],_,_,_,rfl,⟨λy ob z=>?_,⟨?_,λg' c=>?_,?_⟩,?_,b.hd,b.hw,λg' c=>?_,λx D=>?_,?_,λx D=>?_⟩,?_,λt J h1 h2 h3=>?_,λt J=>?_,?_,?_⟩
      ·rw[ah (ai z b.hw),ah (ai z b.hd)];exact S.same _ _ z
      ·rw[ah xq.symm];exact ac
      ·rw[List.length_append];rcases List.mem_append.mp c with c|c
       ·have o1:=S.fd.ws g' c;refine⟨?_,o1.2.1,Nat.lt_succ_of_lt o1.2.2⟩;rw[ah (S.fr g' c).2,ah (bM o1.1 S.fd.ob (by intro z;cases z))];exact o1.1
       ·cases List.mem_singleton.mp c;refine⟨by rw[ah xp,ah x3];exact ep,.snoc (eg▸xl.2.1) (eb▸xa),?_⟩;show(g.2.1++[nm]).length <p.length+1;rw[List.length_append];show g.2.1.length+1<_;omega
      ·rw[kk];exact ji b.fd.nd ek
      ·rw[ac,List.map_append];rfl
      ·rcases List.mem_append.mp c with c|c
       ·exact b.fr g' c
       ·cases List.mem_singleton.mp c;exact⟨xv,xp⟩
      ·rw[kk];rcases List.mem_append.mp D with z|z
       ·exact List.mem_append_left _ (b.inw x z)
       ·exact List.mem_append_right _ z
      ·rw[kk];exact List.mem_append_left _ b.st
      ·rw[kk]at D;rcases List.mem_append.mp D with z|z
       ·exact b.sub x z
       ·rw[List.mem_singleton.mp z];exact List.mem_cons_of_mem _ (List.mem_map.mpr ⟨_,xa,rfl⟩)
      ·rw[kk];exact List.mem_append_left _ hh
      ·rw[kk]at h1⊢;rcases List.mem_append.mp h1 with z|z
       ·exact List.mem_append_left _ (c1 t J z (λy=>h2 (List.mem_append_left _ y)) h3)
       ·exact absurd (List.mem_append_right _ z) h2
      ·rw[kk];rcases tk t J with z|rfl
       ·exact List.mem_append_left _ (c2 t z)
       ·exact List.mem_append_right _ List.mem_cons_self
      ·have ye:p.length<TT.length+1:=by
        have x0:(bf p++[en]).Nodup:=ji b.fd.nd ek;have:=fK x0 (m:=a::TT.map (·.2.2)) (λx D=>by
         rcases List.mem_append.mp D with z|z
         ·exact b.sub x z
         ·rw[List.mem_singleton.mp z];exact List.mem_cons_of_mem _ (List.mem_map.mpr ⟨_,xa,rfl⟩))
        have e1:(bf p++[en]).length=p.length+1:=by unfold bf;rw[List.length_append,List.length_map];rfl
        rw[e1,List.length_cons,List.length_map]at this;omega
       rw[List.length_append,List.length_append];show 2*(TT.length+1-(p.length+1))+(u.length+1)<m;omega
      ·rw[ah x2,ah x6];exact xc
   ·obtain⟨p,u,x9,ya,yb,rfl,b,hh,c1,c2,lt,D⟩:=h;rw[List.length_map,List.take_length]at c2;refine⟨_,lt,p,u,_,_,_,_,rfl,b,λt J h1 h2=>?_,rfl,Qo⟩;by_cases e3:t.2.1=here
    ·rw[<-tr.1]at J;obtain⟨q1,Z,rfl⟩:=List.mem_map.mp J;exact c2 q1 (List.mem_filter.mpr ⟨Z,decide_eq_true e3⟩)
    ·exact c1 t J h1 h2 e3
end
end Net
namespace L2
open PySem PySem.Spec PyProof.Rows
end L2
namespace Net
open PySem L2
inductive Kd where
 |all
 |these(ns:List Str)
 |from_(a:Str)
 |to_(a:Str)
def fD(H:Hp)(t:Addr):Kd->Prop
 |.all=>H t=some (.tup [.str "all"])
 |.these ns=>∃l,H t=some (.tup [.str "these",.ref l])/\H l=some (.lst (ns.map V.str))
 |.from_ a=>H t=some (.tup [.str "from",.str a])
 |.to_ a=>H t=some (.tup [.str "to",.str a])
theorem fD.same{H H':Hp}{t:Addr}(s:Same H H'):∀{k:Kd},fD H t k->fD H' t k
 |.all,h=>s _ _ h
 |.these _,⟨l,h1,h2⟩=>⟨l,s _ _ h1,s _ _ h2⟩
 |.from_ _,h=>s _ _ h
 |.to_ _,h=>s _ _ h
def oj(S:NS):Kd->Prop
 |.all=>True
 |.these ns=>ns.length<=100/\∀x∈ns,x∈S.pl
 |.from_ a=>a∈S.pl
 |.to_ a=>a∈S.pl
structure gV(C:Addr)(H:Hp)(p ds dl:Addr)(S:NS):Prop where
 net:NetAt C H p ds dl S
 nd:S.nms.Nodup
 few:S.ti.length<=40
 fewP:S.pl.length<=20
 ndP:S.pl.Nodup
 okP:∀x∈S.pl,nameB x=true
 okT:∀r∈S.ti,nameB r.nm=true/\r.a∈S.pl/\r.b∈S.pl
theorem gV.same{C:Addr}{H H':Hp}{p ds a:Addr}{S:NS}(s:Same H H')(h:gV C H p ds a S):gV C H' p ds a S:=⟨h.net.same s,h.nd,h.few,h.fewP,h.ndP,h.okP,h.okT⟩
theorem gV.w{C:Addr}{H:Hp}{p ds a:Addr}{S:NS}(h:gV C H p ds a S):oi C H p ds a S:=⟨h.net,h.nd,h.few⟩
def kM(T:List cg)(ws:List Str):Bool:=(T.filter λt=>decide (t.2.1∈ws)).all λt=>decide (t.2.2∈ws)
def withinK(S:NS)(k:Kd)(ws:List Str):Bool:=match k with
 |.all=>S.pl.all λx=>decide (x∈ws)
 |.these ns=>ns.all λx=>decide (x∈ws)
 |.from_ a=>decide (a∈ws)&&kM (bO false S.ti) ws
 |.to_ a=>decide (a∈ws)&&kM (bO true S.ti) ws
def xA(S:NS)(k:Kd)(x:Str)(ws:List Str):Bool:=match k with
 |.all=>ws.isEmpty
 |.these ns=>decide (x∈ns)&&ws.isEmpty
 |.from_ a=>decide (eY S.ti a (.list (ws.map PyData.str))=some x)
 |.to_ a=>decide (eY S.ti x (.list (ws.map PyData.str))=some a)
def oY(S:NS)(k:Kd)(x:Str)(ws:List Str):Bool:=decide (x∈S.pl)&&xA S k x ws
open Classical in
noncomputable def reachB (T:List cg) (a x:Str):Bool:=decide (∃ws,Path T a ws x)
noncomputable def inB (S:NS) (k:Kd) (x:Str):Bool:=match k with
 |.all=>true
 |.these ns=>decide (x∈ns)
 |.from_ a=>reachB (bO false S.ti) a x
 |.to_ a=>reachB (bO true S.ti) a x
noncomputable def membersD (S:NS) (k:Kd):List Str:=S.pl.filter λx=>inB S k x
open Classical in
theorem i_{H:Hp}{d:Addr}{T:List cg}{a:Str}{G:List Fd}(F:mO H d T a G)(h:a∈bf G)(c:lj T (bf G))(x:Str):reachB T a x=decide (x∈bf G):=by
 unfold reachB;by_cases e:x∈bf G
 ·rw[decide_eq_true e];obtain⟨g,b,rfl⟩:=List.mem_map.mp e;exact decide_eq_true ⟨_,(F.ws g b).2.1⟩
 ·rw[decide_eq_false e];exact decide_eq_false λ⟨ws,p⟩=>e (p.in_ c h)
theorem rL{ti:List b7}(nd:(ti.map (·.nm)).Nodup){r:b7}(h:r∈ti):dF ti r.nm=some r:=by
 induction ti with
 |nil=>exact nomatch h
 |cons q t c=>
  have a:q.nm∉t.map (·.nm)/\(t.map (·.nm)).Nodup:=List.nodup_cons.mp nd;unfold dF;rcases List.mem_cons.mp h with rfl|h
  ·rw[List.find?_cons_of_pos Qs]
  ·have b:¬q.nm=r.nm:=λz=>a.1 (List.mem_map.mpr ⟨r,h,z.symm⟩);rw[List.find?_cons_of_neg (by simpa using b)];exact c a.2 h
theorem p7{ti:List b7}(nd:(ti.map (·.nm)).Nodup){a:Str}{ws:List Str}{x:Str}(p:Path (bO false ti) a ws x):∃l,stD ti a (ws.map PyData.str)=some l/\l.getLast?=some x:=by
 induction p with
 |nil=>exact⟨[a],rfl,rfl⟩
 | @snoc ws x nm y p h g=>
  obtain⟨l,c,d⟩:=g;obtain⟨r,f,e⟩:=List.mem_map.mp h;have b:(r.nm,r.a,r.b)=(nm,x,y):=e;cases b;refine⟨l++[r.b],?_,Qs⟩;rw[List.map_append];show stD ti a (ws.map PyData.str++[.str r.nm])=_;rw[iU c d];show((dF ti r.nm).bind _).map _=_;rw[rL nd f];show(if r.a=r.a then some r.b else none).map _=_;rw[if_pos rfl];rfl
theorem wA{ti:List b7}(nd:(ti.map (·.nm)).Nodup){a:Str}{ws:List Str}{x:Str}(p:Path (bO true ti) a ws x):∃l,stD ti x (ws.reverse.map PyData.str)=some l/\l.getLast?=some a:=by
 induction p with
 |nil=>exact⟨[a],rfl,rfl⟩
 | @snoc ws x nm y p h i=>
  obtain⟨l,d,e⟩:=i;obtain⟨r,g,f⟩:=List.mem_map.mp h;have b:(r.nm,r.b,r.a)=(nm,x,y):=f;cases b;refine⟨r.a::l,?_,?_⟩
  ·rw[List.reverse_append];show(dD ti r.a (.str r.nm)).bind (λz=>(stD ti z (ws.reverse.map PyData.str)).map (r.a:: ·))=_;have:dD ti r.a (.str r.nm)=some r.b:=by
    show(dF ti r.nm).bind _=_;rw[rL nd g];show(if r.a=r.a then some r.b else none)=_;rw[if_pos rfl]
   rw[this,Option.bind_some,d];rfl
  ·have c:=mV d;cases l with
   |nil=>exact absurd rfl c
   |cons y ys=>rw[List.getLast?_cons_cons];exact e
def ez(C:Addr):Sp:=λvs H Q _=>∃(p ds b a:Addr)(S:NS)(k:Kd),vs=[.ref p,.ref a]/\gV C H p ds b S/\fD H a k/\oj S k/\∀(l:Addr)(H':Hp),H l=none->Same H H'->H' l=some (.lst ((membersD S k).map V.str))->Q (.ref l) H'
def lF(C:Addr):Sp:=λvs H Q _=>∃(p ds b a:Addr)(S:NS)(k:Kd)(x:Str),vs=[.ref p,.ref a,.str x]/\gV C H p ds b S/\fD H a k/\oj S k/\nameB x=true/\(x∉membersD S k->∀H',Same H H'->Q .non H')/\
 (x∈membersD S k->∀(l:Addr)(ws:List Str)(H':Hp),H l=none->Same H H'->H' l=some (.lst (ws.map V.str))->ws.length<=100->(∀y∈ws,y∈S.nms)->oY S k x ws=true->Q (.ref l) H')
section
variable{P:Program}{w:World}{K:PySem.W.Frag}{mg:Str->Option Value}{base:Heap}{C:Addr}
structure Cc(mg:Str->Option Value):Prop where
 set:mg "set"=none
 rev:mg "reversed"=none
end
theorem s_all_all:decide (V.str "all"=V.str "all")=true:=Qk
theorem s_these_all:decide (V.str "these"=V.str "all")=false:=Qk
theorem s_from_all:decide (V.str "from"=V.str "all")=false:=Qk
theorem s_to_all:decide (V.str "to"=V.str "all")=false:=Qk
theorem s_these_these:decide (V.str "these"=V.str "these")=true:=Qk
theorem s_from_these:decide (V.str "from"=V.str "these")=false:=Qk
theorem s_to_these:decide (V.str "to"=V.str "these")=false:=Qk
theorem s_from_from:decide (V.str "from"=V.str "from")=true:=Qk
theorem s_to_from:decide (V.str "to"=V.str "from")=false:=Qk
theorem s_from_to:decide (V.str "from"=V.str "to")=false:=Qk
theorem s_to_to:decide (V.str "to"=V.str "to")=true:=Qk
theorem Au:decide (("from":Str)="to")=false:=Qk
theorem CY:decide (("to":Str)="to")=true:=Qk
theorem fQ{a:Type}{xs:List a}{i:Nat}{y:a}(f:a->Bool)(e:xs[i]?=some y){b:Bool}(h:f y=b):(xs.take (i+1)).filter f=(xs.take i).filter f++(if b then [y]else []):=by
 rw[List.take_add_one,e,List.filter_append];show _++List.filter f [y]=_;cases b with
 |true=>rw[List.filter_cons_of_pos h];rfl
 |false=>rw[List.filter_cons_of_neg (by rw[h];decide)];rfl
theorem xB(S:NS):membersD S .all=S.pl:=List.filter_eq_self.mpr λ_ _=>rfl
theorem nE{b:Bool}{ti:List b7}{a:Str}{ws:List Str}{x:Str}(p:Path (bO b ti) a ws x):∀y∈ws,y∈ti.map (·.nm):=by
 induction p with
 |nil=>exactλ_ h=>nomatch h
 |snoc p h g=>
  intro y c;rcases List.mem_append.mp c with c|c
  ·exact g y c
  ·cases List.mem_singleton.mp c;obtain⟨r,f,e⟩:=List.mem_map.mp h;refine List.mem_map.mpr ⟨r,f,?_⟩;cases b
   ·have d:=congrArg (·.1) e;exact d
   ·have d:=congrArg (·.1) e;exact d
theorem lw{C:Addr}{H:Hp}{p ds c:Addr}{S:NS}(N:gV C H p ds c S)(b:Bool):∀t∈bO b S.ti,t.2.2∈S.pl:=λt d=>by
 obtain⟨r,a,rfl⟩:=List.mem_map.mp d;cases b
 ·exact(N.okT r a).2.2
 ·exact(N.okT r a).2.1
open Classical in
theorem fG{T:List cg}{a x:Str}:reachB T a x=true↔∃ws,Path T a ws x:=by
 unfold reachB;exact decide_eq_true_iff
structure AB(H:Hp)(kt:Addr)(S:NS)(k:Kd)(b:Bool)(a wd:Str):Prop where
 tp:H kt=some (.tup [.str wd,.str a])
 nall:decide (V.str wd=V.str "all")=false
 nthese:decide (V.str wd=V.str "these")=false
 isto:decide (wd="to")=b
 istoV:decide (V.str wd=V.str "to")=b
 isfrV:decide (V.str wd=V.str "from")=!b
 ain:a∈S.pl
 mem:membersD S k=S.pl.filter λx=>reachB (bO b S.ti) a x
 win:∀ws,withinK S k ws=(decide (a∈ws)&&kM (bO b S.ti) ws)
 path:∀{ws:List Str}{x:Str},S.nms.Nodup->Path (bO b S.ti) a ws x->x∈S.pl->oY S k x (if b then ws.reverse else ws)=true
theorem o8{H:Hp}{f:Addr}{S:NS}:∀{k:Kd},fD H f k->oj S k->k=.all \/(∃ns,k=.these ns)\/∃b a g,AB H f S k b a g
 |.all,_,_=>.inl rfl
 |.these _,_,_=>.inr (.inl ⟨_,rfl⟩)
 | .from_ a,h,o=>.inr (.inr ⟨false,a,"from",h,s_from_all,s_from_these,Au,s_from_to,s_from_from,o,rfl,λ_=>rfl,λnd p e=>by
   obtain⟨l,c,d⟩:=p7 nd p;show(decide (_∈S.pl)&&decide (eY S.ti a (.list (List.map PyData.str _))=some _))=true;rw[decide_eq_true e,Bool.true_and];refine decide_eq_true ?_;rw[jt,if_neg Bool.false_ne_true,c];exact d⟩)
 | .to_ a,h,o=>.inr (.inr ⟨true,a,"to",h,s_to_all,s_to_these,CY,s_to_to,s_to_from,o,rfl,λ_=>rfl,λnd p e=>by
   obtain⟨l,c,d⟩:=wA nd p;show(decide (_∈S.pl)&&decide (eY S.ti _ (.list (List.map PyData.str _))=some a))=true;rw[decide_eq_true e,Bool.true_and];refine decide_eq_true ?_;rw[jt,if_pos rfl,c];exact d⟩)
section
variable{P:Program}{w:World}{K:PySem.W.Frag}{mg:Str->Option Value}{base:Heap}{C:Addr}
theorem i8:ax ["net","kind","found"] ["net","kind"] (af s_members_of):=⟨rfl,rfl,rfl,Qk,rfl,Qk,Qk⟩
theorem nJ{f:Addr}{fd:FuncData}(F:bZ K "members_of" "members_of" s_members_of f fd)(T:de K mg C)(cs:cj P w K mg base 2 "steps_of" ["net","word"] (kz C))(cb:cj P w K mg base 2 "steps_to_places" ["steps","a"] ra)
  (m1:dN P w K mg base 1 C "places" ["self"] (em C)):FnOk P w K mg base cY 3 f fd ["net","kind"] (ez C):=by
 refine F.ok i8 (λvs H Q E h=>?_) (λxb A outer s H vs Q E J h=>?_)
 ·obtain⟨p,ds,n,l,S,k,rfl,_⟩:=h;rfl
 ·obtain⟨p,ds,n,l,S,k,rfl,N,X,Y,q⟩:=h;have hu:=cU J;have r1:be 1 _:=J.mono Qd;have r2:be 2 _:=J.mono Qd;have Z:List.Nodup (["place","kind"]:List Str):=Qk;have xa:List.Nodup (["place","found"]:List Str):=Qk;refine⟨_,ae (aH (aE bS (ay az (pv 1) ak (λ_ _=>Qr)) aj (aM _)) (ag (av (bn (pv 0) T.cl m1 r1))) au)
   (ae (aH (aE bS (ay az (pv 1) ak (λ_ _=>Qr)) aj (aM _)) (ag (av (cM (N:=["place","kind"]) (xs:=1) (js:=[1]) rfl (aQ rfl) (bD (bn (pv 0) T.cl m1 r1))
    (λ_ _ _ _=>aO (i:=0) Z rfl (Or.inl rfl)) (λ_ _ _ _=>kG (aE (Aa K Qr) (pv 0) (ay (dX K Qr) (pv 1) ak (λ_ _=>Qr)) Qw)) (λ_ _ _ _=>pv 0)))) au)
   (ae (aF (i:=2) i8.nd rfl (Or.inr rfl) (aw cb r2 Qr (aa (aw cs J Qr (aa (pv 0) (aa (ay az (pv 1) ak (λ_ _=>Qr)) ad))) (aa (ay az (pv 1) ak (λ_ _=>Qr)) ad))))
   (ag (av (cM (N:=["place","found"]) (xs:=1) (js:=[2]) rfl (aQ rfl) (bD (bn (pv 0) T.cl m1 r1))
    (λ_ _ _ _=>aO (i:=0) xa rfl (Or.inl rfl)) (λ_ _ _ _=>kG (da (jf hu (pv 0) (pv 1)) Qw)) (λ_ _ _ _=>pv 0)))))),?_⟩
  obtain⟨dx,h1⟩:=N.net.ob;rcases o8 X Y with rfl|⟨ns,rfl⟩|⟨b,a,wd,v⟩
  ·refine⟨_,rfl,l,_,_,.str "all",rfl,rfl,bj.of X,rfl,rfl,_,rfl,cB s_all_all ?_⟩;refine⟨_,rfl,p,dx,_,rfl,h1,bL ds n Qk Qk,p,ds,n,S,rfl,N.net,λpl e=>?_⟩;exact q pl _ e (Same.new e) (by rw[ac,xB])
  ·obtain⟨nl,R,g2⟩:=X;refine⟨_,rfl,l,_,_,.str "these",rfl,rfl,bj.of R,rfl,rfl,_,rfl,aJ s_these_all ?_⟩;refine⟨_,rfl,l,_,_,.str "these",rfl,rfl,bj.of R,rfl,rfl,_,rfl,cB s_these_these ?_⟩;refine⟨_,rfl,p,dx,_,rfl,h1,bL ds n Qk Qk,p,ds,n,S,rfl,N.net,λpl e=>⟨pl,rfl,⟨_,bp.of ac⟩,?_⟩⟩;have u:=Same.new (o:=.lst (S.pl.map V.str)) e;have B:(upd H pl (.lst (S.pl.map V.str))) pl=some (.lst (S.pl.map V.str)):=ac;generalize upd H pl (.lst (S.pl.map V.str))=H1 at u B;refine cP (K:=K) (ys:=S.pl.map V.str) (λi acc c H'=>H'=H1/\acc=(((S.pl.take i).filter λx=>decide (x∈ns)).map V.str)/\∃o,c=[o,some (.ref l)])
    ⟨rfl,rfl,none,rfl⟩ (λi acc c H' h=>?_) ?_ (λi acc c H' _ h=>by rw[h.1];exact bp.of B) (λi x acc c H' j h=>?_) (λacc c H' h pp g=>?_)
   ·rw[h.2.1,List.length_map];exact Nat.le_trans (List.length_filter_le _ _) (by rw[List.length_take];omega)
   ·rw[List.length_map];exact Nat.le_trans N.fewP Qd
   ·obtain⟨rfl,rfl,o,rfl⟩:=h;rw[List.getElem?_map]at j;cases eq:S.pl[i]? with
    |none=>rw[eq]at j;cases j
    |some y=>
     rw[eq]at j;cases j;refine⟨_,rfl,_,rfl,l,_,_,.ref nl,rfl,rfl,bj.of (u _ _ R),rfl,nl,ns.map V.str,rfl,.inl (bp.of (u _ _ g2)),rfl,dz _,_,rfl,?_⟩;have ei:(if false=true then !jn (.str y) (ns.map V.str)else jn (.str y) (ns.map V.str))=decide (y∈ns):=fN y ns;show if(if false=true then !jn (.str y) (ns.map V.str)else jn (.str y) (ns.map V.str))=true then _ else _;rw[ei];by_cases m:y∈ns
     ·refine cB (decide_eq_true m) ⟨_,rfl,rfl,?_,_,rfl⟩;rw[fQ _ eq (decide_eq_true m),List.map_append];rfl
     ·refine aJ (decide_eq_false m) ⟨rfl,?_,_,rfl⟩;rw[fQ _ eq (decide_eq_false m),List.map_append];exact(List.append_nil _).symm
   ·obtain⟨rfl,rfl,o,rfl⟩:=h;rw[List.length_map,List.take_length];exact q pp _ (u.free g) (u.upd g) ac
  ·refine⟨_,rfl,l,_,_,.str wd,rfl,rfl,bj.of v.tp,rfl,rfl,_,rfl,aJ v.nall ?_⟩;refine⟨_,rfl,l,_,_,.str wd,rfl,rfl,bj.of v.tp,rfl,rfl,_,rfl,aJ v.nthese ?_⟩;refine⟨_,rfl,_,rfl,l,_,_,.str wd,rfl,rfl,bj.of v.tp,rfl,p,ds,n,S,wd,rfl,N.net,N.few,λsl H1 L xe u tr O=>?_⟩;rw[v.isto]at tr;refine⟨_,rfl,l,_,_,.str a,rfl,rfl,bj.of (u _ _ v.tp),rfl,sl,L,_,a,rfl,O,tr,by rw[gu];exact N.few,N.okP _ v.ain,λt ht=>N.okP _ (lw N b t ht),λd H2 G hd s2 fd hG W xd xc=>?_⟩;have D:=u.trans s2;have N2:=N.same D;obtain⟨M,U⟩:=N2.net.ob;refine⟨_,rfl,p,M,_,rfl,U,bL ds n Qk Qk,p,ds,n,S,rfl,N2.net,λpl e=>⟨pl,rfl,⟨_,bp.of ac⟩,?_⟩⟩;have s3:=D.upd (o:=.lst (S.pl.map V.str)) e;have z:=fd.same (Same.new (o:=.lst (S.pl.map V.str)) e);have B:(upd H2 pl (.lst (S.pl.map V.str))) pl=some (.lst (S.pl.map V.str)):=ac;generalize upd H2 pl (.lst (S.pl.map V.str))=H3 at s3 B z;refine cP (K:=K) (ys:=S.pl.map V.str) (λi acc c H'=>H'=H3/\acc=(((S.pl.take i).filter λx=>reachB (bO b S.ti) a x).map V.str)/\∃o,c=[o,some (.ref d)])
    ⟨rfl,rfl,none,rfl⟩ (λi acc c H' h=>?_) ?_ (λi acc c H' _ h=>by rw[h.1];exact bp.of B) (λi x acc c H' j h=>?_) (λacc c H' h pp g=>?_)
   ·rw[h.2.1,List.length_map];exact Nat.le_trans (List.length_filter_le _ _) (by rw[List.length_take];omega)
   ·rw[List.length_map];exact Nat.le_trans N.fewP Qd
   ·obtain⟨rfl,rfl,o,rfl⟩:=h;rw[List.getElem?_map]at j;cases eq:S.pl[i]? with
    |none=>rw[eq]at j;cases j
    |some y=>
     rw[eq]at j;cases j;refine⟨_,rfl,_,rfl,d,_,rfl,cD.k (k:=Sum.inr y) z.ob,_,rfl,?_⟩;have I:=i_ z hG W y;rw[px];by_cases m:y∈bf G
     ·rw[decide_eq_true m]at I;refine cB (decide_eq_true m) ⟨_,rfl,rfl,?_,_,rfl⟩;rw[fQ (λx=>reachB (bO b S.ti) a x) eq I,List.map_append];rfl
     ·rw[decide_eq_false m]at I;refine aJ (decide_eq_false m) ⟨rfl,?_,_,rfl⟩;rw[fQ (λx=>reachB (bO b S.ti) a x) eq I,List.map_append];exact(List.append_nil _).symm
   ·obtain⟨rfl,rfl,o,rfl⟩:=h;rw[List.length_map,List.take_length,<-v.mem];exact q pp _ (s3.free g) (s3.upd g) ac
theorem pQ:ax ["net","kind"] ["net","kind"] (af s_within_paper):=⟨rfl,rfl,rfl,Qk,rfl,Qk,Qk⟩
theorem p9{f:Addr}{fd:FuncData}(F:bZ K "within_paper" "within_paper" s_within_paper f fd)(e:cj P w K mg base 3 "members_of" ["net","kind"] (ez C)):FnOk P w K mg base cY 4 f fd ["net","kind"] (ez C):=by
 refine F.ok pQ (λvs H Q E h=>?_) (λd A outer s H vs Q E i h=>?_)
 ·obtain⟨p,ds,b,c,S,k,rfl,_⟩:=h;rfl
 ·obtain⟨p,ds,b,c,S,k,rfl,N,g,a,q⟩:=h;refine⟨_,ag (av (aw e i Qr (aa (pv 0) (aa (pv 1) ad)))),?_⟩;exact⟨_,rfl,_,rfl,p,ds,b,c,S,k,rfl,N,g,a,q⟩
theorem jZ:ax ["net","kind","place","names"] ["net","kind","place"] (af s_member_paper):=⟨rfl,rfl,rfl,Qk,rfl,Qk,Qk⟩
theorem qc{f:Addr}{fd:FuncData}(F:bZ K "member_paper" "member_paper" s_member_paper f fd)(T:de K mg C)(TS:Cc mg)(cm:cj P w K mg base 3 "members_of" ["net","kind"] (ez C))(cs:cj P w K mg base 2 "steps_of" ["net","word"] (kz C))(cb:cj P w K mg base 2 "steps_to_places" ["steps","a"] ra):
  FnOk P w K mg base cY 4 f fd ["net","kind","place"] (lF C):=by
 refine F.ok jZ (λvs H Q E h=>?_) (λxa A outer s H vs Q E I h=>?_)
 ·obtain⟨p,ds,M,j,S,k,x,rfl,_⟩:=h;rfl
 ·obtain⟨p,ds,M,j,S,k,x,rfl,N,D,B,hx,q1,q2⟩:=h;have hu:=cU I;have r1:be 1 _:=I.mono Qd;have r2:be 2 _:=I.mono Qd;refine⟨_,ae (aH (aE gH (pv 2) (aw cm I Qr (aa (pv 0) (aa (pv 1) ad))) Qw) (ag (av gk)) au)
   (ae (aH (PW.pt (gE (aE bS (ay az (pv 1) ak (λ_ _=>Qr)) aj (aM _)) (eN (aE bS (ay az (pv 1) ak (λ_ _=>Qr)) aj (aM _))))) (ag (av (aR ad))) au)
   (ae (aF (i:=3) jZ.nd rfl (Or.inl rfl) (cG hu (aw cb r2 Qr (aa (aw cs r2 Qr (aa (pv 0) (aa (ay az (pv 1) ak (λ_ _=>Qr)) ad))) (aa (ay az (pv 1) ak (λ_ _=>Qr)) ad))) (pv 2) (λ_ _=>rfl)))
   (ag (av (fm (aE bS (ay az (pv 1) ak (λ_ _=>Qr)) aj (aM _)) (nz (pv 3) rfl Qr T.list Qr TS.rev) (pv 3)))))),?_⟩
  refine⟨_,rfl,_,rfl,_,rfl,p,ds,M,j,S,k,rfl,N,D,B,λl H1 hl c el=>?_⟩;refine⟨l,_,rfl,.inl (bp.of el),rfl,dz _,_,rfl,?_⟩;show if(if true=true then !jn (.str x) ((membersD S k).map V.str)else jn (.str x) ((membersD S k).map V.str))=true then _ else _;rw[if_pos rfl,fN];by_cases m:x∈membersD S k
  ·rw[decide_eq_true m];refine aD ?_;have q:=q2 m;have n:x∈S.pl:=(List.mem_filter.mp m).1;rcases o8 (D.same c) B with rfl|⟨ns,rfl⟩|⟨b,a,wd,v⟩
   ·refine⟨_,rfl,j,_,_,.str "all",rfl,rfl,bj.of (c _ _ D),rfl,rfl,_,rfl,cB s_all_all (bC ?_)⟩;refine⟨Qd,λe u=>q e [] _ (c.free u) (c.upd u) ac Qd (λ_ h=>(nomatch h)) ?_⟩;show(decide (x∈S.pl)&&_)=true;rw[decide_eq_true n];rfl
   ·obtain⟨nl,Y,g2⟩:=D.same c;refine⟨_,rfl,j,_,_,.str "these",rfl,rfl,bj.of Y,rfl,rfl,_,rfl,aJ s_these_all ?_⟩;refine⟨_,rfl,j,_,_,.str "these",rfl,rfl,bj.of Y,rfl,rfl,_,rfl,?_⟩;rw[s_these_these];refine bC ?_;refine⟨Qd,λe u=>q e [] _ (c.free u) (c.upd u) ac Qd (λ_ h=>(nomatch h)) ?_⟩;show(decide (x∈S.pl)&&(decide (x∈ns)&&_))=true;rw[decide_eq_true n,decide_eq_true (of_decide_eq_true (List.mem_filter.mp m).2)];rfl
   ·refine⟨_,rfl,j,_,_,.str wd,rfl,rfl,bj.of v.tp,rfl,rfl,_,rfl,aJ v.nall ?_⟩;refine⟨_,rfl,j,_,_,.str wd,rfl,rfl,bj.of v.tp,rfl,rfl,_,rfl,?_⟩;rw[v.nthese];refine aD ?_;refine⟨_,rfl,_,rfl,j,_,_,.str wd,rfl,rfl,bj.of v.tp,rfl,p,ds,M,S,wd,rfl,(N.same c).net,N.few,λsl H2 L xc J tr R=>?_⟩;rw[v.isto]at tr;refine⟨_,rfl,j,_,_,.str a,rfl,rfl,bj.of (J _ _ v.tp),rfl,sl,L,_,a,rfl,R,tr,by rw[gu];exact N.few,N.okP _ v.ain,λt ht=>N.okP _ (lw N b t ht),λd H3 G hd s3 fd hG U xb W=>?_⟩;have X:x∈bf G:=by
     have h0:=m;rw[v.mem]at h0;have h1:=(List.mem_filter.mp h0).2;rw[i_ fd hG U x]at h1;exact of_decide_eq_true h1
    obtain⟨g,Z,O,eg⟩:=ij X;subst O;obtain⟨w1,w2,w3⟩:=fd.ws g Z;have o:=(c.trans J).trans s3;refine⟨_,rfl,d,_,rfl,by rw[<-eg];exact cD.k (k:=Sum.inr g.1) fd.ob,?_⟩;have mb:=v.path N.nd w2 n;have nm:=nE w2;refine⟨_,rfl,j,_,_,.str wd,rfl,rfl,bj.of (s3 _ _ (J _ _ v.tp)),rfl,rfl,_,rfl,?_⟩;rw[v.istoV];cases b with
    |true=>
     refine bC ⟨_,rfl,_,_,rfl,bp.of w1,λl2 z=>?_⟩;refine q l2 g.2.1.reverse _ (o.free z) (o.upd z) (by rw[ac,List.map_reverse]) (by rw[List.length_reverse];omega) (λy hy=>nm y (List.mem_reverse.mp hy)) mb
    |false=>
     refine aD ⟨_,rfl,?_⟩;exact q g.2.2 g.2.1 H3 ((c.trans J).free (W g Z)) o w1 Qo nm mb
  ·rw[decide_eq_false m];exact bC (q1 m H1 c)
end
inductive jJ where
 |way(a b:Str)
 |must(a b x:Str)
def xU(H:Hp)(t:Addr):jJ->Prop
 |.way a b=>H t=some (.tup [.str "way",.str a,.str b])
 |.must a b x=>H t=some (.tup [.str "must",.str a,.str b,.str x])
def xT(S:NS):jJ->Prop
 |.way a b=>a∈S.pl/\b∈S.pl
 |.must a b x=>a∈S.pl/\b∈S.pl/\x∈S.pl
def Cb(T:List cg)(x:Str):List cg:=T.filter λt=>!decide (t.2.2=x)
noncomputable def verd (S:NS):jJ->Bool
 |.way a b=>reachB (bO false S.ti) a b
 |.must a b x=>decide (a=x)|| !reachB (Cb (bO false S.ti) x) a b
def yT(S:NS)(a b:Str)(ws:List Str):Prop:=(∀y∈ws,y∈S.nms)/\eY S.ti a (.list (ws.map PyData.str))=some b
def yV(S:NS)(ws:List Str):Prop:=ws.Nodup/\∀y∈ws,y∈S.pl
def yU(S:NS)(so:Bool)(ws:List Str):jJ->Prop
 |.way a b=>(so=true->yT S a b ws)/\(so=false->yV S ws/\a∈ws/\b∉ws/\∀r∈S.ti,r.a∈ws->r.b∈ws)
 |.must a b x=>(so=false->a≠x/\yT S a b ws/\∀r∈S.ti,r.nm∈ws->r.b≠x)/\(so=true->yV S ws/\x∉ws/\b∉ws/\(a≠x->a∈ws)/\∀r∈S.ti,r.a∈ws->r.b∈ws\/r.b=x)
def q5(C:Addr)(f:jJ->Prop):Sp:=λvs H Q _=>∃(p ds a ct:Addr)(S:NS)(c:jJ),vs=[.ref p,.ref ct]/\gV C H p ds a S/\xU H ct c/\xT S c/\f c/\
 ∀(t l:Addr)(ws:List Str)(H':Hp),Same H H'->H' t=some (.tup [.bl (verd S c),.ref l])->H l=none->H' l=some (.lst (ws.map V.str))->ws.length<=100->yU S (verd S c) ws c->Q (.ref t) H'
def yO:jJ->Prop
 |.way _ _=>True
 |.must _ _ _=>False
theorem rK{ti:List b7}{r:b7}(h:r∈ti):(r.nm,r.a,r.b)∈bO false ti:=List.mem_map.mpr ⟨r,h,rfl⟩
section
variable{P:Program}{w:World}{K:PySem.W.Frag}{mg:Str->Option Value}{base:Heap}{C:Addr}
theorem oJ:ax ["net","claim","walk"] ["net","claim"] (af s_find_way):=⟨rfl,rfl,rfl,Qk,rfl,Qk,Qk⟩
theorem wO{f:Addr}{fd:FuncData}(F:bZ K "find_way" "find_way" s_find_way f fd)(G:cj P w K mg base 4 "member_paper" ["net","kind","place"] (lF C))(cw:cj P w K mg base 4 "within_paper" ["net","kind"] (ez C)):
  FnOk P w K mg base cY 5 f fd ["net","claim"] (q5 C yO):=by
 refine F.ok oJ (λvs H Q E h=>?_) (λZ A outer s H vs Q E u h=>?_)
 ·obtain⟨p,ds,I,ct,S,c,rfl,_⟩:=h;rfl
 ·obtain⟨p,ds,I,ct,S,c,rfl,N,hc,ok,hf,q⟩:=h;cases c with
  |must a b x=>exact hf.elim
  |way a b=>
   have j:H ct=some (.tup [.str "way",.str a,.str b]):=hc;refine⟨_,(ae (aF (i:=2) oJ.nd rfl (Or.inl rfl) (aw G u Qr (aa (pv 0) (aa (aK (aa aj (aa (ay az (pv 1) ak (λ_ _=>Qr)) ad))) (aa (ay az (pv 1) ak (λ_ _=>Qr)) ad)))))
   (ae (aH (da (nB (pv 2))) (ag (av (aK (aa dS (aa (aw cw u Qr (aa (pv 0) (aa (aK (aa aj (aa (ay az (pv 1) ak (λ_ _=>Qr)) ad))) ad))) ad))))) au)
   (ag (av (aK (aa dS (aa (pv 2) ad))))))),?_⟩
   refine⟨_,rfl,_,rfl,ct,_,_,.str a,rfl,rfl,bj.of j,rfl,(by show 2<=sizeLine;decide),λB M=>?_⟩;have k:=Same.new (o:=.tup [.str "from",.str a]) M;have k1:fD (upd H B (.tup [.str "from",.str a])) B (.from_ a):=ac;generalize upd H B (.tup [.str "from",.str a])=H1 at k k1;refine⟨_,rfl,ct,_,_,.str b,rfl,rfl,bj.of (k _ _ j),rfl,p,ds,I,B,S,.from_ a,b,rfl,N.same k,k1,ok.1,N.okP b ok.2,λn H2 X=>?_,λL l ws H2 O X J R U T=>?_⟩
   ·have v:verd S (.way a b)=false:=by
     cases e:verd S (.way a b)with
     |false=>rfl
     |true=>exact absurd (List.mem_filter.mpr ⟨ok.2,e⟩) n
    have g:=k.trans X;refine⟨_,rfl,_,rfl,bC ⟨_,rfl,_,rfl,ct,_,_,.str a,rfl,rfl,bj.of (g _ _ j),rfl,(by show 2<=sizeLine;decide),λd m=>?_⟩⟩;have D:=g.upd (o:=.tup [.str "from",.str a]) m;have k3:fD (upd H2 d (.tup [.str "from",.str a])) d (.from_ a):=ac;generalize upd H2 d (.tup [.str "from",.str a])=H3 at D k3;refine⟨p,ds,I,d,S,.from_ a,rfl,N.same D,k3,ok.1,λl H4 O s4 J=>⟨(by show 2<=sizeLine;decide),λt W=>?_⟩⟩;have Y:=D.trans s4;have st:=Same.new (o:=.tup [.bl false,.ref l]) W;refine q t l (membersD S (.from_ a)) _ (Y.trans st) (by rw[ac,v]) (D.free O) (st _ _ J) (Nat.le_trans (List.length_filter_le _ _) (Nat.le_trans N.fewP Qd)) ?_;refine⟨λz=>?_,λ_=>⟨⟨N.ndP.filter _,λy hy=>(List.mem_filter.mp hy).1⟩,List.mem_filter.mpr ⟨ok.1,fG.mpr ⟨[],.nil⟩⟩,n,λr u V=>?_⟩⟩
    ·rw[v]at z;cases z
    ·obtain⟨ws,pp⟩:=fG.mp (List.mem_filter.mp V).2;exact List.mem_filter.mpr ⟨(N.okT r u).2.2,fG.mpr ⟨_,.snoc pp (rK u)⟩⟩
   ·have v:verd S (.way a b)=true:=(List.mem_filter.mp L).2;have g:=k.trans X;refine⟨_,rfl,_,rfl,aD ⟨_,rfl,(by show 2<=sizeLine;decide),λt W=>?_⟩⟩;have st:=Same.new (o:=.tup [.bl true,.ref l]) W;refine q t l ws _ (g.trans st) (by rw[ac,v]) (k.free O) (st _ _ J) R ⟨λ_=>⟨U,?_⟩,λz=>?_⟩
    ·have:=Bool.and_eq_true_iff.mp T;exact of_decide_eq_true this.2
    ·rw[v]at z;cases z
theorem BU:decide (V.str "way"=V.str "way")=true:=Qk
end
structure LS where
 p:Str->Option Int
 b:Str->Option b7
def kN(s:LS)(r:b7):Bool:=match s.p r.a with
 |none=>false
 |some x=>match s.p r.b with
  |none=>true
  |some y=>decide (x+r.c<y)
def lW(s:LS)(r:b7):LS:=⟨λv=>if v=r.b then(s.p r.a).map (· +r.c)else s.p v,λv=>if v=r.b then some r else s.b v⟩
def nY(q:LS×Option Str)(r:b7):LS×Option Str:=if kN q.1 r=true then(lW q.1 r,some r.b)else q
def rO(rows:List b7)(s:LS):LS×Option Str:=rows.foldl nY (s,none)
def cE(rows:List b7):Nat->LS->LS×Option Str
 |0,s=>(s,none)
 |k+1,s=>rO rows (cE rows k s).1
theorem oZ{s:LS}{r:b7}(h:kN s r=true):∃x,s.p r.a=some x/\∀y,s.p r.b=some y->x+r.c<y:=by
 unfold kN at h;cases e:s.p r.a with
 |none=>rw[e]at h;cases h
 |some x=>
  rw[e]at h;refine⟨x,rfl,λy a=>?_⟩;rw[a]at h;exact of_decide_eq_true h
theorem lU{s:LS}{r:b7}{x:Int}(e:s.p r.a=some x):(lW s r).p r.b=some (x+r.c):=by
 show(if r.b=r.b then(s.p r.a).map (· +r.c)else s.p r.b)=_;rw[if_pos rfl,e];rfl
theorem lT{s:LS}{r:b7}{v:Str}(h:v≠r.b):(lW s r).p v=s.p v:=by
 show(if v=r.b then(s.p r.a).map (· +r.c)else s.p v)=_;rw[if_neg h]
theorem lV{s:LS}{r:b7}:(lW s r).b r.b=some r:=by
 show(if r.b=r.b then some r else s.b r.b)=_;rw[if_pos rfl]
theorem rV{s:LS}{r:b7}{v:Str}(h:v≠r.b):(lW s r).b v=s.b v:=by
 show(if v=r.b then some r else s.b v)=_;rw[if_neg h]
end Net
namespace L2
open PySem PySem.Spec PyProof.Rows
end L2
namespace Net
open PySem L2
def iz(kvs:List (aT×V))(A:List Str):Prop:=(kvs.map (·.1)).Nodup/\∀k∈kvs.map (·.1),∃x∈A,k=Sum.inr x
theorem iz.len{kvs:List (aT×V)}{A:List Str}(h:iz kvs A):kvs.length<=A.length:=by
 have:=fK h.1 (m:=A.map Sum.inr) λk a=>by
  obtain⟨x,b,rfl⟩:=h.2 k a;exact List.mem_map_of_mem b
 rw[List.length_map,List.length_map]at this;exact this
theorem iz.put{kvs:List (aT×V)}{A:List Str}(h:iz kvs A){x:Str}(l:x∈A)(v:V):iz (b5 kvs (Sum.inr x:aT) v) A:=by
 cases e:valV kvs (Sum.inr x:aT)with
 |none=>
  rw[dG _ e];have d:(Sum.inr x:aT)∉kvs.map (·.1):=λz=>by
   obtain⟨p,j,ep⟩:=List.mem_map.mp z;have:(kvs.any λkv=>decide (kv.1=(Sum.inr x:aT)))=true:=List.any_eq_true.mpr ⟨p,j,decide_eq_true ep⟩;rw[cH,e]at this;cases this
  refine⟨?_,λk c=>?_⟩
  ·rw[List.map_append,List.nodup_append];refine⟨h.1,Qs,λa g b i=>?_⟩;rw[show b=(Sum.inr x:aT)from List.mem_singleton.mp i];intro z;exact d (z▸g)
  ·rw[List.map_append]at c;rcases List.mem_append.mp c with c|c
   ·exact h.2 k c
   ·exact⟨x,l,List.mem_singleton.mp c⟩
 |some u=>
  have f:(b5 kvs (Sum.inr x:aT) v).map (·.1)=kvs.map (·.1):=by
   unfold b5;rw[cH,e,if_pos Qr,List.map_map];refine List.map_congr_left λp _=>?_;show(if p.1=(Sum.inr x:aT)then(p.1,v)else p).1=p.1;split<;>rfl
  unfold iz;rw[f];exact h
def uH(H:Hp)(dp:Addr)(A:List Str)(p:Str->Option Int):Prop:=∃kvs,H dp=some (.dK kvs)/\iz kvs A/\∀v,valV kvs (Sum.inr v:aT)=(p v).map V.int
def AM(H:Hp)(a:Addr)(A:List Str)(L:List (b7×Addr))(b:Str->Option b7):Prop:=∃kvs,H a=some (.dK kvs)/\iz kvs A/\∀v,(b v=none->valV kvs (Sum.inr v:aT)=none)/\∀r,b v=some r->∃q,(r,q)∈L/\valV kvs (Sum.inr v:aT)=some (.ref q)
def oE:Sp:=λvs H Q _=>∃(dp t:Addr)(A:List Str)(s:LS)(r:b7),vs=[.ref dp,.ref t]/\uH H dp A s.p/\H t=some (.tup r.tup)/\Q (.bl (kN s r)) H
def oA:Sp:=λvs H Q _=>∃(dp a b:Addr)(n:Nat)(A:List Str)(L:List (b7×Addr))(rows:List b7)(s:LS),vs=[.ref dp,.ref a,.ref b,.int n]/\dp≠a/\n<=1000/\A.length<=40/\(∀r∈rows,r.b∈A)/\Rows H L rows/\H b=some (.lst (L.map λq=>V.ref q.2))/\uH H dp A s.p/\AM H a A L s.b/\
 ∀H',oo H H' dp a->uH H' dp A (cE rows n s).1.p->AM H' a A L (cE rows n s).1.b->Q (ss (cE rows n s).2) H'
section
variable{P:Program}{w:World}{K:PySem.W.Frag}{mg:Str->Option Value}{base:Heap}{C:Addr}
theorem rB:ax ["prices","row"] ["prices","row"] (af s_is_lower):=⟨rfl,rfl,rfl,Qk,rfl,Qk,Qk⟩
theorem sQ{f:Addr}{fd:FuncData}(F:bZ K "is_lower" "is_lower" s_is_lower f fd):FnOk P w K mg base cY 1 f fd ["prices","row"] oE:=by
 refine F.ok rB (λvs H Q E h=>?_) (λe A outer s H vs Q E g h=>?_)
 ·obtain⟨dp,t,A,s,r,rfl,_⟩:=h;rfl
 ·obtain⟨dp,t,A,s,r,rfl,⟨kvs,b,_,d⟩,a,q⟩:=h;have c:=cU g;refine⟨_,(ae (aH (da (dw c (ay az (pv 1) ak (λ_ _=>Qr)) (pv 0))) (ag (av dS)) au)
   (ag (av (yF (sk (dw c (ay az (pv 1) ak (λ_ _=>Qr)) (pv 0))) (je (dR yG (aU ft (cG c (pv 0) (ay az (pv 1) ak (λ_ _=>Qr)) (λ_ _=>rfl)) (ay az (pv 1) ak (λ_ _=>Qr))) (cG c (pv 0) (ay az (pv 1) ak (λ_ _=>Qr)) (λ_ _=>rfl)) (aM _))))))),?_⟩
  refine⟨_,rfl,t,_,_,.str r.a,rfl,rfl,bj.of a,rfl,_,rfl,dp,_,rfl,cD.k (k:=Sum.inr r.a) b,_,rfl,?_⟩;rw[d,Option.isSome_map];cases ea:s.p r.a with
  |none=>
   refine bC ?_;unfold kN at q;rw[ea]at q;exact q
  |some x=>
   have i:valV kvs (Sum.inr r.a:aT)=some (.int x):=by rw[d,ea];rfl
   refine aD ⟨_,rfl,t,_,_,.str r.b,rfl,rfl,bj.of a,rfl,_,rfl,dp,_,rfl,cD.k (k:=Sum.inr r.b) b,_,rfl,?_⟩;rw[d,Option.isSome_map];cases eb:s.p r.b with
   |none=>
    refine bC ?_;unfold kN at q;rw[ea,eb]at q;exact q
   |some y=>
    have j:valV kvs (Sum.inr r.b:aT)=some (.int y):=by rw[d,eb];rfl
    refine aD ⟨_,rfl,_,rfl,t,_,_,.str r.a,rfl,rfl,bj.of a,rfl,dp,_,rfl,by rw[<-i];exact cD.k (k:=Sum.inr r.a) b,_,rfl,t,_,_,.int r.c,rfl,rfl,bj.of a,rfl,_,_,rfl,rfl,_,rfl,_,rfl,t,_,_,.str r.b,rfl,rfl,bj.of a,rfl,dp,_,rfl,by rw[<-j];exact cD.k (k:=Sum.inr r.b) b,_,_,rfl,rfl,?_⟩;unfold kN at q;rw[ea,eb]at q;exact q
abbrev AG:List Str:=["prices","lowered_by","rows","rounds","late","number","row"]
theorem eB:ax AG ["prices","lowered_by","rows","rounds"] (af s_lower_prices):=⟨rfl,rfl,rfl,Qk,rfl,Qk,Qk⟩
def LW(H:Hp)(dp a d:Addr)(n:Nat)(A:List Str)(L:List (b7×Addr))(q:LS×Option Str)(σ:St)(H':Hp):Prop:=∃b c,σ=[some (.ref dp),some (.ref a),some (.ref d),some (.int n),some (ss q.2),b,c]/\oo H H' dp a/\uH H' dp A q.1.p/\AM H' a A L q.1.b
theorem sM{f:Addr}{fd:FuncData}(F:bZ K "lower_prices" "lower_prices" s_lower_prices f fd)(T:de K mg C)(cl:cj P w K mg base 1 "is_lower" ["prices","row"] oE):FnOk P w K mg base cY 2 f fd ["prices","lowered_by","rows","rounds"] oA:=by
 refine F.ok eB (λvs H Q E h=>?_) (λxh A outer s H vs Q E hr h=>?_)
 ·obtain⟨dp,t,J,n,A,L,rows,s,rfl,_⟩:=h;rfl
 ·obtain⟨dp,t,J,n,A,L,rows,s,rfl,U,hn,hA,xd,O,u,m,p,q⟩:=h;have hu:=cU hr;refine⟨_,(ae (aF (i:=4) eB.nd rfl (Or.inl rfl) gk)
   (ae (cO PassesOwn.never rfl (fH rfl T.range (aa (pv 3) ad)) (aO (i:=5) eB.nd rfl (Or.inl rfl))
    (ae (aF (i:=4) eB.nd rfl (Or.inl rfl) gk)
   (ag (cO PassesOwn.never rfl (bD (pv 2)) (aO (i:=6) eB.nd rfl (Or.inl rfl))
     (ag (aH (bb (aw cl hr Qr (aa (pv 0) (aa (pv 6) ad))))
      (ae (dQ hu (pv 0) (ay az (pv 6) ak (λ_ _=>Qr)) (aU ft (cG hu (pv 0) (ay az (pv 6) ak (λ_ _=>Qr)) (λ_ _=>rfl)) (ay az (pv 6) ak (λ_ _=>Qr))) rfl)
   (ae (dQ hu (pv 1) (ay az (pv 6) ak (λ_ _=>Qr)) (pv 6) rfl)
   (ag (aF (i:=4) eB.nd rfl (Or.inl rfl) (ay az (pv 6) ak (λ_ _=>Qr)))))) au))))))
   (ag (av (pv 4))))),?_⟩
  have hL:L.length=rows.length:=by rw[<-O.1,List.length_map]
  obtain⟨kp,I,xa,xf⟩:=m;obtain⟨kb,G,Z,xe⟩:=p;have r1:J≠dp:=bM u I (λz=>by cases z);have r2:J≠t:=bM u G (λz=>by cases z);have tq:∀{H':Hp},oo H H' dp t->∀c∈L,H' c.2=some (.tup c.1.tup):=λY c N=>Y _ _ (O.2 c N) (bM (O.2 c N) I (λz=>by cases z)) (bM (O.2 c N) G (λz=>by cases z));refine⟨_,rfl,_,rfl,Qo,Qo,?_⟩;rw[Int.toNat_natCast];refine ka (n:=n) (λi g H'=>LW H dp t J n A L (cE rows i s) g H') ⟨_,_,rfl,λb o e _ _=>e,⟨kp,I,xa,xf⟩,⟨kb,G,Z,xe⟩⟩ (λi g H' hi h=>?_) (λg H' h=>?_)
  ·obtain⟨o5,o6,rfl,Y,m,p⟩:=h;refine⟨_,rfl,J,rfl,⟨_,bp.of (Y _ _ u r1 r2)⟩,cC (K:=K) (a:=J) (xs:=L.map λq=>V.ref q.2) (λj g H'=>LW H dp t J n A L ((rows.take j).foldl nY ((cE rows i s).1,none)) g H')
    ⟨_,_,rfl,Y,m,p⟩ (λj g H' _ h=>?_) (λj x g H' W h=>?_) (λg H' h=>?_)⟩
   ·obtain⟨_,_,_,D,_⟩:=h;exact bp.of (D _ _ u r1 r2)
   ·obtain⟨o5,o6,rfl,D,m,p⟩:=h;rw[List.getElem?_map]at W;cases eq:L[j]? with
    |none=>rw[eq]at W;cases W
    |some c=>
     rw[eq]at W;cases W;have N:=List.mem_of_getElem? eq;have M:=tq D c N;have er:rows[j]?=some c.1:=by rw[<-O.1,List.getElem?_map,eq];rfl
     have hb:=xd c.1 (List.mem_of_getElem? er);have xb:(rows.take (j+1)).foldl nY ((cE rows i s).1,none)=nY ((rows.take j).foldl nY ((cE rows i s).1,none)) c.1:=by
      rw[List.take_add_one,er,List.foldl_append];rfl
     rw[xb];generalize(rows.take j).foldl nY ((cE rows i s).1,none)=st at m p;refine⟨_,rfl,_,rfl,dp,c.2,A,st.1,c.1,rfl,m,M,_,rfl,?_⟩;cases hl:kN st.1 c.1 with
     |false=>
      have eg:nY st c.1=st:=by
       unfold nY;rw[if_neg (by rw[hl];exact Bool.false_ne_true)]
      rw[eg];exact aD ⟨_,_,rfl,D,m,p⟩
     |true=>
      have eg:nY st c.1=(lW st.1 c.1,some c.1.b):=by
       unfold nY;rw[if_pos hl]
      rw[eg];obtain⟨x,ex,_⟩:=oZ hl;obtain⟨kvs,ek,dk,hv⟩:=m;obtain⟨X,R,B,xg⟩:=p;have va:valV kvs (Sum.inr c.1.a:aT)=some (.int x):=by rw[hv,ex];rfl
      have l1:=dk.len;have l2:=B.len;refine bC ⟨_,rfl,_,rfl,c.2,_,_,.str c.1.a,rfl,rfl,bj.of M,rfl,dp,_,rfl,by rw[<-va];exact cD.k (k:=Sum.inr c.1.a) ek,_,rfl,c.2,_,_,.int c.1.c,rfl,rfl,bj.of M,rfl,_,_,rfl,rfl,_,rfl,_,rfl,c.2,_,_,.str c.1.b,rfl,rfl,bj.of M,rfl,dp,_,rfl,iC.k (k:=Sum.inr c.1.b) ek (aW Qo),?_⟩;have y:(upd H' dp (.dK (b5 kvs (Sum.inr c.1.b:aT) (.int (x+c.1.c))))) c.2=some (.tup c.1.tup):=by rw[ah (bM M ek (λz=>by cases z))];exact M
      have l:(upd H' dp (.dK (b5 kvs (Sum.inr c.1.b:aT) (.int (x+c.1.c))))) t=some (.dK X):=by rw[ah U.symm];exact R
      have S:(upd H' dp (.dK (b5 kvs (Sum.inr c.1.b:aT) (.int (x+c.1.c))))) dp=some (.dK (b5 kvs (Sum.inr c.1.b:aT) (.int (x+c.1.c)))):=ac;have b4:oo H (upd H' dp (.dK (b5 kvs (Sum.inr c.1.b:aT) (.int (x+c.1.c))))) dp t:=λb o e h1 h2=>by
       rw[ah h1];exact D b o e h1 h2
      generalize upd H' dp (.dK (b5 kvs (Sum.inr c.1.b:aT) (.int (x+c.1.c))))=H4 at y l S b4;refine⟨_,rfl,_,rfl,_,rfl,c.2,_,_,.str c.1.b,rfl,rfl,bj.of y,rfl,t,_,rfl,iC.k (k:=Sum.inr c.1.b) l (aW Qo),?_⟩;have xc:(upd H4 t (.dK (b5 X (Sum.inr c.1.b:aT) (.ref c.2)))) c.2=some (.tup c.1.tup):=by rw[ah (bM y l (λz=>by cases z))];exact y
      refine⟨_,rfl,c.2,_,_,.str c.1.b,rfl,rfl,bj.of xc,rfl,_,_,rfl,λb o e h1 h2=>?_,⟨_,by rw[ah U];exact S,dk.put hb _,λv=>?_⟩,⟨_,ac,B.put hb _,λv=>?_⟩⟩
      ·rw[ah h2];exact b4 b o e h1 h2
      ·rw[lp];by_cases d:v=c.1.b
       ·rw[if_pos (congrArg Sum.inr d),d,lU ex];rfl
       ·rw[if_neg (λz=>d (Sum.inr.inj z)),lT d];exact hv v
      ·rw[lp];by_cases d:v=c.1.b
       ·subst d;rw[if_pos rfl];refine⟨λz=>?_,λr z=>?_⟩
        ·rw[lV]at z;cases z
        ·rw[lV]at z;cases z;exact⟨c.2,N,rfl⟩
       ·rw[if_neg (λz=>d (Sum.inr.inj z))];show(_=none->_)/\_;rw[rV d];exact xg v
   ·have hT:(L.map λq=>V.ref q.2).length=rows.length:=by rw[List.length_map,hL]
    rw[hT,List.take_length]at h;exact h
  ·obtain⟨o5,o6,rfl,D,m,p⟩:=h;exact⟨_,rfl,q _ D m p⟩
end
inductive gr where
 |noName|twice|same|noWidth|noTie|tooMany
 deriving DecidableEq
def judge(S:NS):li->Option gr
 |.place n=>if nameB n=false then some .noName else if n∈S.pl then some .twice else if 20<S.pl.length+1 then some .tooMany else none
 | .tie r=>if nameB r.nm=false\/nameB r.a=false\/nameB r.b=false then some .noName else if r.nm∈S.nms then some .twice else if r.a=r.b then some .same else if r.w<1 then some .noWidth
   else if 40<S.ti.length+1 then some .tooMany else if 20<(cS S.pl r.a r.b).length then some .tooMany else none
 |.cut n=>if n∉S.nms then some .noTie else none
 |.alter n w _=>if n∉S.nms then some .noTie else if w<1 then some .noWidth else none
theorem b8(S:NS)(n:Str):judge S (.place n)=if nameB n=false then some .noName else if n∈S.pl then some .twice else if 20<S.pl.length+1 then some .tooMany else none:=rfl
theorem bE(S:NS)(r:b7):judge S (.tie r)=if nameB r.nm=false\/nameB r.a=false\/nameB r.b=false then some .noName else if r.nm∈S.nms then some .twice else if r.a=r.b then some .same else if r.w<1 then some .noWidth
   else if 40<S.ti.length+1 then some .tooMany else if 20<(cS S.pl r.a r.b).length then some .tooMany else none:=rfl
theorem fM(S:NS)(n:Str):judge S (.cut n)=if n∉S.nms then some .noTie else none:=rfl
theorem dh(S:NS)(n:Str)(w c:Int):judge S (.alter n w c)=if n∉S.nms then some .noTie else if w<1 then some .noWidth else none:=rfl
def okT(x:Str):Prop:=x.length<=1000/\∀c∈x.cps.toList,c<16^8
def me(i:Int):Prop:=i.natAbs.log2<1920
def li.okD:li->Prop
 |.place n=>okT n
 |.tie r=>okT r.nm/\okT r.a/\okT r.b/\me r.w
 |.cut n=>okT n
 |.alter n w _=>okT n/\me w
structure Ci(S:NS):Prop where
 p:S.pl.length<=20
 t:S.ti.length<=40
 nd:S.nms.Nodup
structure lh(K:PySem.W.Frag)(mg:Str->Option Value)(ec:gr->Addr):Prop where
 m0:mg "NoName"=some (.ref (ec .noName))
 m1:mg "Twice"=some (.ref (ec .twice))
 m2:mg "SamePlace"=some (.ref (ec .same))
 m3:mg "NoWidth"=some (.ref (ec .noWidth))
 m4:mg "NoTie"=some (.ref (ec .noTie))
 m5:mg "TooMany"=some (.ref (ec .tooMany))
 ex:∀e,PySem.W.excIn K (ec e) [.type "ValueError",.type "Exception",.type "BaseException",.type "object"] "ValueError.__new__"=true
def eM(ec:gr->Addr):Sp:=λvs H Q E=>∃(x:Str),vs=[.str x]/\okT x/\(nameB x=true->∀H',Same H H'->Q .non H')/\(nameB x=false->∀H',Same H H'->E (.ref (ec .noName)) none H')
def fg(ec:gr->Addr):Sp:=λvs H Q E=>∃(i:Int),vs=[.int i]/\me i/\(1<=i->Q .non H)/\(i<1->E (.ref (ec .noWidth)) none H)
def gh(ec:gr->Addr):Sp:=λvs H Q E=>∃(i j:Int),vs=[.int i,.int j]/\me j/\(i<=j->Q .non H)/\(j<i->E (.ref (ec .tooMany)) none H)
def iG(C:Addr)(ec:gr->Addr)(D:li)(p ds a:Addr)(S:NS)(H:Hp)(Q:VK)(E:XK):Prop:=
 (judge S D=none->∀H',NetAt C H' p ds a (S.did D)->oo H H' ds a->Q .non H')/\∀e,judge S D=some e->∀H',Same H H'->E (.ref (ec e)) none H'
def lE(C:Addr)(ec:gr->Addr):Sp:=λvs H Q E=>∃(p ds a:Addr)(S:NS)(x:Str),vs=[.ref p,.str x]/\NetAt C H p ds a S/\Ci S/\okT x/\iG C ec (.place x) p ds a S H Q E
def qW(C:Addr)(ec:gr->Addr):Sp:=λvs H Q E=>∃(p ds a:Addr)(S:NS)(r:b7),vs=[.ref p,.str r.nm,.str r.a,.str r.b,.int r.w,.int r.c]/\NetAt C H p ds a S/\Ci S/\(li.tie r).okD/\iG C ec (.tie r) p ds a S H Q E
def gW(C:Addr)(ec:gr->Addr):Sp:=λvs H Q E=>∃(p ds a:Addr)(S:NS)(x:Str),vs=[.ref p,.str x]/\NetAt C H p ds a S/\okT x/\(x∈S.nms->Q .non H)/\(x∉S.nms->E (.ref (ec .noTie)) none H)
def q_(C:Addr)(ec:gr->Addr):Sp:=λvs H Q E=>∃(p ds a:Addr)(S:NS)(x:Str),vs=[.ref p,.str x]/\NetAt C H p ds a S/\Ci S/\okT x/\iG C ec (.cut x) p ds a S H Q E
def lK(C:Addr)(ec:gr->Addr):Sp:=λvs H Q E=>∃(p ds a:Addr)(S:NS)(x:Str)(w c:Int),vs=[.ref p,.str x,.int w,.int c]/\NetAt C H p ds a S/\Ci S/\okT x/\me w/\iG C ec (.alter x w c) p ds a S H Q E
theorem okT.len{x:Str}(h:okT x):x.length<=sizeLine:=Nat.le_trans h.1 Qd
theorem okT.len5{x:Str}(h:okT x):x.length<=100000:=Nat.le_trans h.1 Qd
theorem okT.rep{x:Str}(h:okT x):(reprText x).length<=100000:=by
 have:=StrLaws.reprText_len x h.2;have:=h.1;omega
theorem okT.repS{x:Str}(h:okT x):(reprText x).length<=sizeLine:=Nat.le_trans h.rep Qd
theorem me.len{i:Int}(h:me i):(Str.ofString (toString i)).length<=sizeLine:=int_text_fits h
theorem me.len5{i:Int}(h:me i):(Str.ofString (toString i)).length<=100000:=by
 have b:=int_text_length_le (a:=i) (k:=1920) Qd h;rw[ofString_length];omega
section
variable{P:Program}{w:World}{K:PySem.W.Frag}{mg:Str->Option Value}{base:Heap}{C:Addr}{ec:gr->Addr}
theorem l_{f:Addr}{fd:FuncData}(F:bZ K "refuse_no_name" "refuse_no_name" s_refuse_no_name f fd)(T:de K mg C)(R:lh K mg ec)(b:cj P w K mg base 2 "is_name" ["word"] qX):FnOk P w K mg base (e8 P w) 3 f fd ["word"] (eM ec):=by
 refine F.okX nc (λvs H Q E h=>?_) (λc A outer s H vs Q E d W h=>?_)
 ·obtain⟨x,rfl,_⟩:=h;rfl
 ·obtain⟨x,rfl,a,k1,k2⟩:=h;refine⟨_,ag (aH (d6 (bb (aw b d Qr (aa (pv 0) ad)))) (ag (cT W rfl Qr R.m0 (R.ex _) PySem.F.excBase_ValueError (aa (df (bu (jd (pv 0)) (bu aj d7)) Qd) ad))) au),?_⟩;refine⟨_,rfl,x,rfl,a.len,λH' s'=>⟨_,rfl,?_⟩⟩;cases hn:nameB x with
  |true=>exact aD (k1 hn H' s')
  |false=>exact bC ⟨_,rfl,.inl ⟨x,rfl,a.repS,_,rfl,a.rep,_,rfl,Qk,by show 1<=sizeLine;decide,k2 hn H' s'⟩⟩
theorem kK{f:Addr}{fd:FuncData}(F:bZ K "refuse_no_width" "refuse_no_width" s_refuse_no_width f fd)(T:de K mg C)(R:lh K mg ec)(c:cj P w K mg base 1 "is_whole" ["thing"] oy):FnOk P w K mg base (e8 P w) 2 f fd ["width"] (fg ec):=by
 refine F.okX lM (λvs H Q E h=>?_) (λd A outer s H vs Q E e W h=>?_)
 ·obtain⟨x,rfl,_⟩:=h;rfl
 ·obtain⟨x,rfl,b,k1,k2⟩:=h;refine⟨_,ag (aH (PW.pt (gE (d6 (bb (aw c e Qr (aa (pv 0) ad)))) (eN (aE yG (pv 0) ak (aM _)))))
   (ag (cT W rfl Qr R.m3 (R.ex _) PySem.F.excBase_ValueError (aa (df (bu (jd (pv 0)) (bu aj d7)) Qd) ad))) au),?_⟩
  refine⟨_,rfl,x,rfl,true,rfl,aD ⟨_,rfl,_,_,rfl,rfl,_,rfl,tL (λh=>?_) (λh=>?_)⟩⟩
  ·have a:x<1:=of_decide_eq_true h;exact⟨_,rfl,.inr ⟨x,rfl,b,b.len,_,rfl,b.len5,_,rfl,Qk,by show 1<=sizeLine;decide,k2 a⟩⟩
  ·exact k1 (by have:¬x<1:=λz=>h (decide_eq_true z);omega)
theorem ma{f:Addr}{fd:FuncData}(F:bZ K "refuse_more" "refuse_more" s_refuse_more f fd)(T:de K mg C)(R:lh K mg ec):FnOk P w K mg base (e8 P w) 1 f fd ["many","most"] (gh ec):=by
 refine F.okX ng (λvs H Q E h=>?_) (λb A outer s H vs Q E c W h=>?_)
 ·obtain⟨x,y,rfl,_⟩:=h;rfl
 ·obtain⟨x,y,rfl,a,k1,k2⟩:=h;refine⟨_,ag (aH (aE yI (pv 0) (pv 1) (aM _)) (ag (cT W rfl Qr R.m5 (R.ex _) PySem.F.excBase_ValueError (aa (df (bu (h8 (pv 1)) (bu aj d7)) Qd) ad))) au),?_⟩;refine⟨_,rfl,_,rfl,_,_,rfl,rfl,_,rfl,tL (λh=>?_) (λh=>?_)⟩
  ·exact⟨_,rfl,.inr ⟨y,rfl,a,_,rfl,a.len5,_,rfl,Qk,by show 1<=sizeLine;decide,k2 (of_decide_eq_true h)⟩⟩
  ·exact k1 (by have:¬y<x:=λz=>h (decide_eq_true z);omega)
theorem qb{f:Addr}{fd:FuncData}(F:bZ K "place" "Net.place" s_Net_place f fd)(T:de K mg C)(R:lh K mg ec)(v:eU P w K mg base 3 "refuse_no_name" ["word"] (eM ec))(B:eU P w K mg base 1 "refuse_more" ["many","most"] (gh ec)):
  FnOk P w K mg base (e8 P w) 4 f fd ["self","name"] (lE C ec):=by
 refine F.okX rp (λvs H Q E h=>?_) (λD A outer s H vs Q E m W h=>?_)
 ·obtain⟨p,ds,G,S,x,rfl,_⟩:=h;rfl
 ·obtain⟨p,ds,G,S,x,rfl,N,I,n,k,kE⟩:=h;have u:=cU m;refine⟨_,ae (aG (cK v W m Qr (aa (pv 1) ad)))
   (ae (aH (da (jf u (pv 1) (aY (pv 0) rfl))) (ag (cT W rfl Qr R.m1 (R.ex _) PySem.F.excBase_ValueError (aa (df (bu aj (bu (h8 (pv 1)) d7)) Qd) ad))) au)
   (ae (aG (cK B W (m.mono Qd) Qr (aa (aU ft (aI fU Qr T.len jG (aa (aY (pv 0) rfl) ad)) ak) (aa (bR T.mostP Qr) ad))))
   (ag (dQ u (aY (pv 0) rfl) (pv 1) dS rfl)))),?_⟩
  refine⟨_,rfl,x,rfl,n,λhn H1 d=>?_,λhn H1 d=>kE .noName (by rw[b8,if_pos hn]) H1 d⟩;obtain⟨⟨dx,h1⟩,h2,⟨L,⟨O,U⟩,J⟩,ne⟩:=N;have g:=d _ _ h1;have i:=d _ _ h2;have nn:¬nameB x=false:=by rw[hn];decide
  refine⟨_,rfl,_,rfl,p,C,dx,_,_,rfl,g,T.cl,T.nS,dY _ _,ds,_,rfl,cD.k (k:=Sum.inr x) i,_,rfl,?_⟩;rw[x_];by_cases a:x∈S.pl
  ·rw[decide_eq_true a];exact bC ⟨_,rfl,Qk,_,rfl,.inl ⟨x,rfl,n.len,_,rfl,n.len5,by show 1<=sizeLine;decide,kE .twice (by rw[b8,if_neg nn,if_pos a]) H1 d⟩⟩
  rw[decide_eq_false a];refine aD ?_;have c:(dt S).length=S.pl.length:=by unfold dt;rw[List.length_map]
  refine⟨_,rfl,p,C,dx,_,_,rfl,g,T.cl,T.nS,dY _ _,ds,_,rfl,i,_,_,rfl,rfl,_,_,rfl,by show(20:Nat).log2 <1920;decide,λl=>?_,λj=>kE .tooMany (by rw[b8,if_neg nn,if_neg a,if_pos (by rw[c]at j;omega)]) H1 d⟩;rw[c]at l;refine⟨_,rfl,p,C,dx,_,_,rfl,g,T.cl,T.nS,dY _ _,_,rfl,ds,_,rfl,iC.k (k:=Sum.inr x) i (aW (by rw[c];omega)),?_⟩;have t:p≠ds:=bM g i (by intro z;cases z);have e:b5 (dt S) (Sum.inr x:aT) (V.bl true)=dt ⟨S.pl++[x],S.ti⟩:=by
   rw[dG _ (ky a)];unfold dt;rw[List.map_append];rfl
  refine k (by rw[b8,if_neg nn,if_neg a,if_neg Qo]) _ ⟨⟨dx,by rw[ah t];exact g⟩,by rw[ac,e];rfl,⟨L,⟨O,λq M=>?_⟩,by rw[ah ne.symm];exact d _ _ J⟩,ne⟩ λb o z z1 z2=>by rw[ah z1];exact d _ _ z
  have z:=d _ _ (U q M);rw[ah (bM z i (by intro y;cases y))];exact z
theorem nI{f:Addr}{fd:FuncData}(F:bZ K "refuse_no_tie" "Net.refuse_no_tie" s_Net_refuse_no_tie f fd)(T:de K mg C)(R:lh K mg ec):FnOk P w K mg base (e8 P w) 1 f fd ["self","name"] (gW C ec):=by
 refine F.okX pR (λvs H Q E h=>?_) (λe A outer s H vs Q E j W h=>?_)
 ·obtain⟨p,ds,b,S,x,rfl,_⟩:=h;rfl
 ·obtain⟨p,ds,b,S,x,rfl,N,c,k1,k2⟩:=h;have l:=cU j;obtain⟨⟨dx,h1⟩,h2,⟨L,⟨d,m⟩,g⟩,ne⟩:=N;refine⟨_,ag (aH (da (dw l (pv 1) (aY (pv 0) rfl))) (ag (cT W rfl Qr R.m4 (R.ex _) PySem.F.excBase_ValueError (aa (df (bu aj (bu (jd (pv 1)) d7)) Qd) ad))) au),?_⟩;refine⟨_,rfl,_,rfl,p,C,dx,_,_,rfl,h1,T.cl,T.nL,dv _ _,b,_,rfl,cD.k (k:=Sum.inr x) g,_,rfl,?_⟩;by_cases a:x∈S.nms
  ·obtain⟨q,_,_,i⟩:=iK d a;rw[i];exact aD (k1 a)
  ·rw[kO d a];exact bC ⟨_,rfl,Qk,_,rfl,.inl ⟨x,rfl,c.repS,_,rfl,c.rep,by show 1<=sizeLine;decide,k2 a⟩⟩
end
section
variable{P:Program}{w:World}{K:PySem.W.Frag}{mg:Str->Option Value}{base:Heap}{C:Addr}{ec:gr->Addr}
theorem wP{f:Addr}{fd:FuncData}(F:bZ K "cut" "Net.cut" s_Net_cut f fd)(T:de K mg C)(n:ba P w K mg base 1 C "refuse_no_tie" ["self","name"] (gW C ec)):
  FnOk P w K mg base (e8 P w) 2 f fd ["self","name"] (q_ C ec):=by
 refine F.okX zJ (λvs H Q E h=>?_) (λt A outer s H vs Q E l W h=>?_)
 ·obtain⟨p,ds,a,S,x,rfl,_⟩:=h;rfl
 ·obtain⟨p,ds,a,S,x,rfl,N,u,g,k,kE⟩:=h;have G:=cU l;obtain⟨⟨dx,h1⟩,h2,⟨L,⟨m,D⟩,c⟩,ne⟩:=id N;refine⟨_,ae (aG (bq (pv 0) T.cl n W l (aa (pv 1) ad))) (ag (aG (lY (aY (pv 0) rfl) (pv 1) ⟨rfl,rfl,rfl,rfl⟩))),?_⟩;refine⟨_,rfl,p,dx,_,rfl,h1,bL _ _ Qk Qk,_,rfl,p,ds,a,S,x,rfl,N,g,λd=>?_,λd=>kE .noTie (by rw[fM,if_pos d]) H (Same.refl H)⟩;obtain⟨q,v,B,i⟩:=iK m d;refine⟨_,rfl,p,C,dx,_,_,rfl,h1,T.cl,T.nL,dv _ _,a,rfl,.inl ⟨_,.inl c⟩,_,rfl,bY L,Sum.inr x,_,c,rfl,i,?_⟩;have j:p≠a:=bM h1 c (by intro z;cases z);have e:gc (bY L) (Sum.inr x:aT)=bY (L.filter λq=>!decide (q.1.nm=x)):=by
   unfold gc bY;rw[List.filter_map];congr 1;refine List.filter_congr λq _=>?_;show decide ((Sum.inr q.1.nm:aT)≠Sum.inr x)=!decide (q.1.nm=x);by_cases e:q.1.nm=x
   ·simp[e]
   ·have:¬(Sum.inr q.1.nm:aT)=Sum.inr x:=λz=>e (Sum.inr.inj z);simp[e,this]
  refine k (by rw[fM,if_neg (λz=>z d)]) _ ⟨⟨dx,by rw[ah j];exact h1⟩,by rw[ah ne];exact h2,⟨L.filter λq=>!decide (q.1.nm=x),⟨?_,λq i=>?_⟩,by rw[ac,e]⟩,ne⟩ λb o z z1 z2=>by rw[ah z2];exact z
  ·show _=S.ti.filter _;rw[<-m,List.filter_map];rfl
  ·have z:=D q (List.mem_filter.mp i).1;rw[ah (bM z c (by intro y;cases y))];exact z
theorem tE{H:Hp}{L:List (b7×Addr)}{S:NS}{x:Str}{w' c:Int}{t f:Addr}{a:b7×Addr}(k:L.map (·.1)=S.ti)(s:∀q∈L,H q.2=some (.tup q.1.tup))(m:H f=some (.dK (bY L)))(g:S.nms.Nodup)(i:a∈L)(d:a.1.nm=x)
  (p:valV (bY L) (Sum.inr x:aT)=some (.ref a.2))(n:H t=none):
  ∃l,Rows (upd (upd H t (.tup [V.str x,V.str a.1.a,V.str a.1.b,V.int w',V.int c])) f (.dK (b5 (bY L) (Sum.inr x:aT) (V.ref t)))) l (lg S.ti x w' c)/\b5 (bY L) (Sum.inr x:aT) (V.ref t)=bY l:=by
 have st:Same H (upd H t (.tup [V.str x,V.str a.1.a,V.str a.1.b,V.int w',V.int c])):=Same.new n;have j:f≠t:=ai m n;have e:b5 (bY L) (Sum.inr x:aT) (V.ref t)=bY (L.map λq=>if q.1.nm=x then(q.1.upd w' c,t)else q):=by
  unfold b5;rw[cH,p];simp only[Option.isSome_some,if_true];unfold bY;rw[List.map_map,List.map_map];refine List.map_congr_left λq _=>?_;show(if(Sum.inr q.1.nm:aT)=Sum.inr x then((Sum.inr q.1.nm:aT),V.ref t)else((Sum.inr q.1.nm:aT),V.ref q.2))=_;by_cases z:q.1.nm=x
  ·rw[if_pos (by rw[z])];show _=((Sum.inr (if q.1.nm=x then(q.1.upd w' c,t)else q).1.nm:aT),V.ref (if q.1.nm=x then(q.1.upd w' c,t)else q).2);rw[if_pos z];rfl
  ·rw[if_neg (λy=>z (Sum.inr.inj y))];show _=((Sum.inr (if q.1.nm=x then(q.1.upd w' c,t)else q).1.nm:aT),V.ref (if q.1.nm=x then(q.1.upd w' c,t)else q).2);rw[if_neg z]
 refine⟨_,⟨?_,λq h=>?_⟩,e⟩
 ·unfold lg;rw[<-k,List.map_map,List.map_map];refine List.map_congr_left λq _=>?_;show(if q.1.nm=x then(q.1.upd w' c,t)else q).1=if q.1.nm=x then q.1.upd w' c else q.1;split<;>rfl
 ·obtain⟨q0,b,rfl⟩:=List.mem_map.mp h;by_cases z:q0.1.nm=x
  ·rw[if_pos z];have o:q0.1=a.1:=Ah g (by rw[<-k];exact List.mem_map.mpr ⟨q0,b,rfl⟩) (by rw[<-k];exact List.mem_map.mpr ⟨a,i,rfl⟩) (z.trans d.symm);rw[ah j.symm,ac,o];show some (HO.tup [V.str x,_,_,_,_])=some (HO.tup [V.str a.1.nm,_,_,_,_]);rw[d];rfl
  ·rw[if_neg z];have y:=s q0 b;rw[ah (bM y m (by intro v;cases v))];exact st _ _ y
theorem ql{f:Addr}{fd:FuncData}(F:bZ K "alter" "Net.alter" s_Net_alter f fd)(T:de K mg C)(m1:ba P w K mg base 1 C "refuse_no_tie" ["self","name"] (gW C ec))(X:eU P w K mg base 2 "refuse_no_width" ["width"] (fg ec)):
  FnOk P w K mg base (e8 P w) 3 f fd ["self","name","width","cost"] (lK C ec):=by
 refine F.okX lP (λvs H Q E h=>?_) (λY A outer s H vs Q E y W h=>?_)
 ·obtain⟨p,ds,g,S,x,w',c,rfl,_⟩:=h;rfl
 ·obtain⟨p,ds,g,S,x,w',c,rfl,N,j,u,q,k,kE⟩:=h;have M:=cU y;obtain⟨⟨dx,h1⟩,h2,⟨L,⟨D,O⟩,m⟩,ne⟩:=id N;refine⟨_,ae (aG (bq (pv 0) T.cl m1 W (y.mono Qd) (aa (pv 1) ad)))
   (ae (aG (cK X W y Qr (aa (pv 2) ad)))
   (ae (aF (i:=4) lP.nd rfl (Or.inl rfl) (cG M (aY (pv 0) rfl) (pv 1) (λ_ _=>rfl)))
   (ag (dQ M (aY (pv 0) rfl) (pv 1) (aK (aa (pv 1) (aa (ay az (pv 4) ak (λ_ _=>rfl)) (aa (ay az (pv 4) ak (λ_ _=>rfl)) (aa (pv 2) (aa (pv 3) ad)))))) rfl)))),?_⟩
  refine⟨_,rfl,p,dx,_,rfl,h1,bL _ _ Qk Qk,_,rfl,p,ds,g,S,x,rfl,N,u,λn=>?_,λn=>kE .noTie (by rw[dh,if_pos n]) H (Same.refl H)⟩;have nx:¬x∉S.nms:=λz=>z n;obtain⟨d,l,v,I⟩:=iK D n;refine⟨_,rfl,w',rfl,q,λhw=>?_,λhw=>kE .noWidth (by rw[dh,if_neg nx,if_pos hw]) H (Same.refl H)⟩;refine⟨_,rfl,p,C,dx,_,_,rfl,h1,T.cl,T.nL,dv _ _,_,rfl,g,.ref d.2,rfl,(by have:=cD.k (k:=(Sum.inr x:aT)) m;rw[I]at this;exact this),?_⟩;have a:=O d l;refine⟨_,rfl,_,rfl,d.2,_,_,.str d.1.a,rfl,rfl,bj.of a,rfl,_,rfl,d.2,_,_,.str d.1.b,rfl,rfl,bj.of a,rfl,_,rfl,_,rfl,(by show 5<=sizeLine;decide),λt J=>?_⟩;have st:Same H (upd H t (.tup [V.str x,V.str d.1.a,V.str d.1.b,V.int w',V.int c])):=Same.new J;have Z:=st _ _ m;have G:(bY L).length=S.ti.length:=by unfold bY;rw[List.length_map,<-D,List.length_map]
  have xa:=j.t;refine⟨_,rfl,p,C,dx,_,_,rfl,st _ _ h1,T.cl,T.nL,dv _ _,_,rfl,g,_,rfl,iC.k (k:=Sum.inr x) Z (aW Qo),?_⟩;have B:p≠g:=bM h1 m (by intro z;cases z);obtain⟨R,U,e⟩:=tE (w':=w') (c:=c) D O m j.nd l v I J;exact k (by rw[dh,if_neg nx,if_neg Qo]) _ ⟨⟨dx,by rw[ah B];exact st _ _ h1⟩,by rw[ah ne];exact st _ _ h2,⟨R,U,by rw[ac,e]⟩,ne⟩ λb o z z1 z2=>by rw[ah z2];exact st _ _ z
theorem wH{f:Addr}{fd:FuncData}(F:bZ K "tie" "Net.tie" s_Net_tie f fd)(T:de K mg C)(R:lh K mg ec)(c1:eU P w K mg base 3 "refuse_no_name" ["word"] (eM ec))(c2:eU P w K mg base 2 "refuse_no_width" ["width"] (fg ec))(c3:eU P w K mg base 1 "refuse_more" ["many","most"] (gh ec)):
  FnOk P w K mg base (e8 P w) 4 f fd ["self","name","a","b","width","cost"] (qW C ec):=by
 refine F.okX kB (λvs H Q E h=>?_) (λxq A outer s H vs Q E hr W h=>?_)
 ·obtain⟨p,ds,dl,S,r,rfl,_⟩:=h;rfl
 ·obtain⟨p,ds,dl,S,r,rfl,N,xr,⟨o1,o2,o3,o4⟩,k,kE⟩:=h;have hu:=cU hr;refine⟨_,ae (cO W.own rfl (jb (aK (aa (pv 1) (aa (pv 2) (aa (pv 3) ad))))) (aO (i:=6) kB.nd rfl (Or.inl rfl)) (ag (aG (cK c1 W hr Qr (aa (pv 6) ad)))))
   (ae (aH (da (jf hu (pv 1) (aY (pv 0) rfl))) (ag (cT W rfl Qr R.m1 (R.ex _) PySem.F.excBase_ValueError (aa (df (bu aj (bu (h8 (pv 1)) d7)) Qd) ad))) au)
   (ae (aH (aE bS (pv 2) (pv 3) (aM _)) (ag (cT W rfl Qr R.m2 (R.ex _) PySem.F.excBase_ValueError (aa (df (bu (h8 (pv 1)) (bu aj (bu (h8 (pv 2)) (bu aj d7)))) Qd) ad))) au)
   (ae (aG (cK c2 W (hr.mono Qd) Qr (aa (pv 4) ad)))
   (ae (iI (j:=7) (N:=["end","self"]) (xs:=1) (js:=[0]) rfl kB.nd rfl rfl (aQ rfl) (jb (aK (aa (pv 2) (aa (pv 3) ad)))) (λ_ _ _ _=>aO (i:=0) (show List.Nodup (["end","self"]:List Str)by decide+kernel) rfl (Or.inl rfl))
    (λ_ _ _ _=>kG (da (dw hu (pv 0) (vX K Qr (pv 1) Qr)))) (λ_ _ _ _=>pv 0) rfl)
   (ae (aG (cK c3 W (hr.mono Qd) Qr (aa (aU ft (aI fU Qr T.len jG (aa (aY (pv 0) rfl) ad)) ak) (aa (bR T.mostT Qr) ad))))
   (ae (aG (cK c3 W (hr.mono Qd) Qr (aa (aU ft (aI fU Qr T.len jG (aa (aY (pv 0) rfl) ad)) (aI gR Qr T.len jG (aa (pv 7) ad))) (aa (bR T.mostP Qr) ad))))
   (ae (cO W.own rfl (bD (pv 7)) (aO (i:=8) kB.nd rfl (Or.inl rfl)) (ag (dQ hu (aY (pv 0) rfl) (pv 8) dS rfl)))
   (ag (dQ hu (aY (pv 0) rfl) (pv 1) (aK (aa (pv 1) (aa (pv 2) (aa (pv 3) (aa (pv 4) (aa (pv 5) ad)))))) rfl))))))))),?_⟩
  refine⟨_,rfl,_,rfl,_,rfl,(by show 3<=sizeLine;decide),λt ht=>⟨t,rfl,⟨_,bj.of ac⟩,?_⟩⟩;have st:Same H (upd H t (.tup [V.str r.nm,V.str r.a,V.str r.b])):=Same.new ht;have et:(upd H t (.tup [V.str r.nm,V.str r.a,V.str r.b])) t=some (.tup [V.str r.nm,V.str r.a,V.str r.b]):=ac;generalize upd H t (.tup [V.str r.nm,V.str r.a,V.str r.b])=H1 at st et;refine pw (K:=K) (a:=t) (xs:=[V.str r.nm,V.str r.a,V.str r.b]) (λi c H'=>(∃v,c=[some (.ref p),some (.str r.nm),some (.str r.a),some (.str r.b),some (.int r.w),some (.int r.c),v,none,none])/\Same H1 H'/\∀y∈ [r.nm,r.a,r.b].take i,nameB y=true)
   ⟨⟨_,rfl⟩,Same.refl H1,λy J=>by simp at J⟩ (λi c H' _ h=>bj.of (h.2.1 _ _ et)) (λi x c H' d h=>?_) (λc H' h=>?_)
  ·obtain⟨⟨v,rfl⟩,s1,l⟩:=h;obtain⟨y,rfl,J,hok⟩:∃y,x=V.str y/\[r.nm,r.a,r.b][i]?=some y/\okT y:=by
    match i,d with
    |0,d=>exact⟨_,(Option.some.inj d).symm,rfl,o1⟩
    |1,d=>exact⟨_,(Option.some.inj d).symm,rfl,o2⟩
    |2,d=>exact⟨_,(Option.some.inj d).symm,rfl,o3⟩
    |n+3,d=>simp at d
   refine⟨_,rfl,y,rfl,hok,λhn H2 s2=>⟨⟨_,rfl⟩,s1.trans s2,λz hz=>?_⟩,λhn H2 s2=>kE .noName ?_ H2 (st.trans (s1.trans s2))⟩
   ·rw[List.take_add_one,J]at hz;rcases List.mem_append.mp hz with hz|hz
    ·exact l z hz
    ·have:z=y:=by simpa using hz
     rw[this];exact hn
   ·have hm:y∈ [r.nm,r.a,r.b]:=List.mem_of_getElem? J;simp only[List.mem_cons,List.not_mem_nil,or_false]at hm;rw[bE,if_pos];rcases hm with e|e|e
    ·exact .inl (e▸hn)
    ·exact .inr (.inl (e▸hn))
    ·exact .inr (.inr (e▸hn))
  obtain⟨⟨v,rfl⟩,s1,l⟩:=h;have n1:nameB r.nm=true:=l _ (by show r.nm∈ [r.nm,r.a,r.b];simp);have n2:nameB r.a=true:=l _ (by show r.a∈ [r.nm,r.a,r.b];simp);have n3:nameB r.b=true:=l _ (by show r.b∈ [r.nm,r.a,r.b];simp);have q0:¬(nameB r.nm=false\/nameB r.a=false\/nameB r.b=false):=by rw[n1,n2,n3];simp
  have sA:=st.trans s1;obtain⟨⟨dx,h1⟩,h2,⟨L,R,h3⟩,ne⟩:=N.same sA;refine⟨_,rfl,_,rfl,p,C,dx,_,_,rfl,h1,T.cl,T.nL,dv _ _,dl,_,rfl,cD.k (k:=Sum.inr r.nm) h3,_,rfl,?_⟩;by_cases hn:r.nm∈S.nms
  ·obtain⟨q,_,_,Y⟩:=iK R.1 hn;rw[Y];exact bC ⟨_,rfl,Qk,_,rfl,.inl ⟨r.nm,rfl,o1.len,_,rfl,o1.len5,by show 1<=sizeLine;decide,kE .twice (by rw[bE,if_neg q0,if_pos hn]) H' sA⟩⟩
  rw[kO R.1 hn];refine aD ?_;refine⟨_,rfl,_,rfl,rfl,_,rfl,?_⟩;by_cases g:r.a=r.b
  ·rw[decide_eq_true (by rw[g])];exact bC ⟨_,rfl,.inl ⟨r.nm,rfl,o1.len,_,rfl,o1.len5,_,rfl,Qk,_,rfl,.inl ⟨r.a,rfl,o2.len,_,rfl,o2.len5,_,rfl,Qk,by show 1<=sizeLine;decide,kE .same (by rw[bE,if_neg q0,if_neg hn,if_pos g]) H' sA⟩⟩⟩
  rw[decide_eq_false (λz=>g (by injection z))];refine aD ⟨_,rfl,r.w,rfl,o4,λhw=>?_,λhw=>kE .noWidth (by rw[bE,if_neg q0,if_neg hn,if_neg g,if_pos hw]) H' sA⟩;have Z:¬r.w<1:=Qo;refine⟨_,rfl,_,rfl,(by show 2<=sizeLine;decide),λt2 xl=>⟨t2,rfl,⟨_,bj.of ac⟩,?_⟩⟩;have O:Same H' (upd H' t2 (.tup [V.str r.a,V.str r.b])):=Same.new xl;have xb:(upd H' t2 (.tup [V.str r.a,V.str r.b])) t2=some (.tup [V.str r.a,V.str r.b]):=ac;generalize upd H' t2 (.tup [V.str r.a,V.str r.b])=H2 at O xb;have g1:=O _ _ h1;have g2:=O _ _ h2;have g3:=O _ _ h3;refine mH (K:=K) (a:=t2) (ys:=[r.a,r.b].map V.str) (λi acc c H'=>H'=H2/\acc=(([r.a,r.b].take i).filter λx=>!decide (x∈S.pl)).map V.str/\∃o,c=[o,some (.ref p)]) ⟨rfl,rfl,none,rfl⟩ (λi acc c H' h=>?_) (by show 2<=sizeLine;decide)
   (λi acc c H' _ h=>by rw[h.1];exact bj.of xb) (λi x acc c H' d h=>?_) (λacc c D h M xk=>?_)
  ·obtain⟨_,rfl,_⟩:=h;rw[List.length_map];exact Nat.le_trans (List.length_filter_le _ _) (by rw[List.length_take];omega)
  ·obtain⟨rfl,rfl,o,rfl⟩:=h;rw[List.getElem?_map]at d;cases ex:[r.a,r.b][i]? with
   |none=>rw[ex]at d;cases d
   |some y=>
    rw[ex]at d;cases d;refine⟨_,rfl,_,rfl,p,C,dx,_,_,rfl,g1,T.cl,T.nS,dY _ _,ds,_,rfl,cD.k (k:=Sum.inr y) g2,_,rfl,?_⟩;rw[x_];by_cases J:y∈S.pl
    ·rw[decide_eq_true J];refine aD ⟨rfl,?_,_,rfl⟩;rw[List.take_add_one,ex,List.filter_append];simp[J]
    ·rw[decide_eq_false J];refine bC ⟨_,rfl,rfl,?_,_,rfl⟩;rw[List.take_add_one,ex,List.filter_append,List.map_append];simp[J]
  obtain⟨rfl,rfl,o,rfl⟩:=h;have xi:([r.a,r.b].take ([r.a,r.b].map V.str).length)=[r.a,r.b]:=rfl;rw[xi];generalize hnew:([r.a,r.b].filter λx=>!decide (x∈S.pl))=new;have xa:cS S.pl r.a r.b=S.pl++new:=by rw[<-hnew];rfl
  have xf:new.Nodup/\∀x∈new,x∉S.pl:=by
   rw[<-hnew];refine⟨?_,λx d=>by simpa using(List.mem_filter.mp d).2⟩;refine List.Pairwise.filter _ ?_;simp[g]
  have U:Same D (upd D M (.lst (new.map V.str))):=Same.new xk;have B:(upd D M (.lst (new.map V.str))) M=some (.lst (new.map V.str)):=ac;generalize upd D M (.lst (new.map V.str))=H3 at U B;have k1:=U _ _ g1;have k2:=U _ _ g2;have k3:=U _ _ g3;have xh:Same H H3:=sA.trans (O.trans U);have xe:(bY L).length=S.ti.length:=by unfold bY;rw[List.length_map,<-R.1,List.length_map]
  have xg:(dt S).length=S.pl.length:=by unfold dt;rw[List.length_map]
  refine⟨_,rfl,p,C,dx,_,_,rfl,k1,T.cl,T.nL,dv _ _,dl,_,rfl,k3,_,_,rfl,rfl,_,_,rfl,by show(40:Nat).log2 <1920;decide,λxd=>?_,λX=>kE .tooMany (by rw[bE,if_neg q0,if_neg hn,if_neg g,if_neg Z,if_pos (by rw[xe]at X;omega)]) H3 xh⟩;rw[xe]at xd;refine⟨_,rfl,p,C,dx,_,_,rfl,k1,T.cl,T.nS,dY _ _,ds,_,rfl,k2,_,rfl,M,_,rfl,.inl (bp.of B),_,_,rfl,rfl,_,_,rfl,by show(20:Nat).log2 <1920;decide,λxc=>?_,λX=>kE .tooMany (by
   rw[bE,if_neg q0,if_neg hn,if_neg g,if_neg Z,if_neg Qo,if_pos];rw[xa,List.length_append];rw[xg,List.length_map]at X;omega) H3 xh⟩
  rw[xg,List.length_map]at xc;have xn:M≠ds:=bM B k2 (by intro z;cases z);refine⟨_,rfl,M,rfl,⟨_,bp.of B⟩,cC (K:=K) (a:=M) (xs:=new.map V.str) (λi c H'=>i<=new.length/\(∃e,c=[some (.ref p),some (.str r.nm),some (.str r.a),some (.str r.b),some (.int r.w),some (.int r.c),v,some (.ref M),e])/\H' ds=some (.dK (dt ⟨S.pl++new.take i,S.ti⟩))/\∀b ob,H3 b=some ob->b≠ds->H' b=some ob)
   ⟨Nat.zero_le _,⟨_,rfl⟩,by rw[List.take_zero,List.append_nil];exact k2,λb ob e _=>e⟩ (λi c H' _ h=>bp.of (h.2.2.2 _ _ B xn)) (λi x c H' d h=>?_) (λc H4 h=>?_)⟩
  ·obtain⟨hi,⟨e0,rfl⟩,G,kp⟩:=h;rw[List.getElem?_map]at d;cases ex:new[i]? with
   |none=>rw[ex]at d;cases d
   |some y=>
    rw[ex]at d;cases d;have xj:i<new.length:=(List.getElem?_eq_some_iff.mp ex).1;have xm:y∉S.pl++new.take i:=by
     intro m;rcases List.mem_append.mp m with z|z
     ·exact xf.2 y (List.mem_of_getElem? ex) z
     ·obtain⟨j,hj,ej⟩:=List.mem_iff_getElem.mp z;rw[List.length_take]at hj;rw[List.getElem_take]at ej;have e2:=List.getElem?_eq_getElem xj;rw[ex]at e2;have:j=i:=(List.getElem_inj xf.1).mp (ej.trans (Option.some.inj e2));omega
    refine⟨_,rfl,p,C,dx,_,_,rfl,kp _ _ k1 (bM k1 k2 (by intro z;cases z)),T.cl,T.nS,dY _ _,_,rfl,ds,_,rfl,iC.k (k:=Sum.inr y) G (aW ?_),Qo,⟨_,rfl⟩,?_,λb ob e h1=>by rw[ah h1];exact kp b ob e h1⟩
    ·unfold dt;rw[List.length_map,List.length_append,List.length_take];omega
    ·rw[ac,dG _ (ky (S:=⟨S.pl++new.take i,S.ti⟩) xm),List.take_add_one,ex];unfold dt;show _=some (HO.dK ((S.pl++(new.take i++[y])).map _));rw[<-List.append_assoc,List.map_append (l₂:=[y])];rfl
  obtain⟨_,⟨e0,rfl⟩,G,kp⟩:=h;rw[List.length_map,List.take_length,<-xa]at G;have q1:=kp _ _ k1 (bM k1 k2 (by intro z;cases z));have q3:=kp _ _ k3 ne.symm;refine⟨_,rfl,_,rfl,_,rfl,_,rfl,_,rfl,(by show 5<=sizeLine;decide),λu I=>?_⟩;have sD:Same H4 (upd H4 u (.tup [V.str r.nm,V.str r.a,V.str r.b,V.int r.w,V.int r.c])):=Same.new I;have eu:(upd H4 u (.tup [V.str r.nm,V.str r.a,V.str r.b,V.int r.w,V.int r.c])) u=some (.tup r.tup):=ac;generalize upd H4 u (.tup [V.str r.nm,V.str r.a,V.str r.b,V.int r.w,V.int r.c])=H5 at sD eu;refine⟨_,rfl,p,C,dx,_,_,rfl,sD _ _ q1,T.cl,T.nL,dv _ _,_,rfl,dl,_,rfl,iC.k (k:=Sum.inr r.nm) (sD _ _ q3) (aW ?_),?_⟩
  ·omega
  have xo:p≠dl:=bM q1 q3 (by intro z;cases z);have xp:u≠dl:=by intro z;rw[z]at I;rw[q3]at I;cases I
  refine k (by rw[bE,if_neg q0,if_neg hn,if_neg g,if_neg Z,if_neg Qo,if_neg (by rw[xa,List.length_append];omega)]) _ ⟨⟨dx,by rw[ah xo];exact sD _ _ q1⟩,by rw[ah ne];exact sD _ _ G,⟨L++[(r,u)],⟨?_,λq Y=>?_⟩,?_⟩,ne⟩ λb ob e z1 z2=>?_
  ·rw[List.map_append,R.1];rfl
  ·rcases List.mem_append.mp Y with Y|Y
   ·have y:=R.2 q Y;have y3:=kp _ _ (U _ _ (O _ _ y)) (bM (U _ _ (O _ _ y)) k2 (by intro z;cases z));rw[ah (bM y3 q3 (by intro z;cases z))];exact sD _ _ y3
   ·rw[List.mem_singleton.mp Y,ah xp];exact eu
  ·rw[ac,dG _ (kO R.1 hn)];unfold bY;rw[List.map_append];rfl
  ·rw[ah z2];exact sD _ _ (kp _ _ (U _ _ (O _ _ (sA _ _ e))) z1)
end
def jI(Z:Addr->Prop)(H:Hp):Nat->V->PyData->Prop
 |_,.non,d=>d=.none
 |_,.bl b,d=>d=.bool b
 |_,.int i,d=>d=.int i
 |_,.str x,d=>PyData.strOk x=true/\d=.str x
 |n+1,.ref a,d=>(∃xs ds,H a=some (.lst xs)/\Z a/\d=.list ds/\Paired (jI Z H n) xs ds)\/∃xs ds,H a=some (.tup xs)/\d=.tuple ds/\Paired (jI Z H n) xs ds
 |_,_,_=>False
theorem jI.pd{Z:Addr->Prop}{H:Hp}:∀{n:Nat}{v:V}{d:PyData},jI Z H n v d->PD H n v d
 |0,v,d,h=>by cases v<;>first|exact h|exact h.elim
 |n+1,v,d,h=>by
  cases v<;>first|exact h|exact h.elim|skip
  rcases h with⟨xs,ds,e,_,a,p⟩|⟨xs,ds,e,a,p⟩
  ·exact .inl ⟨xs,ds,e,a,L2.Paired.mapP p λ_ _ h=>jI.pd h⟩
  ·exact .inr ⟨xs,ds,e,a,L2.Paired.mapP p λ_ _ h=>jI.pd h⟩
theorem jI.weak{Z c:Addr->Prop}{H:Hp}(b:∀p,Z p->c p):∀{n:Nat}{v:V}{d:PyData},jI Z H n v d->jI c H n v d
 |0,v,d,h=>by cases v<;>first|exact h|exact h.elim
 |n+1,v,d,h=>by
  cases v<;>first|exact h|exact h.elim|skip
  rcases h with⟨xs,ds,e,f,a,p⟩|⟨xs,ds,e,a,p⟩
  ·exact .inl ⟨xs,ds,e,b _ f,a,L2.Paired.mapP p λ_ _ h=>jI.weak b h⟩
  ·exact .inr ⟨xs,ds,e,a,L2.Paired.mapP p λ_ _ h=>jI.weak b h⟩
theorem jI.same{Z:Addr->Prop}{H H':Hp}(s:Same H H'):∀{n:Nat}{v:V}{d:PyData},jI Z H n v d->jI Z H' n v d
 |0,v,d,h=>by cases v<;>first|exact h|exact h.elim
 |n+1,v,d,h=>by
  cases v<;>first|exact h|exact h.elim|skip
  rcases h with⟨xs,ds,e,f,a,p⟩|⟨xs,ds,e,a,p⟩
  ·exact .inl ⟨xs,ds,s _ _ e,f,a,L2.Paired.mapP p λ_ _ h=>jI.same s h⟩
  ·exact .inr ⟨xs,ds,s _ _ e,a,L2.Paired.mapP p λ_ _ h=>jI.same s h⟩
theorem PD.tup_of{H:Hp}{n:Nat}{v:V}{ds:List PyData}(h:PD H n v (.tuple ds)):∃m a xs,n=m+1/\v=.ref a/\H a=some (.tup xs)/\Paired (PD H m) xs ds:=by
 cases n with
 |zero=>cases v<;>first|exact h.elim|cases(show PyData.tuple ds=_ from h)|cases h.2
 |succ n=>
  cases v<;>first|exact h.elim|cases(show PyData.tuple ds=_ from h)|cases h.2|skip
  rcases h with⟨xs,b,d,c,p⟩|⟨xs,b,d,c,p⟩
  ·cases c
  ·cases c;exact⟨n,_,xs,rfl,rfl,d,p⟩
theorem PD.str_is{H:Hp}{n:Nat}{v:V}{x:Str}(h:PD H n v (.str x)):v=.str x:=by
 obtain⟨y,h1,h2⟩:=h.str_of rfl;cases h2;exact h1
def tM:PyData->Bool
 |.tuple _=>true
 |_=>false
theorem tK(K:PySem.W.Frag):PySem.W.kitOne K (.type "bool") (.type "tuple")=some false:=by first|rfl|kernel_rfl
theorem tH(K:PySem.W.Frag):PySem.W.kitOne K (.type "NoneType") (.type "tuple")=some false:=by first|rfl|kernel_rfl
theorem An(K:PySem.W.Frag):PySem.W.kitOne K (.type "tuple") (.type "tuple")=some true:=by first|rfl|kernel_rfl
theorem Ao(K:PySem.W.Frag):PySem.W.kitOne K (.type "list") (.type "tuple")=some false:=by first|rfl|kernel_rfl
theorem tG(K:PySem.W.Frag):PySem.W.kitOne K (.type "str") (.type "tuple")=some false:=by first|rfl|kernel_rfl
theorem tI(K:PySem.W.Frag):PySem.W.kitOne K (.type "int") (.type "tuple")=some false:=by first|rfl|kernel_rfl
theorem PD.ty3{K:PySem.W.Frag}{H:Hp}{n:Nat}{v:V}{d:PyData}(h:PD H n v d):∃t,gq K H v t/\PySem.W.kitOne K t (.type "list")=some (yQ d)/\PySem.W.kitOne K t (.type "str")=some (yP d)/\PySem.W.kitOne K t (.type "tuple")=some (tM d):=by
 cases n with
 |zero=>
  cases v<;>try exact h.elim
  ·cases(show d=_ from h);exact⟨_,.non,pe K,pb K,tH K⟩
  ·cases(show d=_ from h);exact⟨_,.bl _,pq K,pj K,tK K⟩
  ·cases(show d=_ from h);exact⟨_,.int _,pi K,ph K,tI K⟩
  ·cases h.2;exact⟨_,.str _,o_ K,rfl,tG K⟩
 |succ n=>
  cases v<;>try exact h.elim
  ·cases(show d=_ from h);exact⟨_,.non,pe K,pb K,tH K⟩
  ·cases(show d=_ from h);exact⟨_,.bl _,pq K,pj K,tK K⟩
  ·cases(show d=_ from h);exact⟨_,.int _,pi K,ph K,tI K⟩
  ·cases h.2;exact⟨_,.str _,o_ K,rfl,tG K⟩
  ·rcases h with⟨xs,ds,e,rfl,p⟩|⟨xs,ds,e,rfl,p⟩
   ·exact⟨_,.lst e,rfl,yM K,Ao K⟩
   ·exact⟨_,.tup e,yL K,yK K,An K⟩
def qM(w:Str):Bool:=decide (w="each")||decide (w="some")
def okD:Nat->PyData->Prop
 |_,.str _=>True
 |_,.int _=>True
 |_+1,.list ds=>ds.length<=12/\∀d∈ds,∃x,d=.str x
 |n+1,.tuple (.str w::r)=>r.length<=3/\(∀d∈r,okD n d)/\(qM w=true->∃x k c,r=[.str x,k,c])
 |_,_=>False
def a_:Nat->List Str->PyData->List Str
 |_,told,.str x=>if x∈told then []else [x]
 |n+1,told,.list ds=>ds.flatMap (a_ n told)
 |n+1,told,.tuple (.str w::r)=>if qM w=true then(match r with|[.str x,k,c]=>a_ n told k++a_ n (told++[x]) c|_=>[])else r.flatMap (a_ n told)
 |_,_,_=>[]
theorem qO{n:Nat}{told:List Str}{w x:Str}{k c:PyData}(h:qM w=true):a_ (n+1) told (.tuple [.str w,.str x,k,c])=a_ n told k++a_ n (told++[x]) c:=by
 show(if qM w=true then _ else _:List Str)=_;rw[if_pos h]
theorem dB{n:Nat}{told:List Str}{w:Str}{r:List PyData}(h:qM w=false):a_ (n+1) told (.tuple (.str w::r))=r.flatMap (a_ n told):=by
 show(if qM w=true then _ else _:List Str)=_;rw[h,if_neg Qd]
theorem jq{a c:Type}{f:a->List c}{m:Nat}:∀{l:List a},(∀x∈l,(f x).length<=m)->(l.flatMap f).length<=l.length*m
 |[],_=>Nat.zero_le _
 |x::r,h=>by
  rw[List.flatMap_cons,List.length_append,List.length_cons,Nat.add_mul,Nat.one_mul,Nat.add_comm];exact Nat.add_le_add (jq λy b=>h y (List.mem_cons_of_mem _ b)) (h x List.mem_cons_self)
theorem dO(n:Nat)(told:List Str)(x:Str):a_ n told (.str x)=if x∈told then []else [x]:=by cases n<;>rfl
theorem dr:∀{n:Nat}{told:List Str}{d:PyData},okD n d->(a_ n told d).length<=12*3^n
 |0,told,d,h=>by
  cases d<;>try exact h.elim
  case int=>exact Nat.zero_le _
  case str x=>
   rw[dO];split
   ·exact Nat.zero_le _
   ·show 1<=12*3^0;decide
  case tuple ds=>
   cases ds with
   |nil=>exact h.elim
   |cons w r=>cases w<;>exact h.elim
 |n+1,told,d,h=>by
  have q:3^(n+1)=3^n*3:=Nat.pow_succ _ _;have h1:1<=3^n:=Nat.one_le_pow _ _ Qd;cases d<;>try exact h.elim
  case int=>exact Nat.zero_le _
  case str x=>
   rw[dO];split
   ·exact Nat.zero_le _
   ·show 1<=_;omega
  case list ds=>
   obtain⟨a,b⟩:=h;have:=jq (f:=a_ n told) (m:=1) (l:=ds) λx g=>by
    obtain⟨y,rfl⟩:=b x g;rw[dO];split
    ·exact Nat.zero_le _
    ·exact Nat.le_refl 1
   show(ds.flatMap (a_ n told)).length<=_;omega
  case tuple ds=>
   cases ds with
   |nil=>exact h.elim
   |cons j r=>
    cases j<;>try exact h.elim
    rename_i w;obtain⟨a,b,c⟩:=h;show(if qM w=true then _ else _:List Str).length<=_;split
    ·rename_i e;obtain⟨x,k,i,rfl⟩:=c e;have h2:=dr (told:=told) (b k Qs);have o:=dr (told:=told++[x]) (b i Qs);show(a_ n told k++a_ n (told++[x]) i).length<=_;rw[List.length_append];omega
    ·have:=jq (f:=a_ n told) (m:=12*3^n) (l:=r) λx g=>dr (b x g);have p:r.length*(12*3^n)<=3*(12*3^n):=Nat.mul_le_mul_right _ a;omega
theorem zR{n:Nat}(h:n<=10):12*3^n<=1000000:=Nat.le_trans (Nat.mul_le_mul_left _ (Nat.pow_le_pow_right Qd h)) Qd
def gw:Sp:=λvs H Q _=>∃(a:Addr)(w:Str)(xs:List V),vs=[.ref a]/\H a=some (.tup (.str w::xs))/\Q (.bl (qM w)) H
def iW(n:Nat):Sp:=λvs H Q _=>∃(v:V)(d:PyData)(tl:Addr)(told:List Str),vs=[v,.ref tl]/\PD H n v d/\okD n d/\H tl=some (.lst (told.map V.str))/\told.length+n<=60/\n<=10/\
 ∀l H',Same H H'->H l=none->H' l=some (.lst ((a_ n told d).map V.str))->Q (.ref l) H'
def rg(n:Nat):Sp:=λvs H Q _=>∃(p tl:Addr)(xs:List V)(ds:List PyData)(told:List Str),vs=[.ref p,.ref tl]/\H p=some (.lst xs)/\Paired (PD H n) xs ds/\(∀d∈ds,okD n d)/\ds.length<=12/\H tl=some (.lst (told.map V.str))/\told.length+n<=60/\n<=10/\
 ∀l H',Same H H'->H l=none->H' l=some (.lst ((ds.flatMap (a_ n told)).map V.str))->Q (.ref l) H'
def re(n:Nat):Sp:=λvs H Q _=>∃(p tl:Addr)(xs:List V)(ds:List PyData)(told:List Str),vs=[.ref p,.ref tl]/\H p=some (.tup xs)/\Paired (PD H n) xs ds/\(∀d∈ds,okD n d)/\ds.length<=12/\H tl=some (.lst (told.map V.str))/\told.length+n<=60/\n<=10/\
 ∀l H',Same H H'->H l=none->H' l=some (.lst ((ds.flatMap (a_ n told)).map V.str))->Q (.ref l) H'
theorem BO(x y:Str):decide (V.str x=V.str y)=decide (x=y):=by
 by_cases h:x=y
 ·rw[h,decide_eq_true rfl,decide_eq_true rfl]
 ·rw[decide_eq_false h,decide_eq_false (λz=>h (V.str.inj z))]
def iV:Sp:=λ_ _ _ _=>False
theorem C0{x:V}{xs:List V}:eR (x::xs) (some 1) none=xs:=by
 unfold eR;rw[show(some (1:Int))=some ((1:Nat):Int)from rfl,HT.kF,HT.i9,List.length_cons];have:min 1 (xs.length+1)=1:=Qo;rw[this];show(xs).take (xs.length+1-1)=xs;simp
theorem t_{x:V}{xs:List V}:¬(HT.sIx (x::xs).length 0 (some 1)=0/\HT.sIx (x::xs).length (x::xs).length none=(x::xs).length):=λh=>by
 have:=h.1;rw[show(some (1:Int))=some ((1:Nat):Int)from rfl,HT.kF,List.length_cons]at this;omega
section
variable{P:Program}{w:World}{K:PySem.W.Frag}{mg:Str->Option Value}{base:Heap}
theorem fS{nm:Str}{st:Stmt}{ps:List Str}(k:Nat)(a:∃f fd,bZ K nm nm st f fd/\mg nm=some (.ref f))(b:∀f fd,bZ K nm nm st f fd->c_ K fd ps []):cj P w K mg base k nm ps iV:=by
 obtain⟨f,fd,F,m⟩:=a;exact⟨f,fd,⟨λvs H Q E z=>z.elim,λA outer s H args us vs Q E _ _ _ _ z=>z.elim⟩,m,F.kp,b f fd F⟩
end
section
variable{P:Program}{w:World}{K:PySem.W.Frag}{mg:Str->Option Value}{base:Heap}{C:Addr}{n:Nat}
theorem rn:ax ["claim"] ["claim"] (af s_tells_variable):=⟨rfl,rfl,rfl,Qk,rfl,Qk,Qk⟩
theorem sJ{f:Addr}{fd:FuncData}(F:bZ K "tells_variable" "tells_variable" s_tells_variable f fd):FnOk P w K mg base cY 1 f fd ["claim"] gw:=by
 refine F.ok rn (λvs H Q E h=>?_) (λd A outer s H vs Q E e h=>?_)
 ·obtain⟨a,w,xs,rfl,_⟩:=h;rfl
 ·obtain⟨a,w,xs,rfl,c,q⟩:=h;refine⟨_,(ag (av (yF (dR bS (ay az (pv 0) ak (λ_ _=>Qr)) aj (aM _)) (je (dR bS (ay az (pv 0) ak (λ_ _=>Qr)) aj (aM _)))))),?_⟩;have h0:ko (V.str w::xs) 0=some (.str w):=bU (j:=0) rfl;refine⟨_,rfl,a,_,_,.str w,rfl,rfl,bj.of c,h0,rfl,_,rfl,?_⟩;have b:=q;unfold qM at b;rw[BO];cases hb:decide (w="each")with
  |true=>
   rw[hb]at b;exact bC b
  |false=>
   rw[hb,Bool.false_or]at b;refine aD ⟨_,rfl,a,_,_,.str w,rfl,rfl,bj.of c,h0,rfl,?_⟩;rw[BO];exact b
abbrev Do:List Str:=["parts","told","names","part"]
theorem g9:ax Do ["parts","told"] (af s_names_of_all):=⟨rfl,rfl,rfl,Qk,rfl,Qk,Qk⟩
theorem wX{f:Addr}{fd:FuncData}{k:Nat}(F:bZ K "names_of_all" "names_of_all" s_names_of_all f fd)(L:cj P w K mg base k "untold_names" ["part","told"] (iW n)):FnOk P w K mg base cY (k+1) f fd ["parts","told"] (rg n):=by
 refine F.ok g9 (λvs H Q E h=>?_) (λJ A outer s H vs Q E S h=>?_)
 ·obtain⟨p,tl,xs,ds,told,rfl,_⟩:=h;rfl
 ·obtain⟨p,tl,xs,ds,told,rfl,B,D,ok,len,T,z,hn,q⟩:=h;refine⟨_,(ae (aF (i:=2) g9.nd rfl (Or.inl rfl) (aR ad))
   (ae (cO PassesOwn.never rfl (bD (pv 0)) (aO (i:=3) g9.nd rfl (Or.inl rfl))
     (ag (aG (dH PySem.F.plainAttrs_list PySem.F.slot_list_extend PySem.F.type_list_extend j1 (pv 2) (aa (aw L S Qr (aa (pv 3) (aa (pv 1) ad))) ad)))))
   (ag (av (pv 2))))),?_⟩
  have R:=Paired.length D;refine⟨Qd,λj g=>?_⟩;have G:=Same.new (o:=.lst []) g;have M:(upd H j (.lst [])) j=some (.lst []):=ac;refine⟨_,rfl,p,rfl,⟨_,bp.of (G _ _ B)⟩,cC (K:=K) (a:=p) (xs:=xs) (λi c H'=>i<=xs.length/\(∃o,c=[some (.ref p),some (.ref tl),some (.ref j),o])/\Same H H'/\H' j=some (.lst (((ds.take i).flatMap (a_ n told)).map V.str)))
   ⟨Nat.zero_le _,⟨none,rfl⟩,G,M⟩ (λi c H' _ h=>bp.of (h.2.2.1 _ _ B)) (λi v c H' U h=>?_) (λc H' h=>?_)⟩
  ·obtain⟨hi,⟨o,rfl⟩,y,t⟩:=h;obtain⟨d,hd,Z⟩:=eG D U;have O:i<ds.length:=(List.getElem?_eq_some_iff.mp hd).1;have u:=ok d (List.mem_of_getElem? hd);have l1:=dr (told:=told) u;have l2:=jq (f:=a_ n told) (m:=12*3^n) (l:=ds.take i) λx W=>dr (ok x (List.mem_of_mem_take W));have C:=zR hn;have X:(ds.take i).length *(12*3^n)<=12*1000000:=Nat.mul_le_mul (by rw[List.length_take];omega) C;refine⟨_,rfl,.inl ⟨rfl,_,bp.of t⟩,_,rfl,_,rfl,v,d,tl,told,rfl,Z.same y,u,y _ _ T,z,hn,λl H3 I Y N=>?_⟩;refine⟨j,l,_,_,rfl,rfl,I _ _ t,N,?_,?_⟩
   ·rw[List.length_map,List.length_map];exact Nat.le_trans (Nat.add_le_add (Nat.le_trans l2 X) (Nat.le_trans l1 C)) Qd
   ·refine⟨Qo,⟨_,rfl⟩,λb ob e=>?_,?_⟩
    ·rw[ah (ai e g)];exact I _ _ (y _ _ e)
    ·rw[ac,<-List.map_append,List.take_add_one,hd,List.flatMap_append];simp
  ·obtain⟨_,⟨o,rfl⟩,y,t⟩:=h;rw[R,List.take_length]at t;exact⟨_,rfl,q j _ y g t⟩
theorem wW{f:Addr}{fd:FuncData}{k:Nat}(F:bZ K "names_of_all" "names_of_all" s_names_of_all f fd)(L:cj P w K mg base k "untold_names" ["part","told"] (iW n)):FnOk P w K mg base cY (k+1) f fd ["parts","told"] (re n):=by
 refine F.ok g9 (λvs H Q E h=>?_) (λJ A outer s H vs Q E S h=>?_)
 ·obtain⟨p,tl,xs,ds,told,rfl,_⟩:=h;rfl
 ·obtain⟨p,tl,xs,ds,told,rfl,B,D,ok,len,T,z,hn,q⟩:=h;refine⟨_,(ae (aF (i:=2) g9.nd rfl (Or.inl rfl) (aR ad))
   (ae (cO PassesOwn.never rfl (jb (pv 0)) (aO (i:=3) g9.nd rfl (Or.inl rfl))
     (ag (aG (dH PySem.F.plainAttrs_list PySem.F.slot_list_extend PySem.F.type_list_extend j1 (pv 2) (aa (aw L S Qr (aa (pv 3) (aa (pv 1) ad))) ad)))))
   (ag (av (pv 2))))),?_⟩
  have R:=Paired.length D;refine⟨Qd,λj g=>?_⟩;have G:=Same.new (o:=.lst []) g;have M:(upd H j (.lst [])) j=some (.lst []):=ac;refine⟨_,rfl,p,rfl,⟨_,bj.of (G _ _ B)⟩,pw (K:=K) (a:=p) (xs:=xs) (λi c H'=>i<=xs.length/\(∃o,c=[some (.ref p),some (.ref tl),some (.ref j),o])/\Same H H'/\H' j=some (.lst (((ds.take i).flatMap (a_ n told)).map V.str)))
   ⟨Nat.zero_le _,⟨none,rfl⟩,G,M⟩ (λi c H' _ h=>bj.of (h.2.2.1 _ _ B)) (λi v c H' U h=>?_) (λc H' h=>?_)⟩
  ·obtain⟨hi,⟨o,rfl⟩,y,t⟩:=h;obtain⟨d,hd,Z⟩:=eG D U;have O:i<ds.length:=(List.getElem?_eq_some_iff.mp hd).1;have u:=ok d (List.mem_of_getElem? hd);have l1:=dr (told:=told) u;have l2:=jq (f:=a_ n told) (m:=12*3^n) (l:=ds.take i) λx W=>dr (ok x (List.mem_of_mem_take W));have C:=zR hn;have X:(ds.take i).length *(12*3^n)<=12*1000000:=Nat.mul_le_mul (by rw[List.length_take];omega) C;refine⟨_,rfl,.inl ⟨rfl,_,bp.of t⟩,_,rfl,_,rfl,v,d,tl,told,rfl,Z.same y,u,y _ _ T,z,hn,λl H3 I Y N=>?_⟩;refine⟨j,l,_,_,rfl,rfl,I _ _ t,N,?_,?_⟩
   ·rw[List.length_map,List.length_map];exact Nat.le_trans (Nat.add_le_add (Nat.le_trans l2 X) (Nat.le_trans l1 C)) Qd
   ·refine⟨Qo,⟨_,rfl⟩,λb ob e=>?_,?_⟩
    ·rw[ah (ai e g)];exact I _ _ (y _ _ e)
    ·rw[ac,<-List.map_append,List.take_add_one,hd,List.flatMap_append];simp
  ·obtain⟨_,⟨o,rfl⟩,y,t⟩:=h;rw[R,List.take_length]at t;exact⟨_,rfl,q j _ y g t⟩
abbrev Di:List Str:=["part","told"]
theorem rm:ax Di ["part","told"] (af s_untold_names):=⟨rfl,rfl,rfl,Qk,rfl,Qk,Qk⟩
theorem wE{f:Addr}{fd:FuncData}(F:bZ K "untold_names" "untold_names" s_untold_names f fd)(T:de K mg C)(cl:cj P w K mg base 0 "names_of_all" ["parts","told"] iV)(ct:cj P w K mg base 0 "tells_variable" ["claim"] iV)(e:cj P w K mg base 0 "untold_names" ["part","told"] iV):FnOk P w K mg base cY 1 f fd ["part","told"] (iW 0):=by
 refine F.ok rm (λvs H Q E h=>?_) (λk A outer s H vs Q E b h=>?_)
 ·obtain⟨v,d,tl,told,rfl,_⟩:=h;rfl
 ·obtain⟨v,d,tl,told,rfl,g,ok,m,j,hn,q⟩:=h;refine⟨_,(ae (aH (bb (aI aZ Qr T.isi b9 (aa (pv 0) (aa (dq T.str Qr pI) ad)))) (ag (av (fm (aE fJ (pv 0) (pv 1) Qw) (aR ad) (aR (aa (pv 0) ad))))) au)
   (ae (aH (bb (aI aZ Qr T.isi b9 (aa (pv 0) (aa (dq T.list Qr eS) ad)))) (ag (av (aw cl b Qr (aa (pv 0) (aa (pv 1) ad))))) au)
   (ae (aH (d6 (bb (aI aZ Qr T.isi b9 (aa (pv 0) (aa (dq T.tuple Qr fV) ad))))) (ag (av (aR ad))) au)
   (ae (aH (bb (aw ct b Qr (aa (pv 0) ad))) (ag (av (aU dm (aw e b Qr (aa (ay az (pv 0) ak (λ_ _=>Qr)) (aa (pv 1) ad))) (aw e b Qr (aa (ay az (pv 0) ak (λ_ _=>Qr)) (aa (aU dm (pv 1) (aR (aa (ay az (pv 0) ak (λ_ _=>Qr)) ad))) ad)))))) au)
   (ag (av (aw cl b Qr (aa (fk mZ (pv 0) (gF ak) gG) (aa (pv 1) ad))))))))),?_⟩
  obtain⟨t,ty,n,o,u⟩:=g.ty3 (K:=K);refine⟨_,rfl,v,"str",t,yP d,rfl,ty,o,_,rfl,?_⟩;cases d<;>try exact ok.elim
  case int i=>
   refine aD ⟨_,rfl,v,"list",t,_,rfl,ty,n,_,rfl,aD ⟨_,rfl,v,"tuple",t,_,rfl,ty,u,_,rfl,bC ⟨Qd,λp a=>?_⟩⟩⟩;exact q p _ (Same.new a) a ac
  case str x=>
   have:=g.str_is;subst this;refine bC ⟨_,rfl,_,rfl,tl,_,rfl,.inl (bp.of m),rfl,dz _,_,rfl,?_⟩;show if(if false=true then !jn (.str x) (told.map V.str)else jn (.str x) (told.map V.str))=true then _ else _;have l:(if false=true then !jn (.str x) (told.map V.str)else jn (.str x) (told.map V.str))=decide (x∈told):=fN x told;rw[l];rw[dO]at q;by_cases c:x∈told
   ·rw[if_pos c]at q;exact cB (decide_eq_true c) ⟨Qd,λp a=>q p _ (Same.new a) a ac⟩
   ·rw[if_neg c]at q;exact aJ (decide_eq_false c) ⟨_,rfl,(by show 1<=sizeLine;decide),λp a=>q p _ (Same.new a) a ac⟩
  case tuple ds=>
   cases ds with
   |nil=>exact ok.elim
   |cons w r=>cases w<;>exact ok.elim
theorem wD{f:Addr}{fd:FuncData}{k:Nat}(F:bZ K "untold_names" "untold_names" s_untold_names f fd)(T:de K mg C)(cl:cj P w K mg base (k+1) "names_of_all" ["parts","told"] (rg n))(ca:cj P w K mg base (k+1) "names_of_all" ["parts","told"] (re n))(ct:cj P w K mg base 1 "tells_variable" ["claim"] gw)(cu:cj P w K mg base k "untold_names" ["part","told"] (iW n)):FnOk P w K mg base cY (k+2) f fd ["part","told"] (iW (n+1)):=by
 refine F.ok rm (λvs H Q E h=>?_) (λxb A outer s H vs Q E M h=>?_)
 ·obtain⟨v,d,tl,told,rfl,_⟩:=h;rfl
 ·obtain⟨v,d,tl,told,rfl,O,ok,G,xa,hn,q⟩:=h;have r1:be 1 _:=M.mono Qo;have rk:be k _:=M.mono Qo;refine⟨_,(ae (aH (bb (aI aZ Qr T.isi b9 (aa (pv 0) (aa (dq T.str Qr pI) ad)))) (ag (av (fm (aE fJ (pv 0) (pv 1) Qw) (aR ad) (aR (aa (pv 0) ad))))) au)
   (ae (aH (bb (aI aZ Qr T.isi b9 (aa (pv 0) (aa (dq T.list Qr eS) ad)))) (ag (av (aw cl M Qr (aa (pv 0) (aa (pv 1) ad))))) au)
   (ae (aH (d6 (bb (aI aZ Qr T.isi b9 (aa (pv 0) (aa (dq T.tuple Qr fV) ad))))) (ag (av (aR ad))) au)
   (ae (aH (bb (aw ct r1 Qr (aa (pv 0) ad))) (ag (av (aU dm (aw cu rk Qr (aa (ay az (pv 0) ak (λ_ _=>Qr)) (aa (pv 1) ad))) (aw cu rk Qr (aa (ay az (pv 0) ak (λ_ _=>Qr)) (aa (aU dm (pv 1) (aR (aa (ay az (pv 0) ak (λ_ _=>Qr)) ad))) ad)))))) au)
   (ag (av (aw ca M Qr (aa (fk mZ (pv 0) (gF ak) gG) (aa (pv 1) ad))))))))),?_⟩
  obtain⟨t,ty,U,ks,kt⟩:=O.ty3 (K:=K);have g:n<=10:=Qo;refine⟨_,rfl,v,"str",t,yP d,rfl,ty,ks,_,rfl,?_⟩;cases d<;>try exact ok.elim
  case int i=>
   refine aD ⟨_,rfl,v,"list",t,_,rfl,ty,U,_,rfl,aD ⟨_,rfl,v,"tuple",t,_,rfl,ty,kt,_,rfl,bC ⟨Qd,λp b=>?_⟩⟩⟩;exact q p _ (Same.new b) b ac
  case str x=>
   have:=O.str_is;subst this;refine bC ⟨_,rfl,_,rfl,tl,_,rfl,.inl (bp.of G),rfl,dz _,_,rfl,?_⟩;show if(if false=true then !jn (.str x) (told.map V.str)else jn (.str x) (told.map V.str))=true then _ else _;have ei:(if false=true then !jn (.str x) (told.map V.str)else jn (.str x) (told.map V.str))=decide (x∈told):=fN x told;rw[ei];rw[dO]at q;by_cases L:x∈told
   ·rw[if_pos L]at q;exact cB (decide_eq_true L) ⟨Qd,λp b=>q p _ (Same.new b) b ac⟩
   ·rw[if_neg L]at q;exact aJ (decide_eq_false L) ⟨_,rfl,(by show 1<=sizeLine;decide),λp b=>q p _ (Same.new b) b ac⟩
  case list ds=>
   obtain⟨m,a,xs,S,rfl,z,e⟩:=O.list_of;cases S;refine aD ⟨_,rfl,_,"list",t,_,rfl,ty,U,_,rfl,bC ⟨_,rfl,_,rfl,a,tl,xs,ds,told,rfl,z,e,λd hd=>?_,ok.1,G,Qo,g,λl H' u W y=>q l H' u W y⟩⟩;obtain⟨x,rfl⟩:=ok.2 d hd;cases n<;>exact True.intro
  case tuple ds=>
   obtain⟨m,a,xs,S,rfl,z,e⟩:=O.tup_of;cases S;cases ds with
   |nil=>exact ok.elim
   |cons w0 r=>
    cases w0<;>try exact ok.elim
    rename_i w;obtain⟨o1,X,o3⟩:=ok;cases e with
    |cons p1 e=>
     rename_i v1 xs;have:=p1.str_is;subst this;refine aD ⟨_,rfl,_,"list",t,_,rfl,ty,U,_,rfl,aD ⟨_,rfl,_,"tuple",t,_,rfl,ty,kt,_,rfl,aD ⟨_,rfl,a,w,xs,rfl,z,_,rfl,?_⟩⟩⟩;cases he:qM w with
     |true=>
      obtain⟨x,N,c,rfl⟩:=o3 he;obtain⟨v2,I,J,rfl,p2,Y,Z⟩:∃v2 I J,xs=[v2,I,J]/\PD H n v2 (.str x)/\PD H n I N/\PD H n J c:=by
       cases e with
       |cons p2 e=>cases e with
        |cons Y e=>cases e with
         |cons Z e=>cases e with
          |nil=>exact⟨_,_,_,rfl,p2,Y,Z⟩
      have:=p2.str_is;subst this;have k2:=X N Qs;have k3:=X c Qs;have b2:=dr (told:=told) k2;have b3:=dr (told:=told++[x]) k3;have b4:=zR g;refine bC ⟨_,rfl,a,_,_,I,rfl,rfl,bj.of z,rfl,_,rfl,I,N,tl,told,rfl,Y,k2,G,Qo,g,λn1 H1 u f1 y=>?_⟩;have B:=u _ _ z;refine⟨_,rfl,a,_,_,J,rfl,rfl,bj.of B,rfl,_,rfl,_,rfl,a,_,_,.str x,rfl,rfl,bj.of B,rfl,(by show 1<=sizeLine;decide),λl1 j=>⟨tl,l1,_,_,rfl,rfl,(Same.new j) _ _ (u _ _ G),ac,Nat.le_trans (by rw[List.length_map,List.length_singleton];omega:_<=101) Qd,λl2 D=>?_⟩⟩;have s3:=(u.upd (o:=.lst [.str x]) j).upd (o:=.lst (told.map V.str++[.str x])) D;have R:(upd (upd H1 l1 (.lst [.str x])) l2 (.lst (told.map V.str++[.str x]))) n1=some (.lst ((a_ n told N).map V.str)):=by
       rw[ah (ai ((Same.new j) _ _ y) D)];exact(Same.new j) _ _ y
      refine⟨J,c,l2,told++[x],rfl,Z.same s3,k3,?_,by rw[List.length_append,List.length_singleton];omega,g,λn2 H2 s4 f2 e2=>?_⟩
      ·rw[ac,List.map_append];rfl
      ·refine⟨n1,n2,_,_,rfl,rfl,s4 _ _ R,e2,Nat.le_trans (by rw[List.length_map,List.length_map];exact Nat.add_le_add (Nat.le_trans b2 b4) (Nat.le_trans b3 b4)) Qd,λp b=>?_⟩;refine q p _ ((s3.trans s4).upd b) ((s3.trans s4).free b) ?_;rw[ac,qO he,List.map_append]
     |false=>
      rw[dB he]at q;refine aD ⟨_,rfl,_,rfl,a,_,rfl,bj.of z,?_,λp b=>⟨_,rfl,p,tl,_,r,told,rfl,ac,?_,X,Qo,(Same.new b) _ _ G,Qo,g,λl H' u W y=>?_⟩⟩
      ·exact t_
      ·rw[C0];exact L2.Paired.mapP e λ_ _ h=>h.same (Same.new b)
      ·exact q l H' ((Same.new b).trans u) ((Same.new b).free W) y
structure Az(K:PySem.W.Frag)(mg:Str->Option Value):Prop where
 tells:∃f fd,bZ K "tells_variable" "tells_variable" s_tells_variable f fd/\mg "tells_variable"=some (.ref f)
 all:∃f fd,bZ K "names_of_all" "names_of_all" s_names_of_all f fd/\mg "names_of_all"=some (.ref f)
 unt:∃f fd,bZ K "untold_names" "untold_names" s_untold_names f fd/\mg "untold_names"=some (.ref f)
theorem ik(U:Az K mg):cj P w K mg base 1 "tells_variable" ["claim"] gw:=by
 obtain⟨f,fd,F,m⟩:=U.tells;exact⟨f,fd,sJ F,m,F.kp,F.binds λ_ _ _ _ _ _ us a=>match us,a with|[_],_=>rfl⟩
theorem pG(U:Az K mg)(T:de K mg C):∀n:Nat,cj P w K mg base (2*n+1) "untold_names" ["part","told"] (iW n)
 |0=>by
  obtain⟨f,fd,F,m⟩:=U.unt;exact⟨f,fd,wE F T (fS 0 U.all λ_ _ F=>F.binds λ_ _ _ _ _ _ us a=>match us,a with|[_,_],_=>rfl) (fS 0 U.tells λ_ _ F=>F.binds λ_ _ _ _ _ _ us a=>match us,a with|[_],_=>rfl) (fS 0 U.unt λ_ _ F=>F.binds λ_ _ _ _ _ _ us a=>match us,a with|[_,_],_=>rfl),m,F.kp,F.binds λ_ _ _ _ _ _ us a=>match us,a with|[_,_],_=>rfl⟩
 |n+1=>by
  have b:=pG U T n;obtain⟨f,fd,F,m⟩:=U.unt;obtain⟨g,gd,G,d⟩:=U.all;have c:c_ K gd ["parts","told"] []:=G.binds λ_ _ _ _ _ _ us a=>match us,a with|[_,_],_=>rfl
  exact⟨f,fd,wD (k:=2*n+1) F T ⟨g,gd,wX G b,d,G.kp,c⟩ ⟨g,gd,wW G b,d,G.kp,c⟩ (ik U) b,m,F.kp,F.binds λ_ _ _ _ _ _ us a=>match us,a with|[_,_],_=>rfl⟩
end
abbrev DE:List Value:=[.type "ValueError",.type "Exception",.type "BaseException",.type "object"]
structure xS(K:PySem.W.Frag)(mg:Str->Option Value)(Cn cc fI:Addr):Prop where
 mN:mg "NoPlace"=some (.ref Cn)
 mC:mg "CourtError"=some (.ref cc)
 ii:kf K Cn DE "ValueError.__new__" fI=true
 fn:PySem.W.isFn K (.ref fI)=true
 bi:mP K cc "ValueError.__init__"
 at_:iQ K Cn DE "name"
def jN(x:Str):Prop:=x.length<=12/\∀c∈x.cps.toList,c<16^8
theorem jN.rep{x:Str}(h:jN x):(reprText x).length<=100000:=by
 have:=StrLaws.reprText_len x h.2;have:=h.1;omega
def uV(Cn:Addr):Sp:=λvs H Q _=>∃(a:Addr)(x:Str),vs=[.ref a,.str x]/\jN x/\H a=some (jk a Cn)/\∀dx,H dx=none->dx≠a->dx≠0->Q .non (upd (upd (upd H a (jk a Cn)) dx (.xd [("name",.str x)])) a (qz a Cn dx))
def bK(pl l:List Str):Option Str:=l.find? λx=>decide (x∉pl)
def iY(C Cn:Addr):Sp:=λvs H Q E=>∃(p ds a:Addr)(S:NS)(v:V)(d:PyData),vs=[.ref p,v]/\NetAt C H p ds a S/\PD H 10 v d/\okD 10 d/\(∀x∈a_ 10 [] d,jN x)/\
 (bK S.pl (a_ 10 [] d)=none->∀H',Same H H'->Q .non H')/\∀x,bK S.pl (a_ 10 [] d)=some x->∀H' dx,Same H H'->dx≠0->H' dx=some (.xd [("name",.str x)])->E (.ref Cn) (some dx) H'
section
variable{P:Program}{w:World}{K:PySem.W.Frag}{mg:Str->Option Value}{base:Heap}{C Cn cc fI:Addr}
theorem rD:ax ["self","name"] ["self","name"] (af s_NoPlace_init):=⟨rfl,rfl,rfl,Qk,rfl,Qk,Qk⟩
theorem sS{f:Addr}{fd:FuncData}(F:bZ K "__init__" "NoPlace.__init__" s_NoPlace_init f fd)(R:xS K mg Cn cc fI):FnOk P w K mg base cY 1 f fd ["self","name"] (uV Cn):=by
 refine F.ok rD (λvs H Q E h=>?_) (λc A outer s H vs Q E i h=>?_)
 ·obtain⟨a,x,rfl,_⟩:=h;rfl
 ·obtain⟨a,x,rfl,b,e,q⟩:=h;refine⟨_,(ae (aG (lZ Qr R.mC R.bi R.ii PySem.F.excBase_ValueError (aa (pv 0) (aa (df (bu aj (bu (jd (pv 1)) d7)) Qd) ad))))
   (ag (vR (pv 0) (pv 1) PySem.F.store_ValueError.passes R.at_ Qr))),?_⟩
  have g:(reprText x).length<=sizeLine:=Nat.le_trans b.rep Qd;refine⟨_,rfl,_,rfl,Qk,_,rfl,.inl ⟨x,rfl,g,_,rfl,b.rep,a,_,rfl,by show 1<=sizeLine;decide,e,?_⟩⟩;refine⟨_,rfl,_,rfl,a,rfl,ac,λdx h1 h2 d=>?_⟩;exact q dx (by rw[ah h2]at h1;exact h1) h2 d
abbrev Dk:List Str:=["net","whole","places","name"]
theorem nh:ax Dk ["net","whole"] (af s_refuse_strangers):=⟨rfl,rfl,rfl,Qk,rfl,Qk,Qk⟩
theorem Ac{f:Addr}{fd gd:FuncData}(F:bZ K "refuse_strangers" "refuse_strangers" s_refuse_strangers f fd)(T:de K mg C)(R:xS K mg Cn cc fI)(cu:cj P w K mg base 21 "untold_names" ["part","told"] (iW 10))(m1:dN P w K mg base 1 C "places" ["self"] (em C))(G:bZ K "__init__" "NoPlace.__init__" s_NoPlace_init fI gd):FnOk P w K mg base (e8 P w) 22 f fd ["net","whole"] (iY C Cn):=by
 refine F.okX nh (λvs H Q E h=>?_) (λZ A outer s H vs Q E I W h=>?_)
 ·obtain⟨p,ds,L,S,v,d,rfl,_⟩:=h;rfl
 ·obtain⟨p,ds,L,S,v,d,rfl,N,pd,ok,on,q,qE⟩:=h;have r1:be 1 _:=I.mono Qd;have r2:be 2 _:=I.mono Qd;have Y:c_ K gd ["self","name"] []:=G.binds λ_ _ _ _ _ _ us hl=>match us,hl with|[_,_],_=>rfl
  refine⟨_,(ae (aF (i:=2) nh.nd rfl (Or.inl rfl) (bn (pv 0) T.cl m1 r1))
   (ag (cO W.own rfl (bD (aw cu I Qr (aa (pv 1) (aa (aR ad) ad)))) (aO (i:=3) nh.nd rfl (Or.inl rfl))
     (ag (aH (aE gH (pv 3) (pv 2) Qw) (ag (p5 W rfl Qr R.mN R.ii PySem.F.excBase_ValueError R.fn (sS G R) Y r2 (aa (pv 3) ad))) au))))),?_⟩
  obtain⟨u,ob⟩:=N.ob;refine⟨_,rfl,p,u,_,rfl,ob,bL _ _ Qk Qk,p,ds,L,S,rfl,N,λpl D=>?_⟩;have J:=Same.new (o:=.lst (S.pl.map V.str)) D;have M:(upd H pl (.lst (S.pl.map V.str))) pl=some (.lst (S.pl.map V.str)):=ac;generalize upd H pl (.lst (S.pl.map V.str))=H1 at J M;refine⟨_,rfl,Qd,λtl m=>⟨v,d,tl,[],rfl,pd.same (J.upd m),ok,ac,Qd,Qd,λl H2 X _ O=>?_⟩⟩;have j:Same H H2:=(J.upd m).trans X;have B:H2 pl=some (.lst (S.pl.map V.str)):=X _ _ ((Same.new m) _ _ M);refine⟨l,rfl,⟨_,bp.of O⟩,cC (K:=K) (a:=l) (xs:=(a_ 10 [] d).map V.str) (λi k H'=>H'=H2/\(∃o,k=[some (.ref p),some v,some (.ref pl),o])/\(∀x∈(a_ 10 [] d).take i,x∈S.pl)) ⟨rfl,⟨none,rfl⟩,λ_ h=>nomatch h⟩ (λi k H' _ h=>by rw[h.1];exact bp.of O) (λi y k H' n h=>?_) (λk H' h=>?_)⟩
  ·obtain⟨rfl,⟨o,rfl⟩,g⟩:=h;rw[List.getElem?_map]at n;cases hx:(a_ 10 [] d)[i]? with
   |none=>rw[hx]at n;cases n
   |some x=>
    rw[hx]at n;cases n;have mx:=List.mem_of_getElem? hx;refine⟨_,rfl,_,rfl,pl,_,rfl,.inl (bp.of B),rfl,dz _,_,rfl,?_⟩;show if(if true=true then !jn (.str x) (S.pl.map V.str)else jn (.str x) (S.pl.map V.str))=true then _ else _;have ei:(if true=true then !jn (.str x) (S.pl.map V.str)else jn (.str x) (S.pl.map V.str))=!decide (x∈S.pl):=by rw[if_pos rfl,fN]
    rw[ei];by_cases t:x∈S.pl
    ·refine aJ (by rw[decide_eq_true t];rfl) ⟨rfl,⟨_,rfl⟩,λz c=>?_⟩;rw[List.take_add_one,hx]at c;rcases List.mem_append.mp c with c|c
     ·exact g z c
     ·have c:z=x:=by simpa using c
      rw[c];exact t
    ·have hf:bK S.pl (a_ 10 [] d)=some x:=by
      obtain⟨hi,ex⟩:=List.getElem?_eq_some_iff.mp hx;unfold bK;have sp:a_ 10 [] d=(a_ 10 [] d).take i++x::(a_ 10 [] d).drop (i+1):=by
       rw[<-ex,<-List.drop_eq_getElem_cons hi,List.take_append_drop]
      rw[sp,List.find?_append,List.find?_eq_none.mpr (λz c=>by simp[g z c]),Option.none_or,List.find?_cons_of_pos (by simp[t])]
     refine cB (by rw[decide_eq_false t];rfl) ⟨_,rfl,by show 1<=sizeLine;decide,λa ha=>⟨a,x,rfl,on x mx,ac,λdx h1 h2 U=>⟨rfl,dx,U,ac,qE x hf _ dx (λb ob e=>?_) U ?_⟩⟩⟩
     ·have na:b≠a:=ai (j _ _ e) ha;have nd:b≠dx:=λz=>by
       rw[<-z,ah na,j _ _ e]at h1;cases h1
      rw[fO na,ah na,ah nd,ah na,ah na];exact j _ _ e
     ·rw[fO h2,ah h2,ac]
  ·obtain⟨rfl,⟨o,rfl⟩,g⟩:=h;refine q ?_ _ j;unfold bK;rw[List.length_map,List.take_length]at g;exact List.find?_eq_none.mpr λz c=>by simp[g z c]
def qZ(C Cn:Addr):Sp:=iY C Cn
theorem rq:ax ["net","claim"] ["net","claim"] (af s_look_at_claim):=⟨rfl,rfl,rfl,Qk,rfl,Qk,Qk⟩
theorem sN{f:Addr}{fd:FuncData}(F:bZ K "look_at_claim" "look_at_claim" s_look_at_claim f fd)(cr:eU P w K mg base 22 "refuse_strangers" ["net","whole"] (iY C Cn)):FnOk P w K mg base (e8 P w) 23 f fd ["net","claim"] (qZ C Cn):=by
 refine F.okX rq (λvs H Q E h=>?_) (λb A outer s H vs Q E c W h=>?_)
 ·obtain⟨p,ds,a,S,v,d,rfl,_⟩:=h;rfl
 ·obtain⟨p,ds,a,S,v,d,rfl,N,e,ok,on,q,g⟩:=h;refine⟨_,(ag (aG (cK cr W c Qr (aa (pv 0) (aa (pv 1) ad))))),?_⟩;exact⟨_,rfl,_,rfl,p,ds,a,S,v,d,rfl,N,e,ok,on,q,g⟩
end
def e_:Nat->PyData->Prop
 |_,.str _=>True
 |_,.int _=>True
 |n+1,.list ds=>ds.length<=100/\∀d∈ds,e_ n d
 |n+1,.tuple ds=>ds.length<=100/\∀d∈ds,e_ n d
 |_,_=>False
def iZ(n:Nat):Sp:=λvs H Q _=>∃(v:V)(d:PyData),vs=[v]/\PD H n v d/\e_ n d/\∀a H',Same H H'->jI (λq=>H q=none) H' n a d->Q a H'
theorem kJ{Z:Addr->Prop}{H:Hp}{n:Nat}{x:V}{d:PyData}(h:jI Z H n x d):∀{xs:List V}{ds:List PyData},Paired (jI Z H n) xs ds->Paired (jI Z H n) (xs++[x]) (ds++[d])
 |_,_,.nil=>.cons h .nil
 |_,_,.cons a t=>.cons a (kJ h t)
theorem oM{Z:Addr->Prop}{H:Hp}{n:Nat}{v:V}{d:PyData}(h:PD H n v d)(e:yQ d=false)(a:tM d=false):jI Z H n v d:=by
 cases n with
 |zero=>cases v<;>first|exact h|exact h.elim
 |succ n=>
  cases v<;>first|exact h|exact h.elim|skip
  rcases h with⟨xs,ds,_,rfl,_⟩|⟨xs,ds,_,rfl,_⟩
  ·cases e
  ·cases a
theorem wM{n:Nat}{ds:List PyData}(h:e_ (n+1) (.list ds)):ds.length<=100/\∀d∈ds,e_ n d:=h
theorem sY{n:Nat}{ds:List PyData}(h:e_ (n+1) (.tuple ds)):ds.length<=100/\∀d∈ds,e_ n d:=h
theorem Ad{ds:List PyData}(h:e_ 0 (.tuple ds)):False:=h
section
variable{P:Program}{w:World}{K:PySem.W.Frag}{mg:Str->Option Value}{base:Heap}{C:Addr}{n:Nat}
theorem rF:ax ["thing"] ["thing"] (af s_copied):=⟨rfl,rfl,rfl,Qk,rfl,Qk,Qk⟩
theorem wR{f:Addr}{fd:FuncData}(F:bZ K "copied" "copied" s_copied f fd)(T:de K mg C)(g:cj P w K mg base 0 "copied" ["thing"] iV):FnOk P w K mg base cY 1 f fd ["thing"] (iZ 0):=by
 refine F.ok rF (λvs H Q E h=>?_) (λm A outer s H vs Q E e h=>?_)
 ·obtain⟨v,d,rfl,_⟩:=h;rfl
 ·obtain⟨v,d,rfl,l,ok,q⟩:=h;have a:List.Nodup (["part"]:List Str):=Qk;refine⟨_,(ae (aH (bb (aI aZ Qr T.isi b9 (aa (pv 0) (aa (dq T.list Qr eS) ad)))) (ag (av (cM (N:=["part"]) (xs:=1) (js:=[]) rfl (aQ rfl) (bD (pv 0)) (λ_ _ _ _=>aO (i:=0) a rfl (Or.inl rfl)) (λ_ _ _ _=>cF) (λ_ _ _ _=>aw g e Qr (aa (pv 0) ad))))) au)
   (ae (aH (bb (aI aZ Qr T.isi b9 (aa (pv 0) (aa (dq T.tuple Qr fV) ad)))) (ag (av (b6 ge Qr T.tuple fV (aa (cM (N:=["part"]) (xs:=1) (js:=[]) rfl (aQ rfl) (jb (pv 0)) (λ_ _ _ _=>aO (i:=0) a rfl (Or.inl rfl)) (λ_ _ _ _=>cF) (λ_ _ _ _=>aw g e Qr (aa (pv 0) ad))) ad)))) au)
   (ag (av (pv 0))))),?_⟩
  obtain⟨t,ty,j,n,k⟩:=l.ty3 (K:=K);have b:yQ d=false:=by cases d<;>first|rfl|exact ok.elim
  have c:tM d=false:=by cases d<;>first|rfl|exact(Ad ok).elim |exact ok.elim
  rw[b]at j;rw[c]at k;exact⟨_,rfl,v,"list",t,_,rfl,ty,j,_,rfl,aD ⟨_,rfl,v,"tuple",t,_,rfl,ty,k,_,rfl,aD ⟨_,rfl,q v H (Same.refl H) (oM l b c)⟩⟩⟩
theorem wQ{f:Addr}{fd:FuncData}{k:Nat}(F:bZ K "copied" "copied" s_copied f fd)(T:de K mg C)(Y:cj P w K mg base k "copied" ["thing"] (iZ n)):FnOk P w K mg base cY (k+1) f fd ["thing"] (iZ (n+1)):=by
 refine F.ok rF (λvs H Q E h=>?_) (λZ A outer s H vs Q E X h=>?_)
 ·obtain⟨v,d,rfl,_⟩:=h;rfl
 ·obtain⟨v,d,rfl,M,ok,q⟩:=h;have j:List.Nodup (["part"]:List Str):=Qk;refine⟨_,(ae (aH (bb (aI aZ Qr T.isi b9 (aa (pv 0) (aa (dq T.list Qr eS) ad)))) (ag (av (cM (N:=["part"]) (xs:=1) (js:=[]) rfl (aQ rfl) (bD (pv 0)) (λ_ _ _ _=>aO (i:=0) j rfl (Or.inl rfl)) (λ_ _ _ _=>cF) (λ_ _ _ _=>aw Y X Qr (aa (pv 0) ad))))) au)
   (ae (aH (bb (aI aZ Qr T.isi b9 (aa (pv 0) (aa (dq T.tuple Qr fV) ad)))) (ag (av (b6 ge Qr T.tuple fV (aa (cM (N:=["part"]) (xs:=1) (js:=[]) rfl (aQ rfl) (jb (pv 0)) (λ_ _ _ _=>aO (i:=0) j rfl (Or.inl rfl)) (λ_ _ _ _=>cF) (λ_ _ _ _=>aw Y X Qr (aa (pv 0) ad))) ad)))) au)
   (ag (av (pv 0))))),?_⟩
  obtain⟨t,ty,kl,ks,kt⟩:=M.ty3 (K:=K);refine⟨_,rfl,v,"list",t,yQ d,rfl,ty,kl,_,rfl,?_⟩;cases hL:yQ d with
  |true=>
   obtain⟨ds,rfl⟩:∃e,d=.list e:=by cases d<;>first|exact⟨_,rfl⟩|cases hL
   obtain⟨m,a,xs,O,rfl,D,I⟩:=M.list_of;cases O;obtain⟨V,W⟩:=wM ok;have G:=Paired.length I;refine bC ⟨_,rfl,a,rfl,⟨_,bp.of D⟩,cP (K:=K) (ys:=xs) (λi acc b H'=>Same H H'/\acc.length<=i/\Paired (jI (λq=>H q=none) H' n) acc (ds.take i)/\∃o,b=[o])
    ⟨Same.refl H,Nat.le_refl _,.nil,none,rfl⟩ (λi acc b H' h=>h.2.1) (by rw[G];exact Nat.le_trans V Qd) (λi acc b H' _ h=>bp.of (h.1 _ _ D)) (λi x acc b H' S h=>?_) (λacc b H' h p L=>?_)⟩
   ·obtain⟨g,l,c,o,rfl⟩:=h;obtain⟨B,hd,y⟩:=eG I S;refine⟨_,rfl,x,B,rfl,y.same g,W B (List.mem_of_getElem? hd),λv' H2 J u=>⟨g.trans J,by rw[List.length_append,List.length_singleton];omega,?_,_,rfl⟩⟩;rw[List.take_add_one,hd];exact kJ (u.weak λz U=>g.free U) (L2.Paired.mapP c λ_ _ h=>h.same J)
   ·obtain⟨g,l,c,o,rfl⟩:=h;rw[G,List.take_length]at c;have z:=Same.new (o:=.lst acc) L;exact q (.ref p) _ (g.trans z) (.inl ⟨acc,ds,ac,g.free L,rfl,L2.Paired.mapP c λ_ _ h=>h.same z⟩)
  |false=>
   refine aD ⟨_,rfl,v,"tuple",t,tM d,rfl,ty,kt,_,rfl,?_⟩;cases hT:tM d with
   |true=>
    obtain⟨ds,rfl⟩:∃e,d=.tuple e:=by cases d<;>first|exact⟨_,rfl⟩|cases hT
    obtain⟨m,a,xs,O,rfl,D,I⟩:=M.tup_of;cases O;obtain⟨V,W⟩:=sY ok;have G:=Paired.length I;refine bC ⟨_,rfl,a,rfl,⟨_,bj.of D⟩,mH (K:=K) (ys:=xs) (λi acc b H'=>Same H H'/\acc.length<=i/\Paired (jI (λq=>H q=none) H' n) acc (ds.take i)/\∃o,b=[o])
     ⟨Same.refl H,Nat.le_refl _,.nil,none,rfl⟩ (λi acc b H' h=>h.2.1) (by rw[G];exact Nat.le_trans V Qd) (λi acc b H' _ h=>bj.of (h.1 _ _ D)) (λi x acc b H' S h=>?_) (λacc b H' h p L=>?_)⟩
    ·obtain⟨g,l,c,o,rfl⟩:=h;obtain⟨B,hd,y⟩:=eG I S;refine⟨_,rfl,x,B,rfl,y.same g,W B (List.mem_of_getElem? hd),λv' H2 J u=>⟨g.trans J,by rw[List.length_append,List.length_singleton];omega,?_,_,rfl⟩⟩;rw[List.take_add_one,hd];exact kJ (u.weak λz U=>g.free U) (L2.Paired.mapP c λ_ _ h=>h.same J)
    ·obtain⟨g,l,c,o,rfl⟩:=h;rw[G,List.take_length]at c;have z:=Same.new (o:=.lst acc) L;refine⟨p,acc,rfl,.inl ⟨bp.of ac,λt2 R=>?_⟩⟩;have z2:=Same.new (o:=.tup acc) R;exact q (.ref t2) _ ((g.trans z).trans z2) (.inr ⟨acc,ds,ac,rfl,L2.Paired.mapP c λ_ _ h=>(h.same z).same z2⟩)
   |false=>exact aD ⟨_,rfl,q v H (Same.refl H) (oM M hL hT)⟩
theorem pH(b:∃f fd,bZ K "copied" "copied" s_copied f fd/\mg "copied"=some (.ref f))(T:de K mg C):∀n:Nat,cj P w K mg base (n+1) "copied" ["thing"] (iZ n)
 |0=>by
  obtain⟨f,fd,F,m⟩:=id b;exact⟨f,fd,wR F T (fS 0 b λ_ _ F=>F.binds λ_ _ _ _ _ _ us a=>match us,a with|[_],_=>rfl),m,F.kp,F.binds λ_ _ _ _ _ _ us a=>match us,a with|[_],_=>rfl⟩
 |n+1=>by
  obtain⟨f,fd,F,m⟩:=id b;exact⟨f,fd,wQ F T (pH b T n),m,F.kp,F.binds λ_ _ _ _ _ _ us a=>match us,a with|[_],_=>rfl⟩
end
def jF(n a:Addr):List (Str×V):=cR "stated" (.ref a) (cR "own_net" (.ref n) [])
theorem Bq:¬(("own_net":Str)="stated"):=Qk
theorem fC(n a:Addr):(jF n a).lookup ("own_net":Str)=some (.ref n):=by
 unfold jF;rw[br,if_neg Bq,br,if_pos rfl]
theorem gf(n a:Addr):(jF n a).lookup ("stated":Str)=some (.ref a):=by
 unfold jF;rw[br,if_pos rfl]
theorem bX(n a:Addr){m:Str}(h1:¬m="stated")(h2:¬m="own_net"):(jF n a).lookup m=none:=by
 unfold jF;rw[br,if_neg h1,br,if_neg h2]
 all_goals rfl
structure cZ where
 nm:Str
 cl:PyData
 so:Bool
 pa:PyData
def dM(L:List (cZ×Addr)):List (aT×V):=L.map λq=>(Sum.inr q.1.nm,V.ref q.2)
def pK(H:Hp)(q:cZ×Addr):Prop:=∃a pv,H q.2=some (.tup [a,.bl q.1.so,pv])/\PD H 10 a q.1.cl/\PD H 10 pv q.1.pa
structure BookAt(B C:Addr)(H:Hp)(p n ds dl sd:Addr)(S:NS)(E:List cZ):Prop where
 ob:∃dx,H p=some (.ins B dx (jF n sd))
 net:NetAt C H n ds dl S
 st:∃L,L.map (·.1)=E/\(∀q∈L,pK H q)/\H sd=some (.dK (dM L))
 n1:sd≠ds
 n2:sd≠dl
def iP(H H':Hp):Prop:=∀b o,(∀kv,o≠HO.dK kv)->H b=some o->H' b=some o
theorem PD.kpd{H H':Hp}(s:iP H H'):∀{n:Nat}{v:V}{d:PyData},PD H n v d->PD H' n v d
 |0,v,d,h=>by cases v<;>first|exact h|exact h.elim
 |n+1,v,d,h=>by
  cases v<;>first|exact h|exact h.elim|skip
  rcases h with⟨xs,ds,e,a,p⟩|⟨xs,ds,e,a,p⟩
  ·exact .inl ⟨xs,ds,s _ _ (by intro _ z;cases z) e,a,L2.Paired.mapP p λ_ _ h=>PD.kpd s h⟩
  ·exact .inr ⟨xs,ds,s _ _ (by intro _ z;cases z) e,a,L2.Paired.mapP p λ_ _ h=>PD.kpd s h⟩
theorem pK.kpd{H H':Hp}{q:cZ×Addr}(s:iP H H')(h:pK H q):pK H' q:=
 let⟨a,pv,e,p1,p2⟩:=h
 ⟨a,pv,s _ _ (by intro _ z;cases z) e,p1.kpd s,p2.kpd s⟩
theorem cA{H H':Hp}(s:Same H H'):iP H H':=λb o _ e=>s b o e
theorem iL{C:Addr}{H H':Hp}{p ds a:Addr}{S:NS}(N:NetAt C H p ds a S)(k:oo H H' ds a):iP H H':=λb o c e=>by
 obtain⟨L,_,d⟩:=N.ld;exact k b o e (λz=>by rw[z,N.st]at e;exact c _ (Option.some.inj e).symm) (λz=>by rw[z,d]at e;exact c _ (Option.some.inj e).symm)
theorem mr{H H':Hp}{a:Addr}{kv:List (aT×V)}(h:H a=some (.dK kv))(k:∀b o,H b=some o->b≠a->H' b=some o):iP H H':=λb o c e=>
 k b o e λz=>by rw[z,h]at e;exact c _ (Option.some.inj e).symm
theorem BookAt.same{B C:Addr}{H H':Hp}{p n ds a b:Addr}{S:NS}{E:List cZ}(s:Same H H')(h:BookAt B C H p n ds a b S E):BookAt B C H' p n ds a b S E:=
 ⟨let⟨dx,e⟩:=h.ob;⟨dx,s _ _ e⟩,h.net.same s,let⟨L,c,d,f⟩:=h.st;⟨L,c,λq g=>(d q g).kpd (cA s),s _ _ f⟩,h.n1,h.n2⟩
theorem BookAt.deed{B C:Addr}{H H':Hp}{p n ds a c:Addr}{S b:NS}{E:List cZ}(h:BookAt B C H p n ds a c S E)(N:NetAt C H' n ds a b)(k:oo H H' ds a):BookAt B C H' p n ds a c b E:=
 ⟨let⟨dx,e⟩:=h.ob;⟨dx,iL h.net k _ _ (by intro _ z;cases z) e⟩,N,let⟨L,d,f,g⟩:=h.st;⟨L,d,λq i=>(f q i).kpd (iL h.net k),k _ _ g h.n1 h.n2⟩,h.n1,h.n2⟩
theorem NetAt.but{C:Addr}{H H':Hp}{n ds a q:Addr}{S:NS}(N:NetAt C H n ds a S)(k:∀b o,H b=some o->b≠q->H' b=some o)(h1:n≠q)(h2:ds≠q)(f:a≠q)(g:∀r,H q≠some (.tup r)):NetAt C H' n ds a S:=
 ⟨let⟨dx,e⟩:=N.ob;⟨dx,k _ _ e h1⟩,k _ _ N.st h2,let⟨L,R,e⟩:=N.ld;⟨L,⟨R.1,λd c=>k _ _ (R.2 d c) (λz=>g _ (z▸R.2 d c))⟩,k _ _ e f⟩,N.ne⟩
theorem xM{L:List (cZ×Addr)}{E:List cZ}(h:L.map (·.1)=E):(dM L).map (·.1)=E.map λe=>(Sum.inr e.nm:aT):=by
 rw[<-h];unfold dM;rw[List.map_map,List.map_map];rfl
theorem kY{L:List (cZ×Addr)}{E:List cZ}{x:Str}(b:L.map (·.1)=E)(h:x∉E.map (·.nm)):valV (dM L) (Sum.inr x:aT)=none:=by
 cases e:valV (dM L) (Sum.inr x:aT)with
 |none=>rfl
 |some v=>
  have:=iD e;rw[xM b]at this;obtain⟨y,c,a⟩:=List.mem_map.mp this;exact absurd (List.mem_map.mpr ⟨y,c,Sum.inr.inj a⟩) h
theorem dZ{x:Str}:∀{L:List (cZ×Addr)}{E:List cZ},L.map (·.1)=E->x∈E.map (·.nm)->∃q∈L,q.1∈E/\q.1.nm=x/\valV (dM L) (Sum.inr x:aT)=some (.ref q.2)
 |[],E,a,h=>by subst a;exact nomatch h
 |q::r,E,a,h=>by
  subst a;by_cases e:q.1.nm=x
  ·exact⟨q,List.mem_cons_self,List.mem_cons_self,e,bH (congrArg Sum.inr e)⟩
  ·rcases List.mem_cons.mp h with z|z
   ·exact absurd z.symm e
   ·obtain⟨q2,b,c,d,f⟩:=dZ (L:=r) rfl z;refine⟨q2,List.mem_cons_of_mem _ b,List.mem_cons_of_mem _ c,d,?_⟩;show valV (_::dM r) _=_;rw[bI (λz=>e (Sum.inr.inj z))];exact f
structure lm(K:PySem.W.Frag)(mg:Str->Option Value)(B:Addr):Prop where
 cl:ol K B
 nN:d_ K B "own_net"
 nS:d_ K B "stated"
 mgB:mg "Book"=some (.ref B)
structure AL(K:PySem.W.Frag)(mg:Str->Option Value)(cN:Addr):Prop where
 m:mg "NoClaim"=some (.ref cN)
 ex:PySem.W.excIn K cN [.type "ValueError",.type "Exception",.type "BaseException",.type "object"] "ValueError.__new__"=true
def oG(B C:Addr):Sp:=λvs H Q _=>∃(p dx:Addr),vs=[.ref p]/\H p=some (.ins B dx [])/\∀(n ds a c:Addr)(H':Hp),BookAt B C H' p n ds a c .nil []->(∀b o,H b=some o->b≠p->H' b=some o)->Q .non H'
def rb(B C:Addr):Sp:=λvs H Q _=>∃(p n ds c d:Addr)(S:NS)(E:List cZ),vs=[.ref p]/\BookAt B C H p n ds c d S E/\∀(x b a:Addr)(H':Hp),Same H H'->NetAt C H' x b a S->Q (.ref x) H'
def jY(B C:Addr):Sp:=λvs H Q _=>∃(p n ds a b:Addr)(S:NS)(E:List cZ),vs=[.ref p]/\BookAt B C H p n ds a b S E/\∀l,H l=none->Q (.ref l) (upd H l (.lst ((E.map (·.nm)).map V.str)))
def i4(B C cN:Addr):Sp:=λvs H Q X=>∃(p n ds a b:Addr)(S:NS)(E:List cZ)(x:Str),vs=[.ref p,.str x]/\BookAt B C H p n ds a b S E/\okT x/\(x∈E.map (·.nm)->Q .non H)/\(x∉E.map (·.nm)->X (.ref cN) none H)
def dE(B C cN:Addr)(f:cZ->V->Hp->Hp->Prop):Sp:=λvs H Q X=>∃(p n ds a b:Addr)(S:NS)(E:List cZ)(x:Str),vs=[.ref p,.str x]/\BookAt B C H p n ds a b S E/\okT x/\(∀e∈E,e_ 10 e.cl/\e_ 10 e.pa)/\
 (∀e∈E,e.nm=x->∀v H',f e v H H'->Q v H')/\(x∉E.map (·.nm)->X (.ref cN) none H)
def Ap(e:cZ)(v:V)(H H':Hp):Prop:=Same H H'/\PD H' 10 v e.cl
def xI(e:cZ)(v:V)(H H':Hp):Prop:=H=H'/\v=.bl e.so
def xJ(e:cZ)(v:V)(H H':Hp):Prop:=Same H H'/\PD H' 10 v e.pa
section
variable{P:Program}{w:World}{K:PySem.W.Frag}{mg:Str->Option Value}{base:Heap}{C B cN:Addr}
theorem rH:ax ["self"] ["self"] (af s_Book_init):=⟨rfl,rfl,rfl,Qk,rfl,Qk,Qk⟩
theorem sW{f:Addr}{fd:FuncData}(F:bZ K "__init__" "Book.__init__" s_Book_init f fd)(T:de K mg C)(j:lm K mg B)(V:om P w K mg base 1 C ["self"] (mX C)):FnOk P w K mg base cY 3 f fd ["self"] (oG B C):=by
 refine F.ok rH (λvs H Q E h=>?_) (λU A outer s H vs Q E hr h=>?_)
 ·obtain⟨p,dx,rfl,_⟩:=h;rfl
 ·obtain⟨p,dx,rfl,J,k⟩:=h;refine⟨_,(ae (hJ (pv 0) (hZ V hr Qr T.mgC) rfl)
   (ag (hJ (pv 0) fo rfl))),?_⟩
  intro n u nn D xa;refine⟨n,u,rfl,ac,λds I H1 Y X t y=>⟨rfl,?_⟩⟩;have s0:Same H (upd (upd H u (.own n)) n (.ins C u [])):=λb ob e=>by
   rw[ah (ai e nn),ah (ai e D)];exact e
  have O:Same H H1:=λb ob e=>y b ob (s0 b ob e) (ai e nn);have a:=O _ _ J;refine⟨_,rfl,p,B,dx,[],rfl,a,j.cl,j.nN,(by show 0<1000;decide),?_⟩;have N:n≠p:=(ai J nn).symm;obtain⟨L,R,x⟩:=t.ld;have i:NetAt C (upd H1 p (.ins B dx (cR "own_net" (.ref n) []))) n ds I .nil:=t.but (q:=p) (λb o e d=>by rw[ah d];exact e) N (bM t.st a (by intro z;cases z)) (bM x a (by intro z;cases z)) (λr z=>by rw[a]at z;cases z);have l:(upd H1 p (.ins B dx (cR "own_net" (.ref n) []))) p=some (.ins B dx (cR "own_net" (.ref n) [])):=ac;have k2:∀b o,H b=some o->b≠p->(upd H1 p (.ins B dx (cR "own_net" (.ref n) []))) b=some o:=λb o e d=>by rw[ah d];exact O b o e
  generalize upd H1 p (.ins B dx (cR "own_net" (.ref n) []))=H2 at i l k2;intro S c;have M:p≠S:=ai l c;refine⟨_,rfl,p,B,dx,_,rfl,(by rw[ah M];exact l),j.cl,j.nS,(by show 1<1000;decide),?_⟩;have m:=Same.new (o:=.dK []) c;have G:=i.same m;obtain⟨L3,R3,g⟩:=i.ld;obtain⟨W,Z⟩:=i.ob;have v:=m _ _ l;refine k n ds I S _ ⟨⟨dx,ac⟩,G.but (q:=p) (λb o e d=>by rw[ah d];exact e) N (bM G.st v (by intro z;cases z)) (bM (m _ _ g) v (by intro z;cases z)) (λr z=>by rw[v]at z;cases z),⟨[],rfl,λq h=>(nomatch h),by rw[ah M.symm,ac];rfl⟩,(ai i.st c).symm,(ai g c).symm⟩ λb o e d=>?_;rw[ah d];exact m _ _ (k2 b o e d)
theorem vG:ax ["self"] ["self"] (af s_Book_net):=⟨rfl,rfl,rfl,Qk,rfl,Qk,Qk⟩
theorem wU{f:Addr}{fd:FuncData}(F:bZ K "net" "Book.net" s_Book_net f fd)(T:de K mg C)(d:lm K mg B)(l:dN P w K mg base 3 C "twin" ["self"] (qV C)):FnOk P w K mg base cY 4 f fd ["self"] (rb B C):=by
 refine F.ok vG (λvs H Q E h=>?_) (λi A outer s H vs Q E k h=>?_)
 ·obtain⟨p,n,ds,e,m,S,E,rfl,_⟩:=h;rfl
 ·obtain⟨p,n,ds,e,m,S,E,rfl,a,q⟩:=h;refine⟨_,(ag (av (bn (aY (pv 0) rfl) T.cl l k))),?_⟩;obtain⟨dx,h1⟩:=a.ob;obtain⟨j,hn⟩:=a.net.ob;exact⟨_,rfl,p,B,dx,_,_,rfl,h1,d.cl,d.nN,fC _ _,n,j,_,rfl,hn,bL _ _ Qk Qk,n,ds,e,S,rfl,a.net,λx c b H' s' _ _ _ g=>q x c b H' s' g⟩
theorem nq:ax ["self"] ["self"] (af s_Book_claims):=⟨rfl,rfl,rfl,Qk,rfl,Qk,Qk⟩
theorem nP{f:Addr}{fd:FuncData}(F:bZ K "claims" "Book.claims" s_Book_claims f fd)(T:de K mg C)(b:lm K mg B):FnOk P w K mg base cY 1 f fd ["self"] (jY B C):=by
 refine F.ok nq (λvs H Q E h=>?_) (λd A outer s H vs Q E o h=>?_)
 ·obtain⟨p,n,ds,g,c,S,E,rfl,_⟩:=h;rfl
 ·obtain⟨p,n,ds,g,c,S,E,rfl,a,q⟩:=h;refine⟨_,(ag (av (b6 (gp rfl) Qr T.list eS (aa (aY (pv 0) rfl) ad)))),?_⟩;obtain⟨dx,h1⟩:=a.ob;obtain⟨L,i,m,j⟩:=a.st;refine⟨_,rfl,p,B,dx,_,_,rfl,h1,b.cl,b.nS,gf _ _,c,dM L,rfl,.inl j,λl k=>?_⟩;have e:(dM L).map (λkv=>kV kv.1)=(E.map (·.nm)).map V.str:=by
   rw[<-i];unfold dM;rw[List.map_map,List.map_map,List.map_map];rfl
  rw[e];exact q l k
theorem vF:ax ["self","name"] ["self","name"] (af s_Book_refuse_no_claim):=⟨rfl,rfl,rfl,Qk,rfl,Qk,Qk⟩
theorem wT{f:Addr}{fd:FuncData}(F:bZ K "refuse_no_claim" "Book.refuse_no_claim" s_Book_refuse_no_claim f fd)(c:lm K mg B)(R:AL K mg cN):FnOk P w K mg base (e8 P w) 1 f fd ["self","name"] (i4 B C cN):=by
 refine F.okX vF (λvs H Q E h=>?_) (λi A outer s H vs Q E o W h=>?_)
 ·obtain⟨p,n,ds,j,g,S,E,x,rfl,_⟩:=h;rfl
 ·obtain⟨p,n,ds,j,g,S,E,x,rfl,b,e,k1,k2⟩:=h;have t:=cU o;obtain⟨dx,h1⟩:=b.ob;obtain⟨L,d,u,l⟩:=b.st;refine⟨_,(ag (aH (da (dw t (pv 1) (aY (pv 0) rfl))) (ag (cT W rfl Qr R.m R.ex PySem.F.excBase_ValueError (aa (df (bu aj (bu (jd (pv 1)) d7)) Qd) ad))) au)),?_⟩;refine⟨_,rfl,_,rfl,p,B,dx,_,_,rfl,h1,c.cl,c.nS,gf _ _,g,_,rfl,cD.k (k:=Sum.inr x) l,_,rfl,?_⟩;by_cases a:x∈E.map (·.nm)
  ·obtain⟨q,_,_,_,m⟩:=dZ d a;rw[m];exact aD (k1 a)
  ·rw[kY d a];exact bC ⟨_,rfl,Qk,_,rfl,.inl ⟨x,rfl,e.repS,_,rfl,e.rep,by show 1<=sizeLine;decide,k2 a⟩⟩
theorem pY:ax ["self","name"] ["self","name"] (af s_Book_claim):=⟨rfl,rfl,rfl,Qk,rfl,Qk,Qk⟩
theorem qj{f:Addr}{fd:FuncData}(F:bZ K "claim" "Book.claim" s_Book_claim f fd)(c:lm K mg B)(o:ba P w K mg base 1 B "refuse_no_claim" ["self","name"] (i4 B C cN))(cc:cj P w K mg base 11 "copied" ["thing"] (iZ 10)):FnOk P w K mg base (e8 P w) 12 f fd ["self","name"] (dE B C cN Ap):=by
 refine F.okX pY (λvs H Q E h=>?_) (λt A outer s H vs Q E i W h=>?_)
 ·obtain⟨p,n,ds,m,j,S,E,x,rfl,_⟩:=h;rfl
 ·obtain⟨p,n,ds,m,j,S,E,x,rfl,b,I,ok,k1,k2⟩:=h;have G:=cU i;have N:be 1 _:=i.mono Qd;obtain⟨dx,h1⟩:=b.ob;obtain⟨L,u,v,y⟩:=b.st;refine⟨_,(ae (aG (bq (pv 0) c.cl o W N (aa (pv 1) ad)))
   (ag (av (aw cc i Qr (aa (ay az (cG G (aY (pv 0) rfl) (pv 1) (λ_ _=>rfl)) ak (λ_ _=>Qr)) ad))))),?_⟩
  refine⟨_,rfl,p,dx,_,rfl,h1,bX _ _ Qk Qk,_,rfl,p,n,ds,m,j,S,E,x,rfl,b,I,λd=>?_,k2⟩;obtain⟨q,D,a,e,g⟩:=dZ u d;obtain⟨l,M,z,p1,p2⟩:=v q D;refine⟨_,rfl,p,B,dx,_,_,rfl,h1,c.cl,c.nS,gf _ _,_,rfl,j,.ref q.2,rfl,by rw[<-g];exact cD.k (k:=Sum.inr x) y,q.2,_,_,l,rfl,rfl,bj.of z,rfl,l,q.1.cl,rfl,p1,(ok q.1 a).1,λO H' s' J=>k1 q.1 a e O H' ⟨s',J.pd⟩⟩
theorem pX:ax ["self","name"] ["self","name"] (af s_Book_paper):=⟨rfl,rfl,rfl,Qk,rfl,Qk,Qk⟩
theorem qi{f:Addr}{fd:FuncData}(F:bZ K "paper" "Book.paper" s_Book_paper f fd)(d:lm K mg B)(o:ba P w K mg base 1 B "refuse_no_claim" ["self","name"] (i4 B C cN))(cc:cj P w K mg base 11 "copied" ["thing"] (iZ 10)):FnOk P w K mg base (e8 P w) 12 f fd ["self","name"] (dE B C cN xJ):=by
 refine F.okX pX (λvs H Q E h=>?_) (λt A outer s H vs Q E j W h=>?_)
 ·obtain⟨p,n,ds,m,l,S,E,x,rfl,_⟩:=h;rfl
 ·obtain⟨p,n,ds,m,l,S,E,x,rfl,c,I,ok,k1,k2⟩:=h;have G:=cU j;have M:be 1 _:=j.mono Qd;obtain⟨dx,h1⟩:=c.ob;obtain⟨L,u,v,y⟩:=c.st;refine⟨_,(ae (aG (bq (pv 0) d.cl o W M (aa (pv 1) ad)))
   (ag (av (aw cc j Qr (aa (ay az (cG G (aY (pv 0) rfl) (pv 1) (λ_ _=>rfl)) ak (λ_ _=>Qr)) ad))))),?_⟩
  refine⟨_,rfl,p,dx,_,rfl,h1,bX _ _ Qk Qk,_,rfl,p,n,ds,m,l,S,E,x,rfl,c,I,λe=>?_,k2⟩;obtain⟨q,D,a,g,i⟩:=dZ u e;obtain⟨O,b,z,p1,p2⟩:=v q D;refine⟨_,rfl,p,B,dx,_,_,rfl,h1,d.cl,d.nS,gf _ _,_,rfl,l,.ref q.2,rfl,by rw[<-i];exact cD.k (k:=Sum.inr x) y,q.2,_,_,b,rfl,rfl,bj.of z,rfl,b,q.1.pa,rfl,p2,(ok q.1 a).2,λN H' s' J=>k1 q.1 a g N H' ⟨s',J.pd⟩⟩
theorem lN:ax ["self","name"] ["self","name"] (af s_Book_verdict):=⟨rfl,rfl,rfl,Qk,rfl,Qk,Qk⟩
theorem md{f:Addr}{fd:FuncData}(F:bZ K "verdict" "Book.verdict" s_Book_verdict f fd)(b:lm K mg B)(m:ba P w K mg base 1 B "refuse_no_claim" ["self","name"] (i4 B C cN)):FnOk P w K mg base (e8 P w) 2 f fd ["self","name"] (dE B C cN xI):=by
 refine F.okX lN (λvs H Q E h=>?_) (λo A outer s H vs Q E l W h=>?_)
 ·obtain⟨p,n,ds,j,i,S,E,x,rfl,_⟩:=h;rfl
 ·obtain⟨p,n,ds,j,i,S,E,x,rfl,a,G,ok,k1,k2⟩:=h;have D:=cU l;obtain⟨dx,h1⟩:=a.ob;obtain⟨L,t,u,v⟩:=a.st;refine⟨_,(ae (aG (bq (pv 0) b.cl m W l (aa (pv 1) ad)))
   (ag (av (ay az (cG D (aY (pv 0) rfl) (pv 1) (λ_ _=>rfl)) ak (λ_ _=>Qr))))),?_⟩
  refine⟨_,rfl,p,dx,_,rfl,h1,bX _ _ Qk Qk,_,rfl,p,n,ds,j,i,S,E,x,rfl,a,G,λc=>?_,k2⟩;obtain⟨q,z,d,e,g⟩:=dZ t c;obtain⟨J,I,y,p1,p2⟩:=u q z;exact⟨_,rfl,p,B,dx,_,_,rfl,h1,b.cl,b.nS,gf _ _,_,rfl,i,.ref q.2,rfl,by rw[<-g];exact cD.k (k:=Sum.inr x) v,q.2,_,_,.bl q.1.so,rfl,rfl,bj.of y,rfl,k1 q.1 d e _ _ ⟨rfl,rfl⟩⟩
end
def CI(S:NS):LS:=⟨λv=>if v∈S.pl then some 0 else none,λ_=>none⟩
def ju(S:NS):LS×Option Str:=cE S.ti S.pl.length (CI S)
theorem BH{q:LS×Option Str}{r:b7}{v:Str}(h:(q.1.p v).isSome=true):((nY q r).1.p v).isSome=true:=by
 unfold nY;split
 ·rename_i a;obtain⟨x,ex,_⟩:=oZ a;show((lW q.1 r).p v).isSome=true;by_cases e:v=r.b
  ·rw[e,lU ex];rfl
  ·rw[lT e];exact h
 ·exact h
theorem tQ{v:Str}:∀{rows:List b7}{q:LS×Option Str},(q.1.p v).isSome=true->((rows.foldl nY q).1.p v).isSome=true
 |[],_,h=>h
 |r::rows,q,h=>tQ (rows:=rows) (q:=nY q r) (BH h)
theorem lS{v:Str}{rows:List b7}{s:LS}(h:(s.p v).isSome=true):∀n:Nat,((cE rows n s).1.p v).isSome=true
 |0=>h
 |n+1=>tQ (q:=((cE rows n s).1,none)) (lS h n)
def gj(pl:List Str):List (aT×V):=pl.map λx=>((Sum.inr x:aT),V.int 0)
theorem r6{pl:List Str}(v:Str):valV (gj pl) (Sum.inr v:aT)=(if v∈pl then some (0:Int)else none).map V.int:=by
 unfold gj;induction pl with
 |nil=>rfl
 |cons x r a=>
  by_cases e:x=v
  ·rw[List.map_cons,bH (congrArg Sum.inr e),if_pos (by rw[e];exact List.mem_cons_self)];rfl
  ·rw[List.map_cons,bI (λz=>e (Sum.inr.inj z)),a];by_cases h:v∈r
   ·rw[if_pos h,if_pos (List.mem_cons_of_mem _ h)]
   ·rw[if_neg h,if_neg (λz=>by rcases List.mem_cons.mp z with z|z;exact e z.symm;exact h z)]
theorem hV(pl:List Str):(gj pl).map (·.1)=pl.map Sum.inr:=by
 unfold gj;rw[List.map_map];rfl
theorem j7{e d:Type}{l:List d}(h:l.Nodup):(l.map (Sum.inr:d->e ⊕ d)).Nodup:=List.Pairwise.map _ (λa b c z=>c (Sum.inr.inj z)) h
theorem oK{F:V->PyData->Prop}{x:V}{d:PyData}(h:F x d):∀{xs:List V}{ds:List PyData},Paired F xs ds->Paired F (xs++[x]) (ds++[d])
 |_,_,.nil=>.cons h .nil
 |_,_,.cons a t=>.cons a (oK h t)
theorem cX(n:Nat)(x:Str):e_ n (.str x):=by cases n<;>exact True.intro
theorem C2(n:Nat)(x:Int):e_ n (.int x):=by cases n<;>exact True.intro
def DI(d:PyData):Prop:=∃(u:Str)(y:Int),d=.list [.str u,.int y]
theorem BS{rows:List PyData}(h1:rows.length<=100)(h:∀d∈rows,DI d):e_ 10 (.list rows):=⟨h1,λd hd=>by
 obtain⟨u,y,rfl⟩:=h d hd;exact⟨by show 2<=100;decide,λe a=>by
  rcases List.mem_cons.mp a with rfl|a
  ·exact cX _ _
  ·rw[List.mem_singleton.mp a];exact C2 _ _⟩⟩
theorem PD.monoK{H:Hp}{k m:Nat}{v:V}{d:PyData}(h:k<=m)(p:PD H k v d):PD H m v d:=by
 have c:∀{n:Nat}{v:V}{d:PyData},PD H n v d->PD H (n+1) v d:=by
  intro n;induction n with
  |zero=>intro v d h;cases v<;>first|exact h|exact h.elim
  |succ n a=>
   intro v d h;cases v<;>first|exact h|exact h.elim|skip
   rcases h with⟨xs,ds,e,b,p⟩|⟨xs,ds,e,b,p⟩
   ·exact .inl ⟨xs,ds,e,b,L2.Paired.mapP p λ_ _ h=>a h⟩
   ·exact .inr ⟨xs,ds,e,b,L2.Paired.mapP p λ_ _ h=>a h⟩
 obtain⟨j,rfl⟩:∃j,m=k+j:=⟨m-k,Qo⟩;clear h;induction j with
 |zero=>exact p
 |succ j a=>exact c a
def Bc(C:Addr):Sp:=λvs H Q _=>∃(p ds a:Addr)(S:NS),vs=[.ref p]/\gV C H p ds a S/\1<=S.pl.length/\(ju S).2=none/\
 ∀(t l:Addr)(rows:List PyData)(H':Hp),Same H H'->H' t=some (.tup [.bl false,.ref l])->PD H' 10 (.ref l) (.list rows)->rows≠ []->e_ 10 (.list rows)->Q (.ref t) H'
def FcG(S:NS)(xs:List V)(H:Hp)(Q:VK):Prop:=
 (∃a b,xs=[.str "way",.str a,.str b]/\a∈S.pl/\b∈S.pl/\∀(t l:Addr)(ws:List Str)(H':Hp),Same H H'->H' t=some (.tup [.bl (verd S (.way a b)),.ref l])->H' l=some (.lst (ws.map V.str))->ws.length<=100->yU S (verd S (.way a b)) ws (.way a b)->Q (.ref t) H')\/
 (xs=[.str "ring"]/\1<=S.pl.length/\(ju S).2=none/\∀(t l:Addr)(rows:List PyData)(H':Hp),Same H H'->H' t=some (.tup [.bl false,.ref l])->PD H' 10 (.ref l) (.list rows)->rows≠ []->e_ 10 (.list rows)->Q (.ref t) H')
def uW(C:Addr):Sp:=λvs H Q _=>∃(p ds a ct:Addr)(S:NS)(xs:List V),vs=[.ref p,.ref ct]/\gV C H p ds a S/\H ct=some (.tup xs)/\FcG S xs H Q
def uU(C:Addr):Sp:=λvs H Q _=>∃(p ds c ct:Addr)(S:NS)(a b:Str)(v:V)(d:PyData),vs=[.ref p,.ref ct,.bl true,v]/\gV C H p ds c S/\H ct=some (.tup [.str "way",.str a,.str b])/\a∈S.pl/\b∈S.pl/\PD H 10 v d/\(∀e,d=.list e->e.length<=1000)/\eY S.ti a d=some b/\∀H',Same H H'->Q (.bl true) H'
def Bb(C:Addr):Sp:=λvs H Q _=>∃(p ds c ct:Addr)(S:NS)(a b:Str)(v:V)(d:PyData),vs=[.ref p,.ref ct,v]/\gV C H p ds c S/\H ct=some (.tup [.str "way",.str a,.str b])/\a∈S.pl/\b∈S.pl/\PD H 10 v d/\(∀e,d=.list e->e.length<=1000)/\eY S.ti a d=some b/\∀H',Same H H'->Q (.bl true) H'
theorem zW{X:Cx}{e:Expr}:PE X e (λ_ _ _=>False):=λ_ _ _ _ _ _ h=>h.elim
theorem DR:decide (V.str "ring"=V.str "way")=false:=Qk
theorem DT:decide (V.str "ring"=V.str "cost")=false:=Qk
theorem DS:decide (V.str "ring"=V.str "ring")=true:=Qk
section
variable{P:Program}{w:World}{K:PySem.W.Frag}{mg:Str->Option Value}{base:Heap}{C:Addr}
abbrev AI:List Str:=["net","prices","lowered_by","late"]
theorem gA:ax AI ["net"] (af s_find_ring):=⟨rfl,rfl,rfl,Qk,rfl,Qk,Qk⟩
theorem sT{f:Addr}{fd:FuncData}(F:bZ K "find_ring" "find_ring" s_find_ring f fd)(T:de K mg C)(TW:AA mg)(m1:dN P w K mg base 1 C "places" ["self"] (em C))(m2:dN P w K mg base 1 C "ties" ["self"] (iX C))(cl:cj P w K mg base 2 "lower_prices" ["prices","lowered_by","rows","rounds"] oA):
  FnOk P w K mg base cY 3 f fd ["net"] (Bc C):=by
 refine F.ok gA (λvs H Q E h=>?_) (λxy A outer s H vs Q E hr h=>?_)
 ·obtain⟨p,ds,R,S,rfl,_⟩:=h;rfl
 ·obtain⟨p,ds,R,S,rfl,N,X,Z,qF⟩:=h;have hu:=cU hr;have r1:be 1 _:=hr.mono Qd;have xt:List.Nodup (["place"]:List Str):=Qk;have xu:List.Nodup (["place","prices"]:List Str):=Qk;refine⟨_,(ae (aF (i:=1) gA.nd rfl (Or.inr rfl) (b6 (jC rfl) Qr TW.dict lc (aa (cM (N:=["place"]) (xs:=1) (js:=[]) rfl (aQ rfl) (bD (bn (pv 0) T.cl m1 r1)) (λ_ _ _ _=>aO (i:=0) xt rfl (Or.inl rfl)) (λ_ _ _ _=>cF) (λ_ _ _ _=>aK (aa (pv 0) (aa ak ad)))) ad)))
   (ae (aF (i:=2) gA.nd rfl (Or.inl rfl) fo)
   (ae (aF (i:=3) gA.nd rfl (Or.inl rfl) (aw cl hr Qr (aa (pv 1) (aa (pv 2) (aa (bn (pv 0) T.cl m2 r1) (aa (aI fU Qr T.len jG (aa (pv 1) ad)) ad))))))
   (ae (aH (da (nB (pv 3))) (ag (av (aK (aa dS (aa (cM (N:=["place","prices"]) (xs:=1) (js:=[1]) rfl (aQ rfl) (vU (pv 1)) (λ_ _ _ _=>aO (i:=0) xu rfl (Or.inl rfl)) (λ_ _ _ _=>cF) (λ_ _ _ _=>aR (aa (pv 0) (aa (cG hu (pv 1) (pv 0) (λ_ _=>rfl)) ad)))) ad))))) au)
   (ag cn))))),?_⟩
  obtain⟨dx,h1⟩:=N.net.ob;refine⟨_,rfl,p,dx,_,rfl,h1,bL ds R Qk Qk,p,ds,R,S,rfl,N.net,λpl xn=>?_⟩;have s1:=Same.new (o:=.lst (S.pl.map V.str)) xn;have e1:(upd H pl (.lst (S.pl.map V.str))) pl=some (.lst (S.pl.map V.str)):=ac;generalize upd H pl (.lst (S.pl.map V.str))=H1 at s1 e1;have c:=N.fewP;refine⟨pl,rfl,⟨_,bp.of e1⟩,cP (K:=K) (ys:=S.pl.map V.str) (λi acc a H'=>∃ps:List (Addr×aT×V),acc=ps.map (λq=>V.ref q.1)/\ps.map (·.2)=gj (S.pl.take i)/\(∀q∈ps,H' q.1=some (.tup [kV q.2.1,q.2.2]))/\Same H1 H'/\∃o,a=[o])
   ⟨[],rfl,rfl,λ_ h=>(nomatch h),Same.refl H1,none,rfl⟩ (λi acc a H' h=>?_) ?_ (λi acc a H' _ h=>?_) (λi x acc a H' j h=>?_) (λacc a H' h pp xo=>?_)⟩
  ·obtain⟨ps,rfl,e,_⟩:=h;have:=congrArg List.length e;unfold gj at this;rw[List.length_map,List.length_map,List.length_take]at this;rw[List.length_map];omega
  ·rw[List.length_map];exact Nat.le_trans c Qd
  ·obtain⟨_,_,_,_,s2,_⟩:=h;exact bp.of (s2 _ _ e1)
  ·obtain⟨ps,rfl,e,hp,s2,o,rfl⟩:=h;rw[List.getElem?_map]at j;cases eq:S.pl[i]? with
   |none=>rw[eq]at j;cases j
   |some y=>
    rw[eq]at j;cases j;refine⟨_,rfl,(by show 2<=sizeLine;decide),λt ht=>?_⟩;refine⟨ps++[(t,Sum.inr y,V.int 0)],by rw[List.map_append];rfl,?_,λz I=>?_,s2.upd ht,_,rfl⟩
    ·rw[List.map_append,e,List.take_add_one,eq];unfold gj;rw[List.map_append];rfl
    ·rcases List.mem_append.mp I with I|I
     ·exact(Same.new ht) _ _ (hp z I)
     ·cases List.mem_singleton.mp I;exact ac
  ·obtain⟨ps,rfl,e,hp,s2,o,rfl⟩:=h;rw[List.length_map,List.take_length]at e;have s3:=Same.new (o:=.lst (ps.map λq=>V.ref q.1)) xo;refine⟨pp,ps,rfl,bp.of ac,λz I=>bj.of (s3 _ _ (hp z I)),λdp D=>?_⟩;have en:cz [] (ps.map (·.2))=gj S.pl:=by
    rw[e,gm _ _ ?_,List.nil_append];rw[List.nil_append,hV];exact j7 N.ndP
   rw[en];have J:=(s1.trans s2).trans s3;generalize upd H' pp (.lst (ps.map λq=>V.ref q.1))=H3 at s3 J D;have z4:=Same.new (o:=.dK (gj S.pl)) D;have n:(upd H3 dp (.dK (gj S.pl))) dp=some (.dK (gj S.pl)):=ac;generalize upd H3 dp (.dK (gj S.pl))=H4 at z4 n;intro O B;have z5:=Same.new (o:=.dK []) B;have U:(upd H4 O (.dK [])) O=some (.dK []):=ac;have xm:dp≠O:=ai n B;generalize upd H4 O (.dK [])=H5 at z5 U;have xc:=J.trans z4;have xd:=xc.trans z5;have m:H dp=none:=J.free D;have Y:H O=none:=xc.free B;have N5:=N.same xd;obtain⟨xg,xj⟩:=N5.net.ob;refine⟨_,rfl,_,rfl,_,rfl,p,xg,_,rfl,xj,bL ds R Qk Qk,p,ds,R,S,rfl,N5.net,λtl H6 L xz s6 RL xi=>?_⟩;have xv:=xd.trans s6;have l:=(z5.trans s6) _ _ n;have W:=s6 _ _ U;have hL:(gj S.pl).length=S.pl.length:=by unfold gj;rw[List.length_map]
   refine⟨_,rfl,dp,_,rfl,l,dp,O,tl,(gj S.pl).length,S.pl,L,S.ti,CI S,rfl,xm,Qo,Qo,λr hr=>(N.okT r hr).2.2,RL.same s6,xi,⟨_,l,⟨by rw[hV];exact j7 N.ndP,λk hk=>?_⟩,λv=>r6 v⟩,⟨_,W,⟨List.nodup_nil,λk hk=>(nomatch hk)⟩,λv=>⟨λ_=>rfl,λr z=>(nomatch z)⟩⟩,λM b2 Pr Bk=>?_⟩
   ·rw[hV]at hk;obtain⟨x,j,rfl⟩:=List.mem_map.mp hk;exact⟨x,j,rfl⟩
   rw[hL]at Pr;rw[hL];clear Bk;have xw:Same H M:=λb o e=>b2 b o (xv _ _ e) (ai e m) (ai e Y);have xf:uH M dp S.pl (ju S).1.p:=Pr;show eV 3 (ss (ju S).2) _ M _;rw[Z];obtain⟨kvs,ek,dk,hv⟩:=xf;refine⟨_,rfl,_,rfl,cB Qr ?_⟩;refine⟨_,rfl,dp,kvs,rfl,ek,λo=>?_⟩;have xa:=dk.len;have xe:Same H (upd M dp (.frz o (.dK kvs))):=λb ob e=>by rw[ah (ai e m)];exact xw _ _ e
   have ef:(upd M dp (.frz o (.dK kvs))) dp=some (.frz o (.dK kvs)):=ac;generalize upd M dp (.frz o (.dK kvs))=H8 at xe ef;refine qH (d:=dp) (o:=o) (kvs:=kvs) (λi acc a H'=>Same H8 H'/\(∃rows,Paired (PD H' 1) acc rows/\rows.length=i/\∀d∈rows,DI d)/\∃o',a=[o',some (.ref dp)])
    ⟨Same.refl _,⟨[],.nil,rfl,λ_ h=>(nomatch h)⟩,none,rfl⟩ (λi acc a H' h=>?_) (Nat.le_trans (Nat.le_trans xa c) Qd) (λi acc a H' _ h=>h.1 _ _ ef) (λi kv acc a H' xk h=>?_) (λacc a H' h ll xl=>?_)
   ·obtain⟨_,⟨rows,pr,rl,_⟩,_⟩:=h;have:=Paired.length pr;omega
   ·obtain⟨t5,⟨rows,pr,rl,G⟩,o',rfl⟩:=h;have xb:=List.mem_map_of_mem (f:=(·.1)) (List.mem_of_getElem? xk);obtain⟨u,xq,eu⟩:=dk.2 kv.1 xb;have g:(valV kvs (Sum.inr u:aT)).isSome=true:=by
     cases e:valV kvs (Sum.inr u:aT)with
     |some v=>rfl
     |none=>exact absurd (eu▸xb) (lq e)
    rw[hv,Option.isSome_map]at g;obtain⟨y,ey⟩:=Option.isSome_iff_exists.mp g;have vu:valV kvs (Sum.inr u:aT)=some (.int y):=by rw[hv,ey];rfl
    have xh:kV kv.1=V.str u:=by rw[eu];rfl
    rw[xh];refine⟨_,rfl,_,rfl,_,rfl,dp,_,rfl,by rw[<-vu];exact .inl ⟨kvs,Sum.inr u,.inr ⟨o,t5 _ _ ef⟩,rfl,rfl⟩,(by show 2<=sizeLine;decide),λqa xp=>?_⟩;have z1:=Same.new (o:=.lst [.str u,.int y]) xp;refine⟨t5.trans z1,⟨rows++[.list [.str u,.int y]],oK (.inl ⟨_,_,ac,rfl,.cons ⟨bN (N.okP u xq),rfl⟩ (.cons rfl .nil)⟩) (L2.Paired.mapP pr λ_ _ h=>h.same z1),by rw[List.length_append,rl];rfl,λd hd=>?_⟩,_,rfl⟩;rcases List.mem_append.mp hd with hd|hd
    ·exact G d hd
    ·exact⟨u,y,List.mem_singleton.mp hd⟩
   ·obtain⟨t5,⟨rows,pr,rl,G⟩,o',rfl⟩:=h;have z1:=Same.new (o:=.lst acc) xl;have e2:(upd H' ll (.lst acc)) ll=some (.lst acc):=ac;generalize upd H' ll (.lst acc)=H9 at z1 e2;refine⟨(by show 2<=sizeLine;decide),λt ht=>?_⟩;have z2:=Same.new (o:=.tup [.bl false,.ref ll]) ht;have xx:=xe.trans t5;refine qF t ll rows _ ((xx.trans z1).trans z2) ac (PD.monoK (k:=2) Qd (.inl ⟨acc,rows,z2 _ _ e2,rfl,L2.Paired.mapP pr λ_ _ h=>h.same (z1.trans z2)⟩)) (λz=>?_) (BS Qo G);rw[z]at rl;cases S0:S.pl with
    |nil=>rw[S0]at X;cases X
    |cons x r=>
     have j:x∈S.pl:=by rw[S0];exact List.mem_cons_self
     have hs:((ju S).1.p x).isSome=true:=lS (by show(if x∈S.pl then some (0:Int)else none).isSome=true;rw[if_pos j];rfl) _;have xr:=hv x;cases kvs with
     |nil=>
      have:((ju S).1.p x).map V.int=none:=xr.symm;rw[Option.map_eq_none_iff]at this;rw[this]at hs;cases hs
     |cons _ _=>cases rl
theorem nj:ax ["net","claim"] ["net","claim"] (af s_find_plain):=⟨rfl,rfl,rfl,Qk,rfl,Qk,Qk⟩
theorem nM{f:Addr}{fd:FuncData}(F:bZ K "find_plain" "find_plain" s_find_plain f fd)(i:cj P w K mg base 5 "find_way" ["net","claim"] (q5 C yO))(cr:cj P w K mg base 3 "find_ring" ["net"] (Bc C)):
  FnOk P w K mg base cY 6 f fd ["net","claim"] (uW C):=by
 refine F.ok nj (λvs H Q E h=>?_) (λg A outer s H vs Q E e h=>?_)
 ·obtain⟨p,ds,d,ct,S,xs,rfl,_⟩:=h;rfl
 ·obtain⟨p,ds,d,ct,S,xs,rfl,N,c,h⟩:=h;have o:be 3 _:=e.mono Qd;refine⟨_,(ae (aH (aE bS (ay az (pv 1) ak (λ_ _=>Qr)) aj (aM _)) (ag (av (aw i e Qr (aa (pv 0) (aa (pv 1) ad))))) au)
   (ae (aH (aE bS (ay az (pv 1) ak (λ_ _=>Qr)) aj (aM _)) (ag cn) au)
   (ae (aH (aE bS (ay az (pv 1) ak (λ_ _=>Qr)) aj (aM _)) (ag (av (aw cr o Qr (aa (pv 0) ad)))) au)
   (ae cn
   (ag cn))))),?_⟩
  rcases h with⟨a,b,rfl,ha,hb,q⟩|⟨rfl,h1,he,q⟩
  ·refine⟨_,rfl,ct,_,_,.str "way",rfl,rfl,bj.of c,rfl,rfl,_,rfl,cB BU ?_⟩;exact⟨_,rfl,_,rfl,p,ds,d,ct,S,.way a b,rfl,N,c,⟨ha,hb⟩,trivial,λt l ws H' s' k _ j m n=>q t l ws H' s' k j m n⟩
  ·refine⟨_,rfl,ct,_,_,.str "ring",rfl,rfl,bj.of c,rfl,rfl,_,rfl,aJ DR ?_⟩;refine⟨_,rfl,ct,_,_,.str "ring",rfl,rfl,bj.of c,rfl,rfl,_,rfl,aJ DT ?_⟩;refine⟨_,rfl,ct,_,_,.str "ring",rfl,rfl,bj.of c,rfl,rfl,_,rfl,cB DS ?_⟩;exact⟨_,rfl,p,ds,d,S,rfl,N,h1,he,q⟩
theorem pU:ax ["net","claim","found"] ["net","claim"] (af s_find_claim):=⟨rfl,rfl,rfl,Qk,rfl,Qk,Qk⟩
theorem qe{f:Addr}{fd:FuncData}(F:bZ K "find_claim" "find_claim" s_find_claim f fd)(e:cj P w K mg base 1 "tells_variable" ["claim"] gw)(l:cj P w K mg base 6 "find_plain" ["net","claim"] (uW C)):
  FnOk P w K mg base cY 7 f fd ["net","claim"] (uW C):=by
 refine F.ok pU (λvs H Q E h=>?_) (λk A outer s H vs Q E i h=>?_)
 ·obtain⟨p,ds,g,ct,S,xs,rfl,_⟩:=h;rfl
 ·obtain⟨p,ds,g,ct,S,xs,rfl,N,d,h⟩:=h;have q:be 1 _:=i.mono Qd;refine⟨_,(ae (aH (aE bS (ay az (pv 1) ak (λ_ _=>Qr)) aj (aM _)) (ag cn) au)
   (ae (aH (aE bS (ay az (pv 1) ak (λ_ _=>Qr)) aj (aM _)) dc au)
   (ae (aH (PW.pt (gE (aE bS (ay az (pv 1) ak (λ_ _=>Qr)) aj (aM _)) (eN (aE bS (ay az (pv 1) ak (λ_ _=>Qr)) aj (aM _))))) (ag cn) au)
   (ae (aH (bb (aw e q Qr (aa (pv 1) ad))) (ag cn) au)
   (ag (av (aw l i Qr (aa (pv 0) (aa (pv 1) ad))))))))),?_⟩
  obtain⟨c,r,ex,d1,d2,m,n,o⟩:∃(c:Str)(r:List V),xs=.str c::r/\decide (V.str c=V.str "atmost")=false/\decide (V.str c=V.str "not")=false/\decide (V.str c=V.str "and")=false/\decide (V.str c=V.str "or")=false/\qM c=false:=by
   rcases h with⟨a,b,rfl,_⟩|⟨rfl,_⟩
   ·exact⟨"way",_,rfl,Qk,Qk,Qk,Qk,Qk⟩
   ·exact⟨"ring",_,rfl,Qk,Qk,Qk,Qk,Qk⟩
  ·subst ex;have h0:ko (V.str c::r) 0=some (.str c):=bU (j:=0) rfl;refine⟨_,rfl,ct,_,_,.str c,rfl,rfl,bj.of d,h0,rfl,_,rfl,aJ d1 ?_⟩;refine⟨_,rfl,ct,_,_,.str c,rfl,rfl,bj.of d,h0,rfl,_,rfl,aJ d2 ?_⟩;refine⟨_,rfl,ct,_,_,.str c,rfl,rfl,bj.of d,h0,rfl,_,rfl,aJ m ?_⟩;refine⟨_,rfl,ct,_,_,.str c,rfl,rfl,bj.of d,h0,rfl,_,rfl,aJ n ?_⟩;refine⟨_,rfl,ct,c,r,rfl,d,_,rfl,aJ o ?_⟩;exact⟨_,rfl,_,rfl,p,ds,g,ct,S,_,rfl,N,d,h⟩
theorem vA:ax ["net","claim","paper"] ["net","claim","paper"] (af s_shows_way):=⟨rfl,rfl,rfl,Qk,rfl,Qk,Qk⟩
theorem wI{f:Addr}{fd:FuncData}(F:bZ K "shows_way" "shows_way" s_shows_way f fd)(j:cj P w K mg base 4 "walk_end" ["net","a","paper"] (yB C)):FnOk P w K mg base cY 5 f fd ["net","claim","paper"] (Bb C):=by
 refine F.ok vA (λvs H Q E h=>?_) (λi A outer s H vs Q E m h=>?_)
 ·obtain⟨p,ds,c,ct,S,a,b,v,d,rfl,_⟩:=h;rfl
 ·obtain⟨p,ds,c,ct,S,a,b,v,d,rfl,N,e,k,o,n,bl,l,q⟩:=h;refine⟨_,(ag (av (dR bS (aw j m Qr (aa (pv 0) (aa (ay az (pv 1) ak (λ_ _=>Qr)) (aa (pv 2) ad)))) (ay az (pv 1) ak (λ_ _=>Qr)) (aM _)))),?_⟩;refine⟨_,rfl,_,rfl,ct,_,_,.str a,rfl,rfl,bj.of e,rfl,_,rfl,p,ds,c,S,a,v,10,d,rfl,N.w,k,n,bl,λH2 g=>?_⟩;rw[l];refine⟨_,rfl,ct,_,_,.str b,rfl,rfl,bj.of (g _ _ e),rfl,rfl,?_⟩;show Q (.bl (decide (V.str b=V.str b))) H2;rw[decide_eq_true rfl];exact q H2 g
theorem rA:ax ["net","claim","so","paper"] ["net","claim","so","paper"] (af s_look_plain):=⟨rfl,rfl,rfl,Qk,rfl,Qk,Qk⟩
theorem sO{f:Addr}{fd:FuncData}(F:bZ K "look_plain" "look_plain" s_look_plain f fd)(g:cj P w K mg base 5 "shows_way" ["net","claim","paper"] (Bb C)):FnOk P w K mg base cY 6 f fd ["net","claim","so","paper"] (uU C):=by
 refine F.ok rA (λvs H Q E h=>?_) (λi A outer s H vs Q E m h=>?_)
 ·obtain⟨p,ds,c,ct,S,a,b,v,d,rfl,_⟩:=h;rfl
 ·obtain⟨p,ds,c,ct,S,a,b,v,d,rfl,N,e,j,k,n,bl,l,q⟩:=h;refine⟨_,ae (aH (aE bS (ay az (pv 1) ak (λ_ _=>Qr)) aj (aM _)) (ag (av (fm (bb (pv 2)) (aw g m Qr (aa (pv 0) (aa (pv 1) (aa (pv 3) ad)))) zW))) au) dc,?_⟩;refine⟨_,rfl,ct,_,_,.str "way",rfl,rfl,bj.of e,rfl,rfl,_,rfl,cB BU ⟨_,rfl,_,rfl,bC ?_⟩⟩;exact⟨_,rfl,_,rfl,_,rfl,p,ds,c,ct,S,a,b,v,d,rfl,N,e,j,k,n,bl,l,q⟩
theorem pT:ax ["net","claim","so","paper"] ["net","claim","so","paper"] (af s_look_claim):=⟨rfl,rfl,rfl,Qk,rfl,Qk,Qk⟩
theorem qd{f:Addr}{fd:FuncData}(F:bZ K "look_claim" "look_claim" s_look_claim f fd)(e:cj P w K mg base 1 "tells_variable" ["claim"] gw)(k:cj P w K mg base 6 "look_plain" ["net","claim","so","paper"] (uU C)):
  FnOk P w K mg base cY 7 f fd ["net","claim","so","paper"] (uU C):=by
 refine F.ok pT (λvs H Q E h=>?_) (λj A outer s H vs Q E i h=>?_)
 ·obtain⟨p,ds,g,ct,S,a,b,v,d,rfl,_⟩:=h;rfl
 ·obtain⟨p,ds,g,ct,S,a,b,v,d,rfl,N,c,l,m,o,bl,n,q⟩:=h;have t:be 1 _:=i.mono Qd;refine⟨_,(ae (aH (aE bS (ay az (pv 1) ak (λ_ _=>Qr)) aj (aM _)) (ag cn) au)
   (ae (aH (aE bS (ay az (pv 1) ak (λ_ _=>Qr)) aj (aM _)) (ag cn) au)
   (ae (aH (PW.pt (gE (aE bS (ay az (pv 1) ak (λ_ _=>Qr)) aj (aM _)) (eN (aE bS (ay az (pv 1) ak (λ_ _=>Qr)) aj (aM _))))) (ag cn) au)
   (ae (aH (bb (aw e t Qr (aa (pv 1) ad))) (ag cn) au)
   (ag (av (aw k i Qr (aa (pv 0) (aa (pv 1) (aa (pv 2) (aa (pv 3) ad))))))))))),?_⟩
  refine⟨_,rfl,ct,_,_,.str "way",rfl,rfl,bj.of c,rfl,rfl,_,rfl,aJ Qk ?_⟩;refine⟨_,rfl,ct,_,_,.str "way",rfl,rfl,bj.of c,rfl,rfl,_,rfl,aJ Qk ?_⟩;refine⟨_,rfl,ct,_,_,.str "way",rfl,rfl,bj.of c,rfl,rfl,_,rfl,aJ Qk ?_⟩;refine⟨_,rfl,ct,_,_,.str "way",rfl,rfl,bj.of c,rfl,rfl,_,rfl,aJ Qk ?_⟩;refine⟨_,rfl,ct,"way",_,rfl,c,_,rfl,aJ Qk ?_⟩;exact⟨_,rfl,_,rfl,_,rfl,_,rfl,p,ds,g,ct,S,a,b,v,d,rfl,N,c,l,m,o,bl,n,q⟩
end
structure GS(S:NS):Prop where
 nd:S.nms.Nodup
 few:S.ti.length<=40
 fewP:S.pl.length<=20
 ndP:S.pl.Nodup
 okP:∀x∈S.pl,nameB x=true
 okT:∀r∈S.ti,nameB r.nm=true/\r.a∈S.pl/\r.b∈S.pl
theorem GS.net{C:Addr}{H:Hp}{n ds a:Addr}{S:NS}(g:GS S)(N:NetAt C H n ds a S):gV C H n ds a S:=⟨N,g.nd,g.few,g.fewP,g.ndP,g.okP,g.okT⟩
theorem GS.fit{S:NS}(g:GS S):Ci S:=⟨g.fewP,g.few,g.nd⟩
def og(S:NS)(e:cZ):Prop:=∃(a b:Str)(ws:List Str),e.cl=.tuple [.str "way",.str a,.str b]/\e.so=true/\e.pa=.list (ws.map PyData.str)/\ws.length<=100/\a∈S.pl/\b∈S.pl/\eY S.ti a (.list (ws.map PyData.str))=some b
theorem oq{H:Hp}{n:Nat}{v:V}{x a b:Str}(h:PD H n v (.tuple [.str x,.str a,.str b])):∃ct,v=.ref ct/\H ct=some (.tup [.str x,.str a,.str b]):=by
 obtain⟨m,ct,xs,_,rfl,e,p⟩:=h.tup_of;cases p with
 |cons h1 p=>cases p with
  |cons h2 p=>cases p with
   |cons c p=>cases p with
    |nil=>
     rw[h1.str_is,h2.str_is,c.str_is]at e;exact⟨ct,rfl,e⟩
theorem rQ{H:Hp}{n:Nat}{v:V}{x:Str}(h:PD H n v (.tuple [.str x])):∃ct,v=.ref ct/\H ct=some (.tup [.str x]):=by
 obtain⟨m,ct,xs,_,rfl,e,p⟩:=h.tup_of;cases p with
 |cons h1 p=>cases p with
  |nil=>
   rw[h1.str_is]at e;exact⟨ct,rfl,e⟩
def mW(B C:Addr):Sp:=λvs H Q _=>∃(p n ds a b:Addr)(S:NS)(E:List cZ),vs=[.ref p]/\BookAt B C H p n ds a b S E/\GS S/\(∀e∈E,og S e)/\E.length<=100/\∀(l:Addr)(H':Hp),Same H H'->Q (.ref l) H'
def DF(B C:Addr)(ec:gr->Addr)(D:li)(p n ds a b:Addr)(S:NS)(E:List cZ)(H:Hp)(Q:VK)(X:XK):Prop:=
 (judge S D=none->GS (S.did D)/\(∀e∈E,og (S.did D) e)/\∀v H',BookAt B C H' p n ds a b (S.did D) E->iP H H'->Q v H')/\∀e,judge S D=some e->∀H',Same H H'->X (.ref (ec e)) none H'
def i5(B C:Addr)(ec:gr->Addr):Sp:=λvs H Q X=>∃(p n ds a b:Addr)(S:NS)(E:List cZ)(x:Str),vs=[.ref p,.str x]/\BookAt B C H p n ds a b S E/\GS S/\okT x/\E.length<=100/\DF B C ec (.place x) p n ds a b S E H Q X
def mY(B C:Addr)(ec:gr->Addr):Sp:=λvs H Q X=>∃(p n ds a b:Addr)(S:NS)(E:List cZ)(r:b7),vs=[.ref p,.str r.nm,.str r.a,.str r.b,.int r.w,.int r.c]/\BookAt B C H p n ds a b S E/\GS S/\(li.tie r).okD/\E.length<=100/\DF B C ec (.tie r) p n ds a b S E H Q X
def rc(B C:Addr)(ec:gr->Addr):Sp:=λvs H _ X=>∃(p n ds a b:Addr)(S:NS)(E:List cZ)(x:Str)(e:gr),vs=[.ref p,.str x]/\BookAt B C H p n ds a b S E/\GS S/\okT x/\judge S (.cut x)=some e/\∀H',Same H H'->X (.ref (ec e)) none H'
def lJ(B C:Addr)(ec:gr->Addr):Sp:=λvs H _ X=>∃(p n ds b d:Addr)(S:NS)(E:List cZ)(x:Str)(a c:Int)(e:gr),vs=[.ref p,.str x,.int a,.int c]/\BookAt B C H p n ds b d S E/\GS S/\okT x/\me a/\judge S (.alter x a c)=some e/\∀H',Same H H'->X (.ref (ec e)) none H'
def Cd(S:NS)(d:PyData):Prop:=(∃a b,d=.tuple [.str "way",.str a,.str b]/\a∈S.pl/\b∈S.pl/\verd S (.way a b)=true)\/(d=.tuple [.str "ring"]/\1<=S.pl.length/\(ju S).2=none)
def yW(S:NS)(d:PyData)(so:Bool)(pa:PyData):Prop:=(∀nm a b,d=.tuple [.str "way",.str a,.str b]->og S ⟨nm,d,so,pa⟩)/\(d=.tuple [.str "ring"]->so=false/\∃rows,pa=.list rows/\rows≠ [])/\e_ 10 pa
def i3(B C:Addr)(ec:gr->Addr)(Cn:Addr):Sp:=λvs H Q X=>∃(p n ds b c:Addr)(S:NS)(E:List cZ)(x:Str)(a:V)(d:PyData),vs=[.ref p,.str x,a]/\BookAt B C H p n ds b c S E/\GS S/\okT x/\E.length<=100/\PD H 10 a d/\okD 10 d/\e_ 10 d/\(∀y∈a_ 10 [] d,jN y)/\
 (nameB x=false->∀H',Same H H'->X (.ref (ec .noName)) none H')/\(nameB x=true->x∈E.map (·.nm)->∀H',Same H H'->X (.ref (ec .twice)) none H')/\
 (nameB x=true->x∉E.map (·.nm)->∀y,bK S.pl (a_ 10 [] d)=some y->∀H' dx,Same H H'->dx≠0->H' dx=some (.xd [("name",.str y)])->X (.ref Cn) (some dx) H')/\
 (nameB x=true->x∉E.map (·.nm)->bK S.pl (a_ 10 [] d)=none->Cd S d/\∀so pa H',yW S d so pa->BookAt B C H' p n ds b c S (E++[⟨x,d,so,pa⟩])->iP H H'->Q (.bl so) H')
def gX(B C cN:Addr):Sp:=λvs H Q X=>∃(p n ds a b:Addr)(S:NS)(E:List cZ)(x:Str),vs=[.ref p,.str x]/\BookAt B C H p n ds a b S E/\okT x/\(x∈E.map (·.nm)->∀H',BookAt B C H' p n ds a b S (E.filter λe=>!decide (e.nm=x))->iP H H'->Q .non H')/\(x∉E.map (·.nm)->X (.ref cN) none H)
theorem zH{S:NS}{d:PyData}{H:Hp}{v:V}(st:Cd S d)(f:PD H 10 v d):∃ct xs,v=.ref ct/\H ct=some (.tup xs)/\((∃a b,d=.tuple [.str "way",.str a,.str b]/\xs=[.str "way",.str a,.str b]/\a∈S.pl/\b∈S.pl/\verd S (.way a b)=true)\/(d=.tuple [.str "ring"]/\xs=[.str "ring"]/\1<=S.pl.length/\(ju S).2=none)):=by
 rcases st with⟨a,b,rfl,ha,hb,hv⟩|⟨rfl,h1,h2⟩
 ·obtain⟨ct,c,e⟩:=oq f;exact⟨ct,_,c,e,.inl ⟨a,b,rfl,rfl,ha,hb,hv⟩⟩
 ·obtain⟨ct,c,e⟩:=rQ f;exact⟨ct,_,c,e,.inr ⟨rfl,rfl,h1,h2⟩⟩
theorem oQ{H:Hp}:∀{ws:List Str},(∀y∈ws,PyData.strOk y=true)->Paired (PD H 9) (ws.map V.str) (ws.map PyData.str)
 |[],_=>.nil
 |y::ws,h=>.cons ⟨h y List.mem_cons_self,rfl⟩ (oQ λz a=>h z (List.mem_cons_of_mem _ a))
theorem BN{S:NS}{d:PyData}{xs:List V}{H:Hp}{Q:VK}(g:GS S)(k:(∃a b,d=.tuple [.str "way",.str a,.str b]/\xs=[.str "way",.str a,.str b]/\a∈S.pl/\b∈S.pl/\verd S (.way a b)=true)\/(d=.tuple [.str "ring"]/\xs=[.str "ring"]/\1<=S.pl.length/\(ju S).2=none))
  (m:∀(so:Bool)(pa:PyData)(t:Addr)(f:V)(H':Hp),Same H H'->H' t=some (.tup [.bl so,f])->PD H' 10 f pa->yW S d so pa->Q (.ref t) H'):
  FcG S xs H Q:=by
 rcases k with⟨a,b,rfl,rfl,ha,hb,hv⟩|⟨rfl,rfl,h1,h2⟩
 ·refine .inl ⟨a,b,rfl,ha,hb,λt l ws H' s' h p n w=>?_⟩;obtain⟨i,c⟩:=w.1 hv;refine m _ (.list (ws.map PyData.str)) t _ H' s' h (.inl ⟨_,_,p,rfl,oQ λy u=>?_⟩) ⟨λnm x A z=>?_,λz=>(by cases z),?_⟩
  ·obtain⟨r,s,rfl⟩:=List.mem_map.mp (i y u);exact bN (g.okT r s).1
  ·cases z;exact⟨a,b,ws,rfl,hv,rfl,n,ha,hb,c⟩
  ·refine⟨by rw[List.length_map];exact n,λe q=>?_⟩;obtain⟨y,_,rfl⟩:=List.mem_map.mp q;exact cX _ _
 ·exact .inr ⟨rfl,h1,h2,λt l rows H' s' h v j o=>m _ _ t _ H' s' h v ⟨λnm a b z=>(by cases z),λ_=>⟨rfl,rows,rfl,j⟩,o⟩⟩
section
variable{P:Program}{w:World}{K:PySem.W.Frag}{mg:Str->Option Value}{base:Heap}{C B cN Cn:Addr}{ec:gr->Addr}
abbrev Cf:List Str:=["self","changes","name","row","found"]
theorem iH:ax Cf ["self"] (af s_Book_mend_papers):=⟨rfl,rfl,rfl,Qk,rfl,Qk,Qk⟩
theorem wK{f:Addr}{fd:FuncData}(F:bZ K "mend_papers" "Book.mend_papers" s_Book_mend_papers f fd)(T:de K mg C)(u:lm K mg B)(cl:cj P w K mg base 7 "look_claim" ["net","claim","so","paper"] (uU C)):FnOk P w K mg base cY 8 f fd ["self"] (mW B C):=by
 refine F.ok iH (λvs H Q E h=>?_) (λxb A outer s H vs Q E hr h=>?_)
 ·obtain⟨p,n,ds,dl,sd,S,E,rfl,_⟩:=h;rfl
 ·obtain⟨p,n,ds,dl,sd,S,E,rfl,BA,g,hE,xa,q⟩:=h;have hu:=cU hr;refine⟨_,(ae (aF (i:=1) iH.nd rfl (Or.inl rfl) (aR ad))
   (ae (cO PassesOwn.never rfl (bD (b6 (gp rfl) Qr T.list eS (aa (aY (pv 0) rfl) ad))) (aO (i:=2) iH.nd rfl (Or.inl rfl))
     (ae (aF (i:=3) iH.nd rfl (Or.inl rfl) (cG hu (aY (pv 0) rfl) (pv 2) (λ_ _=>rfl)))
   (ag (aH (d6 (bb (aw cl hr Qr (aa (aY (pv 0) rfl) (aa (ay az (pv 3) ak (λ_ _=>Qr)) (aa (ay az (pv 3) ak (λ_ _=>Qr)) (aa (ay az (pv 3) ak (λ_ _=>Qr)) ad))))))) dc au))))
   (ag (av (pv 1))))),?_⟩
  refine⟨Qd,λl hl=>?_⟩;have z1:=Same.new (o:=.lst []) hl;generalize upd H l (.lst [])=H1 at z1;have m:=BA.same z1;obtain⟨dx,h1⟩:=m.ob;obtain⟨L,e1,e2,e3⟩:=m.st;refine⟨_,rfl,p,B,dx,_,_,rfl,h1,u.cl,u.nS,gf _ _,sd,dM L,rfl,.inl e3,λJ W=>?_⟩;have ek:(dM L).map (λkv=>kV kv.1)=(E.map (·.nm)).map V.str:=by
   rw[<-e1];unfold dM;rw[List.map_map,List.map_map,List.map_map];rfl
  rw[ek];have z2:=Same.new (o:=.lst ((E.map (·.nm)).map V.str)) W;have t:(upd H1 J (.lst ((E.map (·.nm)).map V.str))) J=some (.lst ((E.map (·.nm)).map V.str)):=ac;generalize upd H1 J (.lst ((E.map (·.nm)).map V.str))=H2 at z2 t;refine⟨J,rfl,⟨_,bp.of t⟩,cC (K:=K) (a:=J) (xs:=(E.map (·.nm)).map V.str) (λi j H'=>Same H2 H'/\∃Z o3,j=[some (.ref p),some (.ref l),Z,o3,none])
   ⟨Same.refl _,none,none,rfl⟩ (λi j H' _ h=>bp.of (h.1 _ _ t)) (λi x j H' I h=>?_) (λj H' h=>?_)⟩
  ·obtain⟨s',Z,o3,rfl⟩:=h;rw[List.getElem?_map]at I;cases ey:(E.map (·.nm))[i]? with
   |none=>rw[ey]at I;cases I
   |some y=>
    rw[ey]at I;cases I;have c:=z2.trans s';obtain⟨v,hq,X,xc,Y⟩:=dZ e1 (List.mem_of_getElem? ey);obtain⟨cv,M,et,p1,p2⟩:=e2 v hq;obtain⟨a,b,ws,N,R,O,hw,ha,hb,G⟩:=hE v.1 X;have D:=c _ _ h1;have d:=c _ _ et;rw[R]at d;rw[N]at p1;rw[O]at p2;obtain⟨ct,rfl,U⟩:=oq p1;refine⟨_,rfl,p,B,dx,_,_,rfl,D,u.cl,u.nS,gf _ _,_,rfl,sd,.ref v.2,rfl,by rw[<-Y];exact cD.k (k:=Sum.inr y) (c _ _ e3),?_⟩;refine⟨_,rfl,p,B,dx,_,_,rfl,D,u.cl,u.nN,fC _ _,_,rfl,v.2,_,_,.ref ct,rfl,rfl,bj.of d,rfl,_,rfl,v.2,_,_,.bl true,rfl,rfl,bj.of d,rfl,_,rfl,v.2,_,_,M,rfl,rfl,bj.of d,rfl,n,ds,dl,ct,S,a,b,M,_,rfl,g.net (m.net.same c),c _ _ U,ha,hb,p2.same c,λe z=>by cases z;rw[List.length_map];omega,G,λH3 s3=>⟨_,rfl,aD ⟨s'.trans s3,_,_,rfl⟩⟩⟩
  ·obtain⟨s',Z,o3,rfl⟩:=h;exact⟨_,rfl,q l H' ((z1.trans z2).trans s')⟩
theorem pW:ax ["self","name"] ["self","name"] (af s_Book_place):=⟨rfl,rfl,rfl,Qk,rfl,Qk,Qk⟩
theorem qh{f:Addr}{fd:FuncData}(F:bZ K "place" "Book.place" s_Book_place f fd)(T:de K mg C)(i:lm K mg B)(D:ba P w K mg base 4 C "place" ["self","name"] (lE C ec))(M:dN P w K mg base 8 B "mend_papers" ["self"] (mW B C)):FnOk P w K mg base (e8 P w) 9 f fd ["self","name"] (i5 B C ec):=by
 refine F.okX pW (λvs H Q E h=>?_) (λG A outer s H vs Q E u W h=>?_)
 ·obtain⟨p,n,ds,j,y,S,E,x,rfl,_⟩:=h;rfl
 ·obtain⟨p,n,ds,j,y,S,E,x,rfl,c,g,L,d,k,kE⟩:=h;have O:be 4 _:=u.mono Qd;refine⟨_,(ae (aG (bq (aY (pv 0) rfl) T.cl D W O (aa (pv 1) ad)))
   (ag (av (bn (pv 0) i.cl M u)))),?_⟩
  obtain⟨dx,h1⟩:=c.ob;obtain⟨I,hn⟩:=c.net.ob;refine⟨_,rfl,p,B,dx,_,_,rfl,h1,i.cl,i.nN,fC _ _,n,I,_,rfl,hn,bL _ _ Qk Qk,_,rfl,n,ds,j,S,x,rfl,c.net,g.fit,L,λJ H1 z t=>?_,kE⟩;obtain⟨g',hw,k⟩:=k J;have a:=c.deed z t;obtain⟨m,q⟩:=a.ob;exact⟨_,rfl,p,m,_,rfl,q,bX _ _ Qk Qk,p,n,ds,j,y,_,E,rfl,a,g',hw,d,λl H2 v=>k _ H2 (a.same v) λb o N e=>v _ _ (iL c.net t b o N e)⟩
theorem vE:ax ["self","name","a","b","width","cost"] ["self","name","a","b","width","cost"] (af s_Book_tie):=⟨rfl,rfl,rfl,Qk,rfl,Qk,Qk⟩
theorem wS{f:Addr}{fd:FuncData}(F:bZ K "tie" "Book.tie" s_Book_tie f fd)(T:de K mg C)(i:lm K mg B)(z:ba P w K mg base 4 C "tie" ["self","name","a","b","width","cost"] (qW C ec))(L:dN P w K mg base 8 B "mend_papers" ["self"] (mW B C)):FnOk P w K mg base (e8 P w) 9 f fd ["self","name","a","b","width","cost"] (mY B C ec):=by
 refine F.okX vE (λvs H Q E h=>?_) (λD A outer s H vs Q E u W h=>?_)
 ·obtain⟨p,n,ds,j,x,S,E,r,rfl,_⟩:=h;rfl
 ·obtain⟨p,n,ds,j,x,S,E,r,rfl,c,g,J,d,k,kE⟩:=h;have N:be 4 _:=u.mono Qd;refine⟨_,(ae (aG (bq (aY (pv 0) rfl) T.cl z W N (aa (pv 1) (aa (pv 2) (aa (pv 3) (aa (pv 4) (aa (pv 5) ad)))))))
   (ag (av (bn (pv 0) i.cl L u)))),?_⟩
  obtain⟨dx,h1⟩:=c.ob;obtain⟨G,hn⟩:=c.net.ob;refine⟨_,rfl,p,B,dx,_,_,rfl,h1,i.cl,i.nN,fC _ _,n,G,_,rfl,hn,bL _ _ Qk Qk,_,rfl,_,rfl,_,rfl,_,rfl,_,rfl,n,ds,j,S,r,rfl,c.net,g.fit,J,λI H1 y t=>?_,kE⟩;obtain⟨g',hw,k⟩:=k I;have a:=c.deed y t;obtain⟨m,q⟩:=a.ob;exact⟨_,rfl,p,m,_,rfl,q,bX _ _ Qk Qk,p,n,ds,j,x,_,E,rfl,a,g',hw,d,λl H2 v=>k _ H2 (a.same v) λb o M e=>v _ _ (iL c.net t b o M e)⟩
theorem vH:ax ["self","name"] ["self","name"] (af s_Book_cut):=⟨rfl,rfl,rfl,Qk,rfl,Qk,Qk⟩
theorem wV{f:Addr}{fd:FuncData}(F:bZ K "cut" "Book.cut" s_Book_cut f fd)(T:de K mg C)(c:lm K mg B)(i:ba P w K mg base 2 C "cut" ["self","name"] (q_ C ec)):FnOk P w K mg base (e8 P w) 3 f fd ["self","name"] (rc B C ec):=by
 refine F.okX vH (λvs H Q E h=>?_) (λj A outer s H vs Q E l W h=>?_)
 ·obtain⟨p,n,ds,d,o,S,E,x,e,rfl,_⟩:=h;rfl
 ·obtain⟨p,n,ds,d,o,S,E,x,e,rfl,a,g,m,b,kE⟩:=h;refine⟨_,ae (aG (bq (aY (pv 0) rfl) T.cl i W l (aa (pv 1) ad))) dc,?_⟩;obtain⟨dx,h1⟩:=a.ob;obtain⟨k,hn⟩:=a.net.ob;exact⟨_,rfl,p,B,dx,_,_,rfl,h1,c.cl,c.nN,fC _ _,n,k,_,rfl,hn,bL _ _ Qk Qk,_,rfl,n,ds,d,S,x,rfl,a.net,g.fit,m,λz=>(by rw[z]at b;cases b),λq z=>(by rw[b]at z;cases z;exact kE)⟩
theorem pZ:ax ["self","name","width","cost"] ["self","name","width","cost"] (af s_Book_alter):=⟨rfl,rfl,rfl,Qk,rfl,Qk,Qk⟩
theorem qk{f:Addr}{fd:FuncData}(F:bZ K "alter" "Book.alter" s_Book_alter f fd)(T:de K mg C)(d:lm K mg B)(k:ba P w K mg base 3 C "alter" ["self","name","width","cost"] (lK C ec)):FnOk P w K mg base (e8 P w) 4 f fd ["self","name","width","cost"] (lJ B C ec):=by
 refine F.okX pZ (λvs H Q E h=>?_) (λl A outer s H vs Q E o W h=>?_)
 ·obtain⟨p,n,ds,i,t,S,E,x,j,c,e,rfl,_⟩:=h;rfl
 ·obtain⟨p,n,ds,i,t,S,E,x,j,c,e,rfl,a,g,q,hi,b,kE⟩:=h;refine⟨_,ae (aG (bq (aY (pv 0) rfl) T.cl k W o (aa (pv 1) (aa (pv 2) (aa (pv 3) ad))))) dc,?_⟩;obtain⟨dx,h1⟩:=a.ob;obtain⟨m,hn⟩:=a.net.ob;exact⟨_,rfl,p,B,dx,_,_,rfl,h1,d.cl,d.nN,fC _ _,n,m,_,rfl,hn,bL _ _ Qk Qk,_,rfl,_,rfl,_,rfl,n,ds,i,S,x,j,c,rfl,a.net,g.fit,q,hi,λz=>(by rw[z]at b;cases b),λu z=>(by rw[b]at z;cases z;exact kE)⟩
theorem nk:ax ["self","name"] ["self","name"] (af s_Book_forget):=⟨rfl,rfl,rfl,Qk,rfl,Qk,Qk⟩
theorem nO{f:Addr}{fd:FuncData}(F:bZ K "forget" "Book.forget" s_Book_forget f fd)(i:lm K mg B)(y:ba P w K mg base 1 B "refuse_no_claim" ["self","name"] (i4 B C cN)):FnOk P w K mg base (e8 P w) 2 f fd ["self","name"] (gX B C cN):=by
 refine F.okX nk (λvs H Q E h=>?_) (λD A outer s H vs Q E N W h=>?_)
 ·obtain⟨p,n,ds,m,g,S,E,x,rfl,_⟩:=h;rfl
 ·obtain⟨p,n,ds,m,g,S,E,x,rfl,a,O,k,kE⟩:=h;refine⟨_,(ae (aG (bq (pv 0) i.cl y W N (aa (pv 1) ad)))
   (ag (aG (lY (aY (pv 0) rfl) (pv 1) ⟨rfl,rfl,rfl,rfl⟩)))),?_⟩
  obtain⟨dx,h1⟩:=a.ob;obtain⟨L,t,G,c⟩:=a.st;refine⟨_,rfl,p,dx,_,rfl,h1,bX _ _ Qk Qk,_,rfl,p,n,ds,m,g,S,E,x,rfl,a,O,λd=>?_,kE⟩;obtain⟨T,u,J,M,j⟩:=dZ t d;refine⟨_,rfl,p,B,dx,_,_,rfl,h1,i.cl,i.nS,gf _ _,g,rfl,.inl ⟨_,.inl c⟩,_,rfl,dM L,Sum.inr x,_,c,rfl,j,?_⟩;have e:gc (dM L) (Sum.inr x:aT)=dM (L.filter λq=>!decide (q.1.nm=x)):=by
   unfold gc dM;rw[List.filter_map];congr 1;refine List.filter_congr λq _=>?_;show decide ((Sum.inr q.1.nm:aT)≠Sum.inr x)=!decide (q.1.nm=x);by_cases e:q.1.nm=x
   ·simp[e]
   ·have:¬(Sum.inr q.1.nm:aT)=Sum.inr x:=λz=>e (Sum.inr.inj z);simp[e,this]
  have v:∀b o,H b=some o->b≠g->(upd H g (.dK (gc (dM L) (Sum.inr x:aT)))) b=some o:=λb o z I=>by rw[ah I];exact z
  have l:=mr c v;obtain⟨R,hn⟩:=a.net.ob;refine k d _ ⟨⟨dx,l _ _ (by intro _ z;cases z) h1⟩,a.net.but v (bM hn c (by intro z;cases z)) a.n1.symm a.n2.symm (λr z=>by rw[c]at z;cases z),⟨L.filter λq=>!decide (q.1.nm=x),?_,λq u=>(G q (List.mem_filter.mp u).1).kpd l,by rw[ac,e]⟩,a.n1,a.n2⟩ l;rw[<-t,List.filter_map];rfl
abbrev Dm:List Str:=["self","name","claim","kept","found"]
theorem gZ:ax Dm ["self","name","claim"] (af s_Book_state):=⟨rfl,rfl,rfl,Qk,rfl,Qk,Qk⟩
theorem qg{f:Addr}{fd:FuncData}(F:bZ K "state" "Book.state" s_Book_state f fd)(l:lm K mg B)(R:lh K mg ec)(xb:eU P w K mg base 3 "refuse_no_name" ["word"] (eM ec))(xa:eU P w K mg base 23 "look_at_claim" ["net","claim"] (qZ C Cn))(cc:cj P w K mg base 11 "copied" ["thing"] (iZ 10))(cf:cj P w K mg base 7 "find_claim" ["net","claim"] (uW C)):
  FnOk P w K mg base (e8 P w) 24 f fd ["self","name","claim"] (i3 B C ec Cn):=by
 refine F.okX gZ (λvs H Q E h=>?_) (λxo A outer s H vs Q E O W h=>?_)
 ·obtain⟨p,n,ds,dl,X,S,E,x,cv,d,rfl,_⟩:=h;rfl
 ·obtain⟨p,n,ds,dl,X,S,E,x,cv,d,rfl,m,g,hx,xn,pd,ok,cp,on,k1,k2,k3,k4⟩:=h;have hu:=cU O;have r3:be 3 _:=O.mono Qd;have r7:be 7 _:=O.mono Qd;have xl:be 11 _:=O.mono Qd;refine⟨_,(ae (aG (cK xb W r3 Qr (aa (pv 1) ad)))
   (ae (aH (da (jf hu (pv 1) (aY (pv 0) rfl))) (ag (cT W rfl Qr R.m1 (R.ex _) PySem.F.excBase_ValueError (aa (df (bu aj (bu (h8 (pv 1)) d7)) Qd) ad))) au)
   (ae (aG (cK xa W O Qr (aa (aY (pv 0) rfl) (aa (pv 2) ad))))
   (ae (aF (i:=3) gZ.nd rfl (Or.inl rfl) (aw cc xl Qr (aa (pv 2) ad)))
   (ae (aF (i:=4) gZ.nd rfl (Or.inl rfl) (aw cf r7 Qr (aa (aY (pv 0) rfl) (aa (pv 3) ad))))
   (ae (dQ hu (aY (pv 0) rfl) (pv 1) (aK (aa (pv 3) (aa (ay az (pv 4) ak (λ_ _=>Qr)) (aa (ay az (pv 4) ak (λ_ _=>Qr)) ad)))) rfl)
   (ag (av (ay az (pv 4) ak (λ_ _=>Qr)))))))))),?_⟩
  refine⟨_,rfl,x,rfl,hx,λhn H1 G=>?_,λhn H1 G=>k1 hn H1 G⟩;have u:=m.same G;obtain⟨dx,h1⟩:=u.ob;obtain⟨L,e1,e2,e3⟩:=u.st;refine⟨_,rfl,_,rfl,p,B,dx,_,_,rfl,h1,l.cl,l.nS,gf _ _,X,_,rfl,cD.k (k:=Sum.inr x) e3,_,rfl,?_⟩;by_cases a:x∈E.map (·.nm)
  ·obtain⟨q,_,_,_,v⟩:=dZ e1 a;rw[v];exact bC ⟨_,rfl,Qk,_,rfl,.inl ⟨x,rfl,hx.len,_,rfl,hx.len5,by show 1<=sizeLine;decide,k2 hn a H1 G⟩⟩
  rw[kY e1 a];refine aD ?_;refine⟨_,rfl,p,B,dx,_,_,rfl,h1,l.cl,l.nN,fC _ _,_,rfl,n,ds,dl,S,cv,d,rfl,u.net,pd.same G,ok,on,λhf H2 s2=>?_,λy hf H2 xc s2 d0 xh=>k3 hn a y hf H2 xc (G.trans s2) d0 xh⟩;obtain⟨xm,k4⟩:=k4 hn a hf;have T:=G.trans s2;refine⟨_,rfl,cv,d,rfl,pd.same T,cp,λkv H3 s3 pf=>?_⟩;have pk:=pf.pd;have U:=T.trans s3;have I:=m.same U;obtain⟨xd,xf⟩:=I.ob;obtain⟨ct,xs,rfl,xg,xj⟩:=zH xm pk;refine⟨_,rfl,p,B,xd,_,_,rfl,xf,l.cl,l.nN,fC _ _,_,rfl,n,ds,dl,ct,S,xs,rfl,g.net I.net,xg,BN g xj λso pa t c H4 s4 et pp fd=>?_⟩;refine⟨_,rfl,_,rfl,t,_,_,.bl so,rfl,rfl,bj.of et,rfl,_,rfl,t,_,_,c,rfl,rfl,bj.of et,rfl,(by show 3<=sizeLine;decide),λrt xk=>?_⟩;have Y:=Same.new (o:=.tup [.ref ct,.bl so,c]) xk;have M:(upd H4 rt (.tup [.ref ct,.bl so,c])) rt=some (.tup [.ref ct,.bl so,c]):=ac;generalize upd H4 rt (.tup [.ref ct,.bl so,c])=H5 at Y M;have V:=(U.trans s4).trans Y;have j:=m.same V;obtain⟨J,N⟩:=j.ob;obtain⟨L5,f1,f2,Z⟩:=j.st;have xp:(dM L5).length=E.length:=by rw[<-f1];unfold dM;rw[List.length_map,List.length_map]
  refine⟨_,rfl,p,B,J,_,_,rfl,N,l.cl,l.nS,gf _ _,_,rfl,X,_,rfl,iC.k (k:=Sum.inr x) Z (aW Qo),?_⟩;have kb:∀b o,H5 b=some o->b≠X->(upd H5 X (.dK (b5 (dM L5) (Sum.inr x:aT) (.ref rt)))) b=some o:=λb o z hb=>by rw[ah hb];exact z
  have D:=mr Z kb;have xe:=D _ _ (by intro _ z;cases z) (Y _ _ et);obtain⟨dn,xi⟩:=j.net.ob;refine⟨_,rfl,t,_,_,.bl so,rfl,rfl,bj.of xe,rfl,k4 so pa _ fd ⟨⟨J,D _ _ (by intro _ z;cases z) N⟩,j.net.but kb (bM xi Z (by intro z;cases z)) m.n1.symm m.n2.symm (λr z=>by rw[Z]at z;cases z),⟨L5++[(⟨x,d,so,pa⟩,rt)],by rw[List.map_append,f1];rfl,λq v=>?_,?_⟩,m.n1,m.n2⟩ λb o nt e=>D b o nt (V b o e)⟩
  ·rcases List.mem_append.mp v with v|v
   ·exact(f2 q v).kpd D
   ·rw[List.mem_singleton.mp v];exact⟨.ref ct,c,D _ _ (by intro _ z;cases z) M,((pk.same s4).same Y).kpd D,(pp.same Y).kpd D⟩
  ·rw[ac,dG _ (kY f1 a)];unfold dM;rw[List.map_append];rfl
end
inductive Rf where
 |err(e:gr)
 |claim
 |place(y:Str)
inductive BD where
 |place(x:Str)
 |tie(r:b7)
 |cut(x:Str)
 |alter(x:Str)(w c:Int)
 |state(x:Str)(v:V)(d:PyData)
 |forget(x:Str)
 |claim(x:Str)
 |verdict(x:Str)
 |paper(x:Str)
def BD.tup:BD->List V
 |.place x=>[.str "place",.str x]
 |.tie r=>[.str "tie",.str r.nm,.str r.a,.str r.b,.int r.w,.int r.c]
 |.cut x=>[.str "cut",.str x]
 |.alter x w c=>[.str "alter",.str x,.int w,.int c]
 |.state x v _=>[.str "state",.str x,v]
 |.forget x=>[.str "forget",.str x]
 |.claim x=>[.str "claim",.str x]
 |.verdict x=>[.str "verdict",.str x]
 |.paper x=>[.str "paper",.str x]
def yA(S:NS)(E:List cZ)(x:Str)(d:PyData):Rf->Prop
 |.err e=>(nameB x=false/\e=.noName)\/(nameB x=true/\x∈E.map (·.nm)/\e=.twice)
 |.place y=>nameB x=true/\x∉E.map (·.nm)/\bK S.pl (a_ 10 [] d)=some y
 |.claim=>False
def BD.bad(S:NS)(E:List cZ)(H:Hp):BD->Rf->Prop
 |.place x,.err e=>okT x/\judge S (.place x)=some e
 |.tie r,.err e=>(li.tie r).okD/\judge S (.tie r)=some e
 |.cut x,.err e=>okT x/\judge S (.cut x)=some e
 |.alter x w c,.err e=>okT x/\me w/\judge S (.alter x w c)=some e
 |.state x v d,a=>okT x/\PD H 10 v d/\okD 10 d/\e_ 10 d/\(∀y∈a_ 10 [] d,jN y)/\yA S E x d a
 |.forget x,.claim=>okT x/\x∉E.map (·.nm)
 |.claim x,.claim=>okT x/\x∉E.map (·.nm)
 |.verdict x,.claim=>okT x/\x∉E.map (·.nm)
 |.paper x,.claim=>okT x/\x∉E.map (·.nm)
 |_,_=>False
def XR(ec:gr->Addr)(cN Cn:Addr)(H:Hp)(X:XK):Rf->Prop
 |.err e=>∀H',Same H H'->X (.ref (ec e)) none H'
 |.claim=>∀H',Same H H'->X (.ref cN) none H'
 |.place y=>∀H' dx,Same H H'->dx≠0->H' dx=some (.xd [("name",.str y)])->X (.ref Cn) (some dx) H'
def yC(B C:Addr)(ec:gr->Addr)(cN Cn:Addr):Sp:=λvs H _ X=>∃(p n ds b c d:Addr)(S:NS)(E:List cZ)(D:BD)(a:Rf),vs=[.ref p,.ref d]/\BookAt B C H p n ds b c S E/\GS S/\E.length<=100/\(∀e∈E,e_ 10 e.cl/\e_ 10 e.pa)/\H d=some (.tup D.tup)/\D.bad S E H a/\XR ec cN Cn H X a
def cr(ec:gr->Addr)(cN Cn:Addr):Rf->Addr
 |.err e=>ec e
 |.claim=>cN
 |.place _=>Cn
def Rf.isE(f:gr):Rf->Bool
 |.err e=>decide (e=f)
 |_=>false
def Rf.isC:Rf->Bool
 |.claim=>true
 |_=>false
def Rf.isP:Rf->Bool
 |.place _=>true
 |_=>false
def Rf.word:Rf->Str
 |.err .noName =>"name"
 |.err .twice =>"twice"
 |.err .same =>"same"
 |.err .noWidth =>"width"
 |.err .noTie =>"tie"
 |.err .tooMany =>"many"
 |.claim =>"claim"
 |.place y=>("place ":Str)++y
structure DH(K:PySem.W.Frag)(mg:Str->Option Value)(ec:gr->Addr)(cN Cn cc c6 c9:Addr):Prop where
 m6:mg "NoText"=some (.ref c6)
 m9:mg "NoLine"=some (.ref c9)
 val:mg "ValueError"=none
 kit:∀r,ExcKit K (cr ec cN Cn r)
 kE:∀r f,PySem.W.kitOne K (.ref (cr ec cN Cn r)) (.ref (ec f))=some (r.isE f)
 kC:∀r,PySem.W.kitOne K (.ref (cr ec cN Cn r)) (.ref cN)=some r.isC
 kP:∀r,PySem.W.kitOne K (.ref (cr ec cN Cn r)) (.ref Cn)=some r.isP
 k6:∀r,PySem.W.kitOne K (.ref (cr ec cN Cn r)) (.ref c6)=some false
 k9:∀r,PySem.W.kitOne K (.ref (cr ec cN Cn r)) (.ref c9)=some false
 kv:∀r,PySem.W.kitOne K (.ref (cr ec cN Cn r)) (.type "ValueError")=some true
 xm:∀r,PySem.W.exmOne K (.ref (cr ec cN Cn r)) (.ref cc)=some true
 hd:PySem.W.hasDictIn K Cn=true
theorem cJ(x y:Str):(x++y).length=x.length+y.length:=Array.size_append
theorem Aw:bootBuiltins "ValueError"=some (.type "ValueError"):=Qk
def oF(B C:Addr):Sp:=λvs H Q _=>∃(p n ds b c d:Addr)(S:NS)(E:List cZ)(D:BD)(a:Rf),vs=[.ref p,.ref d]/\BookAt B C H p n ds b c S E/\GS S/\E.length<=100/\(∀e∈E,e_ 10 e.cl/\e_ 10 e.pa)/\H d=some (.tup D.tup)/\D.bad S E H a/\a.word.length<=1000/\∀(l:Addr)(H':Hp),Same H H'->H' l=some (.lst [.str a.word])->Q (.ref l) H'
section
variable{P:Program}{w:World}{K:PySem.W.Frag}{mg:Str->Option Value}{base:Heap}{C B cN Cn cc c6 c9 fI:Addr}{ec:gr->Addr}
theorem lO:ax ["_law_book","_law_deed","_law_word"] ["_law_book","_law_deed"] (af s_l_asked):=⟨rfl,rfl,rfl,Qk,rfl,Qk,Qk⟩
theorem sX{f:Addr}{fd:FuncData}(F:bZ K "_law_asked" "_law_asked" s_l_asked f fd)(G:lm K mg B)
  (m1:ba P w K mg base 9 B "place" ["self","name"] (i5 B C ec))(m2:ba P w K mg base 9 B "tie" ["self","name","a","b","width","cost"] (mY B C ec))(m3:ba P w K mg base 3 B "cut" ["self","name"] (rc B C ec))(m4:ba P w K mg base 4 B "alter" ["self","name","width","cost"] (lJ B C ec))(m5:ba P w K mg base 24 B "state" ["self","name","claim"] (i3 B C ec Cn))(m6:ba P w K mg base 2 B "forget" ["self","name"] (gX B C cN))
  (m7:ba P w K mg base 12 B "claim" ["self","name"] (dE B C cN Ap))(m8:ba P w K mg base 2 B "verdict" ["self","name"] (dE B C cN xI))(m9:ba P w K mg base 12 B "paper" ["self","name"] (dE B C cN xJ)):FnOk P w K mg base (e8 P w) 25 f fd ["_law_book","_law_deed"] (yC B C ec cN Cn):=by
 refine F.okX lO (λvs H Q E h=>?_) (λxa A outer s H vs Q T M W h=>?_)
 ·obtain⟨p,n,ds,t,u,d,S,E,D,l,rfl,_⟩:=h;rfl
 ·obtain⟨p,n,ds,t,u,d,S,E,D,l,rfl,q,g,o,L,hd,a,m⟩:=h;have Z:be 9 _:=M.mono Qd;have r3:be 3 _:=M.mono Qd;have r4:be 4 _:=M.mono Qd;have Y:be 2 _:=M.mono Qd;have O:be 12 _:=M.mono Qd;obtain⟨dx,h1⟩:=q.ob;refine⟨_,(ae (aF (i:=2) lO.nd rfl (Or.inl rfl) (ay az (pv 1) ak (λ_ _=>Qr)))
   (ae (aH (aE bS (pv 2) aj (aM _)) (ag (av (bq (pv 0) G.cl m1 W Z (aa (ay az (pv 1) ak (λ_ _=>Qr)) ad)))) au)
   (ae (aH (aE bS (pv 2) aj (aM _)) (ag (av (bq (pv 0) G.cl m2 W Z (aa (ay az (pv 1) ak (λ_ _=>Qr)) (aa (ay az (pv 1) ak (λ_ _=>Qr)) (aa (ay az (pv 1) ak (λ_ _=>Qr)) (aa (ay az (pv 1) ak (λ_ _=>Qr)) (aa (ay az (pv 1) ak (λ_ _=>Qr)) ad)))))))) au)
   (ae (aH (aE bS (pv 2) aj (aM _)) (ag (av (bq (pv 0) G.cl m3 W r3 (aa (ay az (pv 1) ak (λ_ _=>Qr)) ad)))) au)
   (ae (aH (aE bS (pv 2) aj (aM _)) (ag (av (bq (pv 0) G.cl m4 W r4 (aa (ay az (pv 1) ak (λ_ _=>Qr)) (aa (ay az (pv 1) ak (λ_ _=>Qr)) (aa (ay az (pv 1) ak (λ_ _=>Qr)) ad)))))) au)
   (ae (aH (aE bS (pv 2) aj (aM _)) (ag (av (bq (pv 0) G.cl m5 W M (aa (ay az (pv 1) ak (λ_ _=>Qr)) (aa (ay az (pv 1) ak (λ_ _=>Qr)) ad))))) au)
   (ae (aH (aE bS (pv 2) aj (aM _)) (ag (av (bq (pv 0) G.cl m6 W Y (aa (ay az (pv 1) ak (λ_ _=>Qr)) ad)))) au)
   (ae (aH (aE bS (pv 2) aj (aM _)) (ag (av (bq (pv 0) G.cl m7 W O (aa (ay az (pv 1) ak (λ_ _=>Qr)) ad)))) au)
   (ae (aH (aE bS (pv 2) aj (aM _)) (ag (av (bq (pv 0) G.cl m8 W Y (aa (ay az (pv 1) ak (λ_ _=>Qr)) ad)))) au)
   (ag (av (bq (pv 0) G.cl m9 W O (aa (ay az (pv 1) ak (λ_ _=>Qr)) ad))))))))))))),?_⟩
  cases D with
  |place x=>
   have hd:H d=some (.tup [.str "place",.str x]):=hd;cases l with
   |err e=>
    obtain⟨j,b⟩:=a;exact⟨_,rfl,d,_,_,.str "place",rfl,rfl,bj.of hd,rfl,⟨_,rfl,rfl,_,rfl,cB Qk ⟨_,rfl,p,dx,_,rfl,h1,bX _ _ Qk Qk,_,rfl,d,_,_,.str x,rfl,rfl,bj.of hd,rfl,p,n,ds,t,u,S,E,x,rfl,q,g,j,o,λz=>(by rw[z]at b;cases b),λe' z=>(by rw[b]at z;cases z;exact m)⟩⟩⟩
   |claim=>exact a.elim
   |place y=>exact a.elim
  |tie r=>
   have hd:H d=some (.tup [.str "tie",.str r.nm,.str r.a,.str r.b,.int r.w,.int r.c]):=hd;cases l with
   |err e=>
    obtain⟨j,b⟩:=a;exact⟨_,rfl,d,_,_,.str "tie",rfl,rfl,bj.of hd,rfl,⟨_,rfl,rfl,_,rfl,aJ Qk ⟨_,rfl,rfl,_,rfl,cB Qk ⟨_,rfl,p,dx,_,rfl,h1,bX _ _ Qk Qk,_,rfl,d,_,_,.str r.nm,rfl,rfl,bj.of hd,rfl,_,rfl,d,_,_,.str r.a,rfl,rfl,bj.of hd,rfl,_,rfl,d,_,_,.str r.b,rfl,rfl,bj.of hd,rfl,_,rfl,d,_,_,.int r.w,rfl,rfl,bj.of hd,rfl,_,rfl,d,_,_,.int r.c,rfl,rfl,bj.of hd,rfl,p,n,ds,t,u,S,E,r,rfl,q,g,j,o,λz=>(by rw[z]at b;cases b),λe' z=>(by rw[b]at z;cases z;exact m)⟩⟩⟩⟩
   |claim=>exact a.elim
   |place y=>exact a.elim
  |cut x=>
   have hd:H d=some (.tup [.str "cut",.str x]):=hd;cases l with
   |err e=>
    obtain⟨j,b⟩:=a;exact⟨_,rfl,d,_,_,.str "cut",rfl,rfl,bj.of hd,rfl,⟨_,rfl,rfl,_,rfl,aJ Qk ⟨_,rfl,rfl,_,rfl,aJ Qk ⟨_,rfl,rfl,_,rfl,cB Qk ⟨_,rfl,p,dx,_,rfl,h1,bX _ _ Qk Qk,_,rfl,d,_,_,.str x,rfl,rfl,bj.of hd,rfl,p,n,ds,t,u,S,E,x,e,rfl,q,g,j,b,m⟩⟩⟩⟩⟩
   |claim=>exact a.elim
   |place y=>exact a.elim
  |alter x V c=>
   have hd:H d=some (.tup [.str "alter",.str x,.int V,.int c]):=hd;cases l with
   |err e=>
    obtain⟨j,hi,b⟩:=a;exact⟨_,rfl,d,_,_,.str "alter",rfl,rfl,bj.of hd,rfl,⟨_,rfl,rfl,_,rfl,aJ Qk ⟨_,rfl,rfl,_,rfl,aJ Qk ⟨_,rfl,rfl,_,rfl,aJ Qk ⟨_,rfl,rfl,_,rfl,cB Qk ⟨_,rfl,p,dx,_,rfl,h1,bX _ _ Qk Qk,_,rfl,d,_,_,.str x,rfl,rfl,bj.of hd,rfl,_,rfl,d,_,_,.int V,rfl,rfl,bj.of hd,rfl,_,rfl,d,_,_,.int c,rfl,rfl,bj.of hd,rfl,p,n,ds,t,u,S,E,x,V,c,e,rfl,q,g,j,hi,b,m⟩⟩⟩⟩⟩⟩
   |claim=>exact a.elim
   |place y=>exact a.elim
  |state x v dd=>
   have hd:H d=some (.tup [.str "state",.str x,v]):=hd;obtain⟨j,pd,ok,cp,on,U⟩:okT x/\PD H 10 v dd/\okD 10 dd/\e_ 10 dd/\(∀y∈a_ 10 [] dd,jN y)/\yA S E x dd l:=by cases l<;>exact a
   have I:(nameB x=false->∀H',Same H H'->T (.ref (ec .noName)) none H')/\(nameB x=true->x∈E.map (·.nm)->∀H',Same H H'->T (.ref (ec .twice)) none H')/\
     (nameB x=true->x∉E.map (·.nm)->∀y,bK S.pl (a_ 10 [] dd)=some y->∀H' dx,Same H H'->dx≠0->H' dx=some (.xd [("name",.str y)])->T (.ref Cn) (some dx) H')/\¬(nameB x=true/\x∉E.map (·.nm)/\bK S.pl (a_ 10 [] dd)=none):=by
    cases l with
    |err e=>
     rcases U with⟨J,rfl⟩|⟨J,R,rfl⟩
     ·exact⟨λ_=>m,λz=>(by rw[J]at z;cases z),λz=>(by rw[J]at z;cases z),λz=>by rw[J]at z;cases z.1⟩
     ·exact⟨λz=>(by rw[J]at z;cases z),λ_ _=>m,λ_ z=>absurd R z,λz=>absurd R z.2.1⟩
    |claim=>exact U.elim
    |place y=>
     obtain⟨J,R,X⟩:=U;exact⟨λz=>(by rw[J]at z;cases z),λ_ z=>absurd z R,λ_ _ y' z=>(by rw[X]at z;cases z;exact m),λz=>by rw[X]at z;cases z.2.2⟩
   exact⟨_,rfl,d,_,_,.str "state",rfl,rfl,bj.of hd,rfl,⟨_,rfl,rfl,_,rfl,aJ Qk ⟨_,rfl,rfl,_,rfl,aJ Qk ⟨_,rfl,rfl,_,rfl,aJ Qk ⟨_,rfl,rfl,_,rfl,aJ Qk ⟨_,rfl,rfl,_,rfl,cB Qk ⟨_,rfl,p,dx,_,rfl,h1,bX _ _ Qk Qk,_,rfl,d,_,_,.str x,rfl,rfl,bj.of hd,rfl,_,rfl,d,_,_,v,rfl,rfl,bj.of hd,rfl,p,n,ds,t,u,S,E,x,v,dd,rfl,q,g,j,o,pd,ok,cp,on,I.1,I.2.1,I.2.2.1,λz1 z2 z3=>absurd ⟨z1,z2,z3⟩ I.2.2.2⟩⟩⟩⟩⟩⟩⟩
  |forget x=>
   have hd:H d=some (.tup [.str "forget",.str x]):=hd;cases l with
   |err e=>exact a.elim
   |claim=>
    obtain⟨j,k⟩:=a;exact⟨_,rfl,d,_,_,.str "forget",rfl,rfl,bj.of hd,rfl,⟨_,rfl,rfl,_,rfl,aJ Qk ⟨_,rfl,rfl,_,rfl,aJ Qk ⟨_,rfl,rfl,_,rfl,aJ Qk ⟨_,rfl,rfl,_,rfl,aJ Qk ⟨_,rfl,rfl,_,rfl,aJ Qk ⟨_,rfl,rfl,_,rfl,cB Qk ⟨_,rfl,p,dx,_,rfl,h1,bX _ _ Qk Qk,_,rfl,d,_,_,.str x,rfl,rfl,bj.of hd,rfl,p,n,ds,t,u,S,E,x,rfl,q,j,λz=>absurd z k,λ_=>m H (Same.refl H)⟩⟩⟩⟩⟩⟩⟩⟩
   |place y=>exact a.elim
  |claim x=>
   have hd:H d=some (.tup [.str "claim",.str x]):=hd;cases l with
   |err e=>exact a.elim
   |claim=>
    obtain⟨j,k⟩:=a;exact⟨_,rfl,d,_,_,.str "claim",rfl,rfl,bj.of hd,rfl,⟨_,rfl,rfl,_,rfl,aJ Qk ⟨_,rfl,rfl,_,rfl,aJ Qk ⟨_,rfl,rfl,_,rfl,aJ Qk ⟨_,rfl,rfl,_,rfl,aJ Qk ⟨_,rfl,rfl,_,rfl,aJ Qk ⟨_,rfl,rfl,_,rfl,aJ Qk ⟨_,rfl,rfl,_,rfl,cB Qk ⟨_,rfl,p,dx,_,rfl,h1,bX _ _ Qk Qk,_,rfl,d,_,_,.str x,rfl,rfl,bj.of hd,rfl,p,n,ds,t,u,S,E,x,rfl,q,j,L,λe N z=>absurd (z▸List.mem_map_of_mem (f:=(·.nm)) N) k,λ_=>m H (Same.refl H)⟩⟩⟩⟩⟩⟩⟩⟩⟩
   |place y=>exact a.elim
  |verdict x=>
   have hd:H d=some (.tup [.str "verdict",.str x]):=hd;cases l with
   |err e=>exact a.elim
   |claim=>
    obtain⟨j,k⟩:=a;exact⟨_,rfl,d,_,_,.str "verdict",rfl,rfl,bj.of hd,rfl,⟨_,rfl,rfl,_,rfl,aJ Qk ⟨_,rfl,rfl,_,rfl,aJ Qk ⟨_,rfl,rfl,_,rfl,aJ Qk ⟨_,rfl,rfl,_,rfl,aJ Qk ⟨_,rfl,rfl,_,rfl,aJ Qk ⟨_,rfl,rfl,_,rfl,aJ Qk ⟨_,rfl,rfl,_,rfl,aJ Qk ⟨_,rfl,rfl,_,rfl,cB Qk ⟨_,rfl,p,dx,_,rfl,h1,bX _ _ Qk Qk,_,rfl,d,_,_,.str x,rfl,rfl,bj.of hd,rfl,p,n,ds,t,u,S,E,x,rfl,q,j,L,λe N z=>absurd (z▸List.mem_map_of_mem (f:=(·.nm)) N) k,λ_=>m H (Same.refl H)⟩⟩⟩⟩⟩⟩⟩⟩⟩⟩
   |place y=>exact a.elim
  |paper x=>
   have hd:H d=some (.tup [.str "paper",.str x]):=hd;cases l with
   |err e=>exact a.elim
   |claim=>
    obtain⟨j,k⟩:=a;exact⟨_,rfl,d,_,_,.str "paper",rfl,rfl,bj.of hd,rfl,⟨_,rfl,rfl,_,rfl,aJ Qk ⟨_,rfl,rfl,_,rfl,aJ Qk ⟨_,rfl,rfl,_,rfl,aJ Qk ⟨_,rfl,rfl,_,rfl,aJ Qk ⟨_,rfl,rfl,_,rfl,aJ Qk ⟨_,rfl,rfl,_,rfl,aJ Qk ⟨_,rfl,rfl,_,rfl,aJ Qk ⟨_,rfl,rfl,_,rfl,aJ Qk ⟨_,rfl,p,dx,_,rfl,h1,bX _ _ Qk Qk,_,rfl,d,_,_,.str x,rfl,rfl,bj.of hd,rfl,p,n,ds,t,u,S,E,x,rfl,q,j,L,λe N z=>absurd (z▸List.mem_map_of_mem (f:=(·.nm)) N) k,λ_=>m H (Same.refl H)⟩⟩⟩⟩⟩⟩⟩⟩⟩⟩
   |place y=>exact a.elim
abbrev AJ:List Str:=["_law_book","_law_deed","_law_caught","_law_names","e"]
theorem fh:ax AJ ["_law_book","_law_deed"] (af s_l_class):=⟨rfl,rfl,rfl,Qk,rfl,Qk,Qk⟩
theorem sV{f:Addr}{fd:FuncData}(F:bZ K "_law_class" "_law_class" s_l_class f fd)(T:de K mg C)(R:lh K mg ec)(RC:AL K mg cN)(N:xS K mg Cn cc fI)(R2:DH K mg ec cN Cn cc c6 c9)(ca:eU P w K mg base 25 "_law_asked" ["_law_book","_law_deed"] (yC B C ec cN Cn)):FnOk P w K mg base cY 26 f fd ["_law_book","_law_deed"] (oF B C):=by
 refine F.ok fh (λvs H Q E h=>?_) (λxa A outer s H vs Q E hr h=>?_)
 ·obtain⟨p,n,ds,Z,sd,d,S,E,D,I,rfl,_⟩:=h;rfl
 ·obtain⟨p,n,ds,Z,sd,d,S,E,D,I,rfl,BA,g,L,U,hd,hb,hw,q⟩:=h;have g_:=g;have g:∀{x:Str}{a:Addr},mg x=some (.ref a)->io mg x (.ref a):=λh=>⟨_,h,rfl⟩;refine⟨_,(ae (aF (i:=2) fh.nd rfl (Or.inl rfl) gk)
   (bQ (rY (i:=4) rfl rfl fh.nd rfl rfl Qr N.mC (rW (se ca hr Qr (aa (pv 0) (aa (pv 1) ad)))) (λv=>(ag (aF (i:=2) fh.nd rfl (Or.inl rfl) (pv 4)))))
   (ae (aF (i:=3) fh.nd rfl (Or.inl rfl) (aR ad))
   (ae (aH (bb (aI bA Qr T.isi b9 (aa (pv 2) (aa (bR (g R.m0) Qr) ad)))) (ag (aG (dH PySem.F.plainAttrs_list PySem.F.slot_list_append PySem.F.type_list_append bW (pv 3) (aa aj ad)))) au)
   (ae (aH (bb (aI bA Qr T.isi b9 (aa (pv 2) (aa (bR (g R.m1) Qr) ad)))) (ag (aG (dH PySem.F.plainAttrs_list PySem.F.slot_list_append PySem.F.type_list_append bW (pv 3) (aa aj ad)))) au)
   (ae (aH (bb (aI bA Qr T.isi b9 (aa (pv 2) (aa (bR (g R.m2) Qr) ad)))) (ag (aG (dH PySem.F.plainAttrs_list PySem.F.slot_list_append PySem.F.type_list_append bW (pv 3) (aa aj ad)))) au)
   (ae (aH (bb (aI bA Qr T.isi b9 (aa (pv 2) (aa (bR (g R.m3) Qr) ad)))) (ag (aG (dH PySem.F.plainAttrs_list PySem.F.slot_list_append PySem.F.type_list_append bW (pv 3) (aa aj ad)))) au)
   (ae (aH (bb (aI bA Qr T.isi b9 (aa (pv 2) (aa (bR (g R.m4) Qr) ad)))) (ag (aG (dH PySem.F.plainAttrs_list PySem.F.slot_list_append PySem.F.type_list_append bW (pv 3) (aa aj ad)))) au)
   (ae (aH (bb (aI bA Qr T.isi b9 (aa (pv 2) (aa (bR (g R.m5) Qr) ad)))) (ag (aG (dH PySem.F.plainAttrs_list PySem.F.slot_list_append PySem.F.type_list_append bW (pv 3) (aa aj ad)))) au)
   (ae (aH (bb (aI bA Qr T.isi b9 (aa (pv 2) (aa (bR (g RC.m) Qr) ad)))) (ag (aG (dH PySem.F.plainAttrs_list PySem.F.slot_list_append PySem.F.type_list_append bW (pv 3) (aa aj ad)))) au)
   (ae (aH (bb (aI bA Qr T.isi b9 (aa (pv 2) (aa (bR (g N.mN) Qr) ad)))) (ag (aG (dH PySem.F.plainAttrs_list PySem.F.slot_list_append PySem.F.type_list_append bW (pv 3) (aa (aU bT aj (vW (pv 2))) ad)))) au)
   (ae (aH (PW.pt (gE (bb (aI bA Qr T.isi b9 (aa (pv 2) (aa (bR (g R2.m6) Qr) ad)))) (eN (bb (aI bA Qr T.isi b9 (aa (pv 2) (aa (bR (g R2.m9) Qr) ad))))))) dc au)
   (ae (aH (PW.pt (zQ (da (v_ (pv 2))) (vO (d6 (bb (aI jR Qr T.isi b9 (aa (pv 2) (aa (dq R2.val Qr Aw) ad)))))))) dc au)
   (ag (av (pv 3)))))))))))))))),?_⟩
  refine⟨λY H'=>Same H H'/\∃(a:Addr)(c:Option Addr),H' a=some (kX a (.ref (cr ec cN Cn I)) c)/\(∀y,I=.place y->∃dx,c=some dx/\dx≠0/\H' dx=some (.xd [("name",.str y)]))/\Y=[some (.ref p),some (.ref d),some (.ref a),none,none],?_,?_⟩
  ·refine⟨_,rfl,_,rfl,p,n,ds,Z,sd,d,S,E,D,I,rfl,BA,g_,L,U,hd,hb,?_⟩;cases I with
   |err e=>exactλH' s'=>⟨R2.xm (.err e),λa t=>⟨_,rfl,s'.upd t,a,none,ac,λy z=>(nomatch z),rfl⟩⟩
   |claim=>exactλH' s'=>⟨R2.xm .claim,λa t=>⟨_,rfl,s'.upd t,a,none,ac,λy z=>(nomatch z),rfl⟩⟩
   |place y=>exactλH' dx s' O J=>⟨R2.xm (.place y),λa t=>⟨_,rfl,s'.upd t,a,some dx,ac,λy' z=>(by cases z;exact⟨dx,rfl,O,(Same.new t) _ _ J⟩),rfl⟩⟩
  rintro _ H1⟨s1,a,c,t,M,rfl⟩;refine⟨Qd,λl V=>?_⟩;have z2:=Same.new (o:=.lst []) V;have m:(upd H1 l (.lst [])) l=some (.lst []):=ac;have k:=z2 _ _ t;have X:a≠l:=ai t V;have G:∀y,I=.place y->∃dx,c=some dx/\dx≠0/\(upd H1 l (.lst [])) dx=some (.xd [("name",.str y)]):=λy z=>let⟨dx,e1,e2,e3⟩:=M y z;⟨dx,e1,e2,z2 _ _ e3⟩;have u:∀x,Same H (upd (upd H1 l (.lst [])) l (.lst x)):=λx b o e=>by
   have nb:b≠l:=ai (s1 _ _ e) V;rw[ah nb,ah nb];exact s1 _ _ e
  clear M;generalize upd H1 l (.lst [])=H2 at m k G u;have j:∀x,(upd H2 l (.lst x)) a=some (kX a (.ref (cr ec cN Cn I)) c):=λx=>by rw[ah X];exact k
  cases I with
  |err e=>
   cases e with
   |noName=>exact⟨_,rfl,a,_,ec .noName,true,c,rfl,k,R2.kit (.err .noName),R2.kE (.err .noName) .noName,_,rfl,bC ⟨_,rfl,.inl ⟨rfl,_,bp.of m⟩,l,_,_,rfl,rfl,m,aW Qd,⟨_,rfl,a,_,ec .twice,false,c,rfl,(j [.str _]),R2.kit (.err .noName),R2.kE (.err .noName) .twice,_,rfl,aD ⟨_,rfl,a,_,ec .same,false,c,rfl,(j [.str _]),R2.kit (.err .noName),R2.kE (.err .noName) .same,_,rfl,aD ⟨_,rfl,a,_,ec .noWidth,false,c,rfl,(j [.str _]),R2.kit (.err .noName),R2.kE (.err .noName) .noWidth,_,rfl,aD ⟨_,rfl,a,_,ec .noTie,false,c,rfl,(j [.str _]),R2.kit (.err .noName),R2.kE (.err .noName) .noTie,_,rfl,aD ⟨_,rfl,a,_,ec .tooMany,false,c,rfl,(j [.str _]),R2.kit (.err .noName),R2.kE (.err .noName) .tooMany,_,rfl,aD ⟨_,rfl,a,_,cN,false,c,rfl,(j [.str _]),R2.kit (.err .noName),R2.kC (.err .noName),_,rfl,aD ⟨_,rfl,a,_,Cn,false,c,rfl,(j [.str _]),R2.kit (.err .noName),R2.kP (.err .noName),_,rfl,aD ⟨_,rfl,a,_,c6,false,c,rfl,(j [.str _]),R2.kit (.err .noName),R2.k6 (.err .noName),_,rfl,aD ⟨_,rfl,a,_,c9,false,c,rfl,(j [.str _]),R2.kit (.err .noName),R2.k9 (.err .noName),_,rfl,aD ⟨_,rfl,_,rfl,bC ⟨_,rfl,a,_,"ValueError",true,c,rfl,(j [.str _]),R2.kit (.err .noName),R2.kv (.err .noName),_,rfl,aD ⟨_,rfl,q l _ (u _) ac⟩⟩⟩⟩⟩⟩⟩⟩⟩⟩⟩⟩⟩⟩
   |twice=>exact⟨_,rfl,a,_,ec .noName,false,c,rfl,k,R2.kit (.err .twice),R2.kE (.err .twice) .noName,_,rfl,aD ⟨_,rfl,a,_,ec .twice,true,c,rfl,k,R2.kit (.err .twice),R2.kE (.err .twice) .twice,_,rfl,bC ⟨_,rfl,.inl ⟨rfl,_,bp.of m⟩,l,_,_,rfl,rfl,m,aW Qd,⟨_,rfl,a,_,ec .same,false,c,rfl,(j [.str _]),R2.kit (.err .twice),R2.kE (.err .twice) .same,_,rfl,aD ⟨_,rfl,a,_,ec .noWidth,false,c,rfl,(j [.str _]),R2.kit (.err .twice),R2.kE (.err .twice) .noWidth,_,rfl,aD ⟨_,rfl,a,_,ec .noTie,false,c,rfl,(j [.str _]),R2.kit (.err .twice),R2.kE (.err .twice) .noTie,_,rfl,aD ⟨_,rfl,a,_,ec .tooMany,false,c,rfl,(j [.str _]),R2.kit (.err .twice),R2.kE (.err .twice) .tooMany,_,rfl,aD ⟨_,rfl,a,_,cN,false,c,rfl,(j [.str _]),R2.kit (.err .twice),R2.kC (.err .twice),_,rfl,aD ⟨_,rfl,a,_,Cn,false,c,rfl,(j [.str _]),R2.kit (.err .twice),R2.kP (.err .twice),_,rfl,aD ⟨_,rfl,a,_,c6,false,c,rfl,(j [.str _]),R2.kit (.err .twice),R2.k6 (.err .twice),_,rfl,aD ⟨_,rfl,a,_,c9,false,c,rfl,(j [.str _]),R2.kit (.err .twice),R2.k9 (.err .twice),_,rfl,aD ⟨_,rfl,_,rfl,bC ⟨_,rfl,a,_,"ValueError",true,c,rfl,(j [.str _]),R2.kit (.err .twice),R2.kv (.err .twice),_,rfl,aD ⟨_,rfl,q l _ (u _) ac⟩⟩⟩⟩⟩⟩⟩⟩⟩⟩⟩⟩⟩⟩
   |same=>exact⟨_,rfl,a,_,ec .noName,false,c,rfl,k,R2.kit (.err .same),R2.kE (.err .same) .noName,_,rfl,aD ⟨_,rfl,a,_,ec .twice,false,c,rfl,k,R2.kit (.err .same),R2.kE (.err .same) .twice,_,rfl,aD ⟨_,rfl,a,_,ec .same,true,c,rfl,k,R2.kit (.err .same),R2.kE (.err .same) .same,_,rfl,bC ⟨_,rfl,.inl ⟨rfl,_,bp.of m⟩,l,_,_,rfl,rfl,m,aW Qd,⟨_,rfl,a,_,ec .noWidth,false,c,rfl,(j [.str _]),R2.kit (.err .same),R2.kE (.err .same) .noWidth,_,rfl,aD ⟨_,rfl,a,_,ec .noTie,false,c,rfl,(j [.str _]),R2.kit (.err .same),R2.kE (.err .same) .noTie,_,rfl,aD ⟨_,rfl,a,_,ec .tooMany,false,c,rfl,(j [.str _]),R2.kit (.err .same),R2.kE (.err .same) .tooMany,_,rfl,aD ⟨_,rfl,a,_,cN,false,c,rfl,(j [.str _]),R2.kit (.err .same),R2.kC (.err .same),_,rfl,aD ⟨_,rfl,a,_,Cn,false,c,rfl,(j [.str _]),R2.kit (.err .same),R2.kP (.err .same),_,rfl,aD ⟨_,rfl,a,_,c6,false,c,rfl,(j [.str _]),R2.kit (.err .same),R2.k6 (.err .same),_,rfl,aD ⟨_,rfl,a,_,c9,false,c,rfl,(j [.str _]),R2.kit (.err .same),R2.k9 (.err .same),_,rfl,aD ⟨_,rfl,_,rfl,bC ⟨_,rfl,a,_,"ValueError",true,c,rfl,(j [.str _]),R2.kit (.err .same),R2.kv (.err .same),_,rfl,aD ⟨_,rfl,q l _ (u _) ac⟩⟩⟩⟩⟩⟩⟩⟩⟩⟩⟩⟩⟩⟩
   |noWidth=>exact⟨_,rfl,a,_,ec .noName,false,c,rfl,k,R2.kit (.err .noWidth),R2.kE (.err .noWidth) .noName,_,rfl,aD ⟨_,rfl,a,_,ec .twice,false,c,rfl,k,R2.kit (.err .noWidth),R2.kE (.err .noWidth) .twice,_,rfl,aD ⟨_,rfl,a,_,ec .same,false,c,rfl,k,R2.kit (.err .noWidth),R2.kE (.err .noWidth) .same,_,rfl,aD ⟨_,rfl,a,_,ec .noWidth,true,c,rfl,k,R2.kit (.err .noWidth),R2.kE (.err .noWidth) .noWidth,_,rfl,bC ⟨_,rfl,.inl ⟨rfl,_,bp.of m⟩,l,_,_,rfl,rfl,m,aW Qd,⟨_,rfl,a,_,ec .noTie,false,c,rfl,(j [.str _]),R2.kit (.err .noWidth),R2.kE (.err .noWidth) .noTie,_,rfl,aD ⟨_,rfl,a,_,ec .tooMany,false,c,rfl,(j [.str _]),R2.kit (.err .noWidth),R2.kE (.err .noWidth) .tooMany,_,rfl,aD ⟨_,rfl,a,_,cN,false,c,rfl,(j [.str _]),R2.kit (.err .noWidth),R2.kC (.err .noWidth),_,rfl,aD ⟨_,rfl,a,_,Cn,false,c,rfl,(j [.str _]),R2.kit (.err .noWidth),R2.kP (.err .noWidth),_,rfl,aD ⟨_,rfl,a,_,c6,false,c,rfl,(j [.str _]),R2.kit (.err .noWidth),R2.k6 (.err .noWidth),_,rfl,aD ⟨_,rfl,a,_,c9,false,c,rfl,(j [.str _]),R2.kit (.err .noWidth),R2.k9 (.err .noWidth),_,rfl,aD ⟨_,rfl,_,rfl,bC ⟨_,rfl,a,_,"ValueError",true,c,rfl,(j [.str _]),R2.kit (.err .noWidth),R2.kv (.err .noWidth),_,rfl,aD ⟨_,rfl,q l _ (u _) ac⟩⟩⟩⟩⟩⟩⟩⟩⟩⟩⟩⟩⟩⟩
   |noTie=>exact⟨_,rfl,a,_,ec .noName,false,c,rfl,k,R2.kit (.err .noTie),R2.kE (.err .noTie) .noName,_,rfl,aD ⟨_,rfl,a,_,ec .twice,false,c,rfl,k,R2.kit (.err .noTie),R2.kE (.err .noTie) .twice,_,rfl,aD ⟨_,rfl,a,_,ec .same,false,c,rfl,k,R2.kit (.err .noTie),R2.kE (.err .noTie) .same,_,rfl,aD ⟨_,rfl,a,_,ec .noWidth,false,c,rfl,k,R2.kit (.err .noTie),R2.kE (.err .noTie) .noWidth,_,rfl,aD ⟨_,rfl,a,_,ec .noTie,true,c,rfl,k,R2.kit (.err .noTie),R2.kE (.err .noTie) .noTie,_,rfl,bC ⟨_,rfl,.inl ⟨rfl,_,bp.of m⟩,l,_,_,rfl,rfl,m,aW Qd,⟨_,rfl,a,_,ec .tooMany,false,c,rfl,(j [.str _]),R2.kit (.err .noTie),R2.kE (.err .noTie) .tooMany,_,rfl,aD ⟨_,rfl,a,_,cN,false,c,rfl,(j [.str _]),R2.kit (.err .noTie),R2.kC (.err .noTie),_,rfl,aD ⟨_,rfl,a,_,Cn,false,c,rfl,(j [.str _]),R2.kit (.err .noTie),R2.kP (.err .noTie),_,rfl,aD ⟨_,rfl,a,_,c6,false,c,rfl,(j [.str _]),R2.kit (.err .noTie),R2.k6 (.err .noTie),_,rfl,aD ⟨_,rfl,a,_,c9,false,c,rfl,(j [.str _]),R2.kit (.err .noTie),R2.k9 (.err .noTie),_,rfl,aD ⟨_,rfl,_,rfl,bC ⟨_,rfl,a,_,"ValueError",true,c,rfl,(j [.str _]),R2.kit (.err .noTie),R2.kv (.err .noTie),_,rfl,aD ⟨_,rfl,q l _ (u _) ac⟩⟩⟩⟩⟩⟩⟩⟩⟩⟩⟩⟩⟩⟩
   |tooMany=>exact⟨_,rfl,a,_,ec .noName,false,c,rfl,k,R2.kit (.err .tooMany),R2.kE (.err .tooMany) .noName,_,rfl,aD ⟨_,rfl,a,_,ec .twice,false,c,rfl,k,R2.kit (.err .tooMany),R2.kE (.err .tooMany) .twice,_,rfl,aD ⟨_,rfl,a,_,ec .same,false,c,rfl,k,R2.kit (.err .tooMany),R2.kE (.err .tooMany) .same,_,rfl,aD ⟨_,rfl,a,_,ec .noWidth,false,c,rfl,k,R2.kit (.err .tooMany),R2.kE (.err .tooMany) .noWidth,_,rfl,aD ⟨_,rfl,a,_,ec .noTie,false,c,rfl,k,R2.kit (.err .tooMany),R2.kE (.err .tooMany) .noTie,_,rfl,aD ⟨_,rfl,a,_,ec .tooMany,true,c,rfl,k,R2.kit (.err .tooMany),R2.kE (.err .tooMany) .tooMany,_,rfl,bC ⟨_,rfl,.inl ⟨rfl,_,bp.of m⟩,l,_,_,rfl,rfl,m,aW Qd,⟨_,rfl,a,_,cN,false,c,rfl,(j [.str _]),R2.kit (.err .tooMany),R2.kC (.err .tooMany),_,rfl,aD ⟨_,rfl,a,_,Cn,false,c,rfl,(j [.str _]),R2.kit (.err .tooMany),R2.kP (.err .tooMany),_,rfl,aD ⟨_,rfl,a,_,c6,false,c,rfl,(j [.str _]),R2.kit (.err .tooMany),R2.k6 (.err .tooMany),_,rfl,aD ⟨_,rfl,a,_,c9,false,c,rfl,(j [.str _]),R2.kit (.err .tooMany),R2.k9 (.err .tooMany),_,rfl,aD ⟨_,rfl,_,rfl,bC ⟨_,rfl,a,_,"ValueError",true,c,rfl,(j [.str _]),R2.kit (.err .tooMany),R2.kv (.err .tooMany),_,rfl,aD ⟨_,rfl,q l _ (u _) ac⟩⟩⟩⟩⟩⟩⟩⟩⟩⟩⟩⟩⟩⟩
  |claim=>exact⟨_,rfl,a,_,ec .noName,false,c,rfl,k,R2.kit .claim,R2.kE .claim .noName,_,rfl,aD ⟨_,rfl,a,_,ec .twice,false,c,rfl,k,R2.kit .claim,R2.kE .claim .twice,_,rfl,aD ⟨_,rfl,a,_,ec .same,false,c,rfl,k,R2.kit .claim,R2.kE .claim .same,_,rfl,aD ⟨_,rfl,a,_,ec .noWidth,false,c,rfl,k,R2.kit .claim,R2.kE .claim .noWidth,_,rfl,aD ⟨_,rfl,a,_,ec .noTie,false,c,rfl,k,R2.kit .claim,R2.kE .claim .noTie,_,rfl,aD ⟨_,rfl,a,_,ec .tooMany,false,c,rfl,k,R2.kit .claim,R2.kE .claim .tooMany,_,rfl,aD ⟨_,rfl,a,_,cN,true,c,rfl,k,R2.kit .claim,R2.kC .claim,_,rfl,bC ⟨_,rfl,.inl ⟨rfl,_,bp.of m⟩,l,_,_,rfl,rfl,m,aW Qd,⟨_,rfl,a,_,Cn,false,c,rfl,(j [.str _]),R2.kit .claim,R2.kP .claim,_,rfl,aD ⟨_,rfl,a,_,c6,false,c,rfl,(j [.str _]),R2.kit .claim,R2.k6 .claim,_,rfl,aD ⟨_,rfl,a,_,c9,false,c,rfl,(j [.str _]),R2.kit .claim,R2.k9 .claim,_,rfl,aD ⟨_,rfl,_,rfl,bC ⟨_,rfl,a,_,"ValueError",true,c,rfl,(j [.str _]),R2.kit .claim,R2.kv .claim,_,rfl,aD ⟨_,rfl,q l _ (u _) ac⟩⟩⟩⟩⟩⟩⟩⟩⟩⟩⟩⟩⟩⟩
  |place y=>
   obtain⟨dx,rfl,O,J⟩:=G y rfl;have W:("place ":Str).length +y.length<=sizeLine:=Nat.le_trans (by have:(("place ":Str)++y).length<=1000:=hw;rw[cJ]at this;exact this:_<=1000) Qd;exact⟨_,rfl,a,_,ec .noName,false,some dx,rfl,k,R2.kit (.place y),R2.kE (.place y) .noName,_,rfl,aD ⟨_,rfl,a,_,ec .twice,false,some dx,rfl,k,R2.kit (.place y),R2.kE (.place y) .twice,_,rfl,aD ⟨_,rfl,a,_,ec .same,false,some dx,rfl,k,R2.kit (.place y),R2.kE (.place y) .same,_,rfl,aD ⟨_,rfl,a,_,ec .noWidth,false,some dx,rfl,k,R2.kit (.place y),R2.kE (.place y) .noWidth,_,rfl,aD ⟨_,rfl,a,_,ec .noTie,false,some dx,rfl,k,R2.kit (.place y),R2.kE (.place y) .noTie,_,rfl,aD ⟨_,rfl,a,_,ec .tooMany,false,some dx,rfl,k,R2.kit (.place y),R2.kE (.place y) .tooMany,_,rfl,aD ⟨_,rfl,a,_,cN,false,some dx,rfl,k,R2.kit (.place y),R2.kC (.place y),_,rfl,aD ⟨_,rfl,a,_,Cn,true,some dx,rfl,k,R2.kit (.place y),R2.kP (.place y),_,rfl,bC ⟨_,rfl,.inl ⟨rfl,_,bp.of m⟩,_,rfl,a,Cn,dx,_,.str y,rfl,k,O,R2.kit (.place y),R2.hd,N.at_.no,J,rfl,_,_,rfl,rfl,W,l,_,_,rfl,rfl,m,aW Qd,⟨_,rfl,a,_,c6,false,some dx,rfl,(j [.str _]),R2.kit (.place y),R2.k6 (.place y),_,rfl,aD ⟨_,rfl,a,_,c9,false,some dx,rfl,(j [.str _]),R2.kit (.place y),R2.k9 (.place y),_,rfl,aD ⟨_,rfl,_,rfl,bC ⟨_,rfl,a,_,"ValueError",true,some dx,rfl,(j [.str _]),R2.kit (.place y),R2.kv (.place y),_,rfl,aD ⟨_,rfl,q l _ (u _) ac⟩⟩⟩⟩⟩⟩⟩⟩⟩⟩⟩⟩⟩⟩
end
structure W9(S:NS)(E:List cZ)(m:Nat)(t0 t1 nm:Str):Prop where
 g:GS S
 i0:t0∈S.nms
 i1:t1∈S.nms
 en:E.map (·.nm)=[nm]
 nn:nameB nm=true
 fT:("fresh":Str)∉S.nms
 fE:¬("fresh":Str)=nm
 eqP:∀x∈S.pl,x.length=m
 m6:m<=6
 q3:("qqq":Str)∉S.pl
def gI:List Str:=["","Ann","a1","a b","abcdefghijklm","ann ","-"]
theorem du:∀x∈gI,nameB x=false/\x.length<=1000/\(x.cps.toList.all λc=>decide (c<16^8))=true/\PyData.strOk x=true:=Qk
theorem jh{x:Str}(h:x∈gI):okT x:=⟨(du x h).2.1,λc a=>of_decide_eq_true (List.all_eq_true.mp (du x h).2.2.1 c a)⟩
theorem aA{x:Str}(h:nameB x=true):jN x:=by
 unfold nameB at h;simp only[Bool.and_eq_true,List.all_eq_true,decide_eq_true_eq]at h;refine⟨h.1.2,λc a=>?_⟩;have:=h.2 c a;unfold i6 at this;simp at this;omega
theorem jN.T{x:Str}(h:jN x):okT x:=⟨Nat.le_trans h.1 Qd,h.2⟩
theorem oV{x y:Str}(b:jN x)(d:jN y)(h:x.length+y.length<=12):jN (x++y):=by
 refine⟨by rw[cJ];exact h,λc a=>?_⟩;have a:c∈(x.cps++y.cps).toList:=a;rw[Array.toList_append]at a;rcases List.mem_append.mp a with a|a
 ·exact b.2 c a
 ·exact d.2 c a
theorem dg{x:Str}(h:(decide (x.length<=12)&&x.cps.toList.all λc=>decide (c<16^8))=true):jN x:=by
 rw[Bool.and_eq_true]at h;exact⟨of_decide_eq_true h.1,λc a=>of_decide_eq_true (List.all_eq_true.mp h.2 c a)⟩
theorem fF{x y:Str}(a:PyData.strOk x=true)(b:PyData.strOk y=true):PyData.strOk (x++y)=true:=by
 unfold PyData.strOk at*;show(x.cps++y.cps).all _=true;rw[Array.all_append,a,b];rfl
def mL(a x:Str):Prop:=x="nowhere"\/x="X"\/x=""\/x=a++("a":Str)
section
variable{S:NS}{E:List cZ}{m:Nat}{t0 t1 nm a b x odd:Str}{H:Hp}
theorem W9.noP(h:W9 S E m t0 t1 nm){x:Str}(a:nameB x=false):x∉S.pl:=λz=>by
 rw[h.g.okP x z]at a;cases a
theorem W9.noL(h:W9 S E m t0 t1 nm){x:Str}(a:¬x.length=m):x∉S.pl:=λz=>a (h.eqP x z)
theorem W9.noT(h:W9 S E m t0 t1 nm){x:Str}(a:nameB x=false):x∉S.nms:=λz=>by
 obtain⟨r,b,rfl⟩:=List.mem_map.mp z;rw[(h.g.okT r b).1]at a;cases a
theorem W9.noE(h:W9 S E m t0 t1 nm){x:Str}(a:nameB x=false):x∉E.map (·.nm):=λz=>by
 rw[h.en]at z;rw[List.mem_singleton.mp z,h.nn]at a;cases a
theorem W9.frE(h:W9 S E m t0 t1 nm):("fresh":Str)∉E.map (·.nm):=λz=>by
 rw[h.en]at z;exact h.fE (List.mem_singleton.mp z)
theorem W9.okt(h:W9 S E m t0 t1 nm){x:Str}(b:x∈S.nms):nameB x=true:=by
 obtain⟨r,a,rfl⟩:=List.mem_map.mp b;exact(h.g.okT r a).1
theorem bv:nameB ("fresh":Str)=true:=Qk
theorem iF(h:W9 S E m t0 t1 nm)(b:a∈S.pl)(g:mL a x):x∉S.pl/\jN x/\PyData.strOk x=true/\x++("qqq":Str)∉S.pl/\jN (x++("qqq":Str))/\PyData.strOk (x++("qqq":Str))=true:=by
 have m6:=h.m6;have i:=h.eqP a b;have na:=h.g.okP a b;have e:("a":Str).length=1:=Qk;have f:("qqq":Str).length=3:=Qk;have j:jN ("a":Str):=dg Qk;have k:jN ("qqq":Str):=dg Qk;rcases g with rfl|rfl|rfl|rfl
 ·have l1:("nowhere":Str).length=7:=Qk;have l2:(("nowhere":Str)++("qqq":Str)).length=10:=Qk;exact⟨h.noL Qo,dg Qk,Qk,h.noL Qo,dg Qk,Qk⟩
 ·exact⟨h.noP Qk,dg Qk,Qk,h.noP Qk,dg Qk,Qk⟩
 ·refine⟨h.noP Qk,dg Qk,Qk,?_,dg Qk,Qk⟩;rw[show("":Str)++("qqq":Str)="qqq"by decide+kernel];exact h.q3
 ·have l1:(a++("a":Str)).length=m+1:=by rw[cJ,i,e]
  have l2:(a++("a":Str)++("qqq":Str)).length=m+4:=by rw[cJ,l1,f]
  have c:=oV (aA na) j Qo;have d:=fF (bN na) (show PyData.strOk ("a":Str)=true by decide+kernel);exact⟨h.noL Qo,c,d,h.noL Qo,oV c k Qo,fF d Qk⟩
def d1(a b x:Str):PyData:=.tuple [.str "each",.str "X",.tuple [.str "to",.str a],.tuple [.str "or",.tuple [.str "way",.str "X",.str x],.tuple [.str "way",.str "somewhere",.str b]]]
def d2(a b y:Str):PyData:=.tuple [.str "atmost",.tuple [.str "size",.tuple [.str "these",.list [.str a,.str y]]],.tuple [.str "flow",.str "qq",.str b]]
theorem jP{a:Type}{F:a->Prop}{x:a}(h1:F x):∀d∈ [x],F d:=λd hd=>by rw[List.mem_singleton.mp hd];exact h1
theorem gn{a:Type}{F:a->Prop}{x y:a}(h1:F x)(h2:F y):∀d∈ [x,y],F d:=λd hd=>by
 rcases List.mem_cons.mp hd with rfl|hd
 ·exact h1
 ·exact jP h2 d hd
theorem jO{a:Type}{F:a->Prop}{x y z:a}(h1:F x)(h2:F y)(b:F z):∀d∈ [x,y,z],F d:=λd hd=>by
 rcases List.mem_cons.mp hd with rfl|hd
 ·exact h1
 ·exact gn h2 b d hd
theorem Bx{a:Type}{F:a->Prop}{x y z u:a}(h1:F x)(h2:F y)(b:F z)(c:F u):∀d∈ [x,y,z,u],F d:=λd hd=>by
 rcases List.mem_cons.mp hd with rfl|hd
 ·exact h1
 ·exact jO h2 b c d hd
theorem f_(n:Nat)(x:Str):okD n (.str x):=by cases n<;>exact True.intro
theorem fZ{w:Str}{r:List PyData}{n:Nat}(hw:qM w=false)(a:r.length<=3)(h:∀d∈r,okD n d):okD (n+1) (.tuple (.str w::r)):=⟨a,h,λz=>by rw[hw]at z;cases z⟩
theorem sU:okD 10 (d1 a b x):=⟨by show 3<=3;decide,jO (f_ _ _) (fZ Qk (by show 1<=3;decide) (jP (f_ _ _))) (fZ Qk (by show 2<=3;decide) (gn (fZ Qk (by show 2<=3;decide) (gn (f_ _ _) (f_ _ _))) (fZ Qk (by show 2<=3;decide) (gn (f_ _ _) (f_ _ _))))),λ_=>⟨_,_,_,rfl⟩⟩
theorem Bu{y:Str}:okD 10 (d2 a b y):=fZ Qk (by show 2<=3;decide) (gn (fZ Qk (by show 1<=3;decide) (jP (fZ Qk (by show 1<=3;decide) (jP ⟨by show 2<=12;decide,gn ⟨_,rfl⟩ ⟨_,rfl⟩⟩)))) (fZ Qk (by show 2<=3;decide) (gn (f_ _ _) (f_ _ _))))
theorem eZ{r:List PyData}{n:Nat}(a:r.length<=100)(h:∀d∈r,e_ n d):e_ (n+1) (.tuple r):=⟨a,h⟩
theorem uA:e_ 10 (d1 a b x):=eZ (by show 4<=100;decide) (Bx (cX _ _) (cX _ _) (eZ (by show 2<=100;decide) (gn (cX _ _) (cX _ _))) (eZ (by show 3<=100;decide) (jO (cX _ _) (eZ (by show 3<=100;decide) (jO (cX _ _) (cX _ _) (cX _ _))) (eZ (by show 3<=100;decide) (jO (cX _ _) (cX _ _) (cX _ _))))))
theorem BT{y:Str}:e_ 10 (d2 a b y):=eZ (by show 3<=100;decide) (jO (cX _ _) (eZ (by show 2<=100;decide) (gn (cX _ _) (eZ (by show 2<=100;decide) (gn (cX _ _) ⟨by show 2<=100;decide,gn (cX _ _) (cX _ _)⟩)))) (eZ (by show 3<=100;decide) (jO (cX _ _) (cX _ _) (cX _ _))))
theorem xW:a_ 10 [] (d1 a b x)=a::((if x="X"then([]:List Str)else [x])++((if("somewhere":Str)="X"then([]:List Str)else [("somewhere":Str)])++(if b="X"then([]:List Str)else [b]))):=by
 unfold d1;rw[qO Qk,dB Qk,dB Qk];show(a_ 8 [] (.str a)++[])++(a_ 8 ([]++[("X":Str)]) (.tuple [.str "way",.str "X",.str x])++(a_ 8 ([]++[("X":Str)]) (.tuple [.str "way",.str "somewhere",.str b])++[]))=_;rw[dB Qk,dB Qk];show(a_ 8 [] (.str a)++[])++((a_ 7 [("X":Str)] (.str "X")++(a_ 7 [("X":Str)] (.str x)++[]))++((a_ 7 [("X":Str)] (.str "somewhere")++(a_ 7 [("X":Str)] (.str b)++[]))++[]))=_;simp only[dO,List.append_nil,List.mem_singleton,List.not_mem_nil,if_true,if_false,List.nil_append,List.append_assoc,List.cons_append]
theorem xV{y:Str}:a_ 10 [] (d2 a b y)=[a,y,"qq",b]:=by
 unfold d2;rw[dB Qk];show a_ 9 [] (.tuple [.str "size",.tuple [.str "these",.list [.str a,.str y]]])++(a_ 9 [] (.tuple [.str "flow",.str "qq",.str b])++[])=_;rw[dB Qk,dB Qk];show(a_ 8 [] (.tuple [.str "these",.list [.str a,.str y]])++[])++((a_ 8 [] (.str "qq")++(a_ 8 [] (.str b)++[]))++[])=_;rw[dB Qk];show((((a_ 6 [] (.str a))++(a_ 6 [] (.str y)++[]))++[])++[])++((a_ 8 [] (.str "qq")++(a_ 8 [] (.str b)++[]))++[])=_;simp only[dO,List.append_nil,List.not_mem_nil,if_false,List.nil_append,List.append_assoc,List.cons_append]
theorem Ba:¬("somewhere":Str)="X":=Qk
theorem BM(h:W9 S E m t0 t1 nm)(c:a∈S.pl)(f:mL a x):bK S.pl (a_ 10 [] (d1 a b x))=some (if x="X"then("somewhere":Str)else x):=by
 have m6:=h.m6;have d:("somewhere":Str)∉S.pl:=h.noL (by rw[show("somewhere":Str).length=9 by decide+kernel];omega);have hn:=(iF h c f).1;rw[xW,if_neg Ba];unfold bK;rw[List.find?_cons_of_neg (by simp[c])];by_cases e:x="X"
 ·rw[if_pos e,if_pos e,List.nil_append,List.singleton_append,List.find?_cons_of_pos (by simp[d])]
 ·rw[if_neg e,if_neg e,List.singleton_append,List.find?_cons_of_pos (by simp[hn])]
theorem sv(h:W9 S E m t0 t1 nm)(d:a∈S.pl)(f:b∈S.pl)(g:mL a x):∀y∈a_ 10 [] (d1 a b x),jN y:=λy c=>by
 rw[xW,if_neg Ba]at c;rcases List.mem_cons.mp c with rfl|c
 ·exact aA (h.g.okP _ d)
 rcases List.mem_append.mp c with c|c
 ·by_cases e:x="X"
  ·rw[if_pos e]at c;exact nomatch c
  ·rw[if_neg e]at c;rw[List.mem_singleton.mp c];exact(iF h d g).2.1
 rcases List.mem_append.mp c with c|c
 ·rw[List.mem_singleton.mp c];exact dg Qk
 ·by_cases e:b="X"
  ·rw[if_pos e]at c;exact nomatch c
  ·rw[if_neg e]at c;rw[List.mem_singleton.mp c];exact aA (h.g.okP _ f)
theorem BL{y:Str}(c:a∈S.pl)(d:y∉S.pl):bK S.pl (a_ 10 [] (d2 a b y))=some y:=by
 rw[xV];unfold bK;rw[List.find?_cons_of_neg (by simp[c]),List.find?_cons_of_pos (by simp[d])]
theorem Bt{y:Str}(h:W9 S E m t0 t1 nm)(c:a∈S.pl)(d:b∈S.pl)(e:jN y):∀z∈a_ 10 [] (d2 a b y),jN z:=by
 rw[xV];exact Bx (aA (h.g.okP _ c)) e (dg Qk) (aA (h.g.okP _ d))
theorem Db(h:W9 S E m t0 t1 nm)(a:odd∈gI):(BD.place odd).bad S E H (.err .noName):=⟨jh a,by rw[b8,if_pos (du _ a).1]⟩
theorem Da(h:W9 S E m t0 t1 nm)(b:a∈S.pl):(BD.place a).bad S E H (.err .twice):=by
 have na:=h.g.okP a b;exact⟨(aA na).T,by rw[b8,if_neg (by rw[na];decide),if_pos b]⟩
theorem ir{i:Int}(h1:-(10^30)<i)(h2:i<=1):me i:=by
 unfold me;by_cases h0:i.natAbs=0
 ·rw[h0];decide
 ·refine(Nat.log2_lt h0).mpr (Nat.lt_of_lt_of_le (show i.natAbs<10^30+2 by omega) Qk)
theorem C_(h:W9 S E m t0 t1 nm)(b:odd∈gI)(d:a∈S.pl):(BD.tie ⟨odd,a,a,0,1⟩).bad S E H (.err .noName):=by
 have c:=(aA (h.g.okP a d)).T;exact⟨⟨jh b,c,c,ir (i:=0) Qd Qd⟩,by rw[bE,if_pos (.inl (du _ b).1)]⟩
theorem C9(h:W9 S E m t0 t1 nm)(b:odd∈gI)(c:a∈S.pl):(BD.tie ⟨"fresh",odd,a,1,1⟩).bad S E H (.err .noName):=by
 have d:=(aA (h.g.okP a c)).T;exact⟨⟨(aA bv).T,jh b,d,ir (i:=1) Qd Qd⟩,by rw[bE,if_pos (.inr (.inl (du _ b).1))]⟩
theorem Bw{x y z:Str}(a:nameB x=true)(b:nameB y=true)(c:nameB z=true):¬(nameB x=false\/nameB y=false\/nameB z=false):=by rw[a,b,c];decide
theorem C8{i:Int}(h:W9 S E m t0 t1 nm)(c:a∈S.pl)(h1:-(10^30)<i)(h2:i<=0):(BD.tie ⟨t0,a,a,i,0⟩).bad S E H (.err .twice):=by
 have na:=h.g.okP a c;have b:=h.okt h.i0;exact⟨⟨(aA b).T,(aA na).T,(aA na).T,ir h1 (by show i<=1;omega)⟩,by rw[bE,if_neg (Bw b na na),if_pos h.i0]⟩
theorem C7{i:Int}(h:W9 S E m t0 t1 nm)(b:a∈S.pl)(h1:-(10^30)<i)(h2:i<=0):(BD.tie ⟨"fresh",a,a,i,0⟩).bad S E H (.err .same):=by
 have na:=h.g.okP a b;exact⟨⟨(aA bv).T,(aA na).T,(aA na).T,ir h1 (by show i<=1;omega)⟩,by rw[bE,if_neg (Bw bv na na),if_neg h.fT,if_pos rfl]⟩
theorem C6{i:Int}(h:W9 S E m t0 t1 nm)(e:a∈S.pl)(f:b∈S.pl)(c:¬a=b)(h1:-(10^30)<i)(h2:i<=0):(BD.tie ⟨"fresh",a,b,i,0⟩).bad S E H (.err .noWidth):=by
 have na:=h.g.okP a e;have d:=h.g.okP b f;exact⟨⟨(aA bv).T,(aA na).T,(aA d).T,ir h1 (by show i<=1;omega)⟩,by rw[bE,if_neg (Bw bv na d),if_neg h.fT,if_neg c,if_pos (by show i<1;omega)]⟩
theorem C5(h:W9 S E m t0 t1 nm):(BD.cut "fresh").bad S E H (.err .noTie):=⟨(aA bv).T,by rw[fM,if_pos h.fT]⟩
theorem C4(h:W9 S E m t0 t1 nm)(a:odd∈gI):(BD.cut odd).bad S E H (.err .noTie):=⟨jh a,by rw[fM,if_pos (h.noT (du _ a).1)]⟩
theorem C3{i:Int}(h:W9 S E m t0 t1 nm)(h1:-(10^30)<i)(h2:i<=0):(BD.alter "fresh" i 0).bad S E H (.err .noTie):=⟨(aA bv).T,ir h1 Qo,by rw[dh,if_pos h.fT]⟩
theorem B_{i:Int}(h:W9 S E m t0 t1 nm)(h1:-(10^30)<i)(h2:i<=0):(BD.alter t1 i 5).bad S E H (.err .noWidth):=⟨(aA (h.okt h.i1)).T,ir h1 Qo,by rw[dh,if_neg (λz=>z h.i1),if_pos Qo]⟩
theorem B8{v:V}(h:W9 S E m t0 t1 nm)(c:odd∈gI)(d:a∈S.pl)(e:b∈S.pl)(f:mL a x)(g:PD H 10 v (d1 a b x)):(BD.state odd v (d1 a b x)).bad S E H (.err .noName):=⟨jh c,g,sU,uA,sv h d e f,.inl ⟨(du _ c).1,rfl⟩⟩
theorem B7{v:V}(h:W9 S E m t0 t1 nm)(c:a∈S.pl)(d:b∈S.pl)(e:mL a x)(f:PD H 10 v (d1 a b x)):(BD.state nm v (d1 a b x)).bad S E H (.err .twice):=⟨(aA h.nn).T,f,sU,uA,sv h c d e,.inr ⟨h.nn,by rw[h.en];exact List.mem_singleton.mpr rfl,rfl⟩⟩
theorem B6{v:V}(h:W9 S E m t0 t1 nm)(c:a∈S.pl)(e:b∈S.pl)(d:mL a x)(f:PD H 10 v (d1 a b x)):(BD.state "fresh" v (d1 a b x)).bad S E H (.place (if x="X"then("somewhere":Str)else x)):=⟨(aA bv).T,f,sU,uA,sv h c e d,bv,h.frE,BM h c d⟩
theorem B5(h:W9 S E m t0 t1 nm):(BD.forget "fresh").bad S E H .claim:=⟨(aA bv).T,h.frE⟩
theorem B4(h:W9 S E m t0 t1 nm)(a:odd∈gI):(BD.forget odd).bad S E H .claim:=⟨jh a,h.noE (du _ a).1⟩
theorem BZ{v:V}(h:W9 S E m t0 t1 nm)(c:a∈S.pl)(d:b∈S.pl)(e:mL a x)(f:PD H 10 v (d2 a b (x++("qqq":Str)))):(BD.state "fresh" v (d2 a b (x++("qqq":Str)))).bad S E H (.place (x++("qqq":Str))):=
 let st:=iF h c e
 ⟨(aA bv).T,f,Bu,BT,Bt h c d st.2.2.2.2.1,bv,h.frE,BL c st.2.2.2.1⟩
theorem BY(h:W9 S E m t0 t1 nm):(BD.claim "fresh").bad S E H .claim:=⟨(aA bv).T,h.frE⟩
theorem BX(h:W9 S E m t0 t1 nm)(a:odd∈gI):(BD.verdict odd).bad S E H .claim:=⟨jh a,h.noE (du _ a).1⟩
theorem BV(h:W9 S E m t0 t1 nm):(BD.paper "fresh").bad S E H .claim:=⟨(aA bv).T,h.frE⟩
end
theorem oS{H:Hp}:∀{n:Nat}{v:V}{d:PyData},PD H n v d->PyData.eqv d d=true
 |0,v,d,h=>by
  cases v<;>first|exact h.elim|(cases(show d=_ from h);simp[PyData.eqv];done)|(cases h.2;simp[PyData.eqv];done)
 |n+1,v,d,h=>by
  have a:∀{xs:List V}{ds:List PyData},Paired (PD H n) xs ds->PyData.eqvAll ds ds=true:=λ{xs ds}p=>by
   induction p with
   |nil=>rfl
   |cons h _ b=>rw[PyData.eqvAll,oS h,b];rfl
  cases v<;>first|exact h.elim|(cases(show d=_ from h);simp[PyData.eqv];done)|(cases h.2;simp[PyData.eqv];done)|skip
  rcases h with⟨xs,ds,e,rfl,p⟩|⟨xs,ds,e,rfl,p⟩
  ·rw[PyData.eqv];exact a p
  ·rw[PyData.eqv];exact a p
def BB(S:NS)(e:cZ):PyData:=.tuple [.list (S.pl.map PyData.str),.list (S.ti.map Bh),.list [.str e.nm],.list [.tuple [e.cl,.bool e.so,e.pa]]]
def oB(B C:Addr):Sp:=λvs H Q _=>∃(p n ds a b:Addr)(S:NS)(e:cZ),vs=[.ref p]/\BookAt B C H p n ds a b S [e]/\GS S/\okT e.nm/\PyData.strOk e.nm=true/\e_ 10 e.cl/\e_ 10 e.pa/\∀v H',Same H H'->PD H' 13 v (BB S e)->Q v H'
theorem oU{H:Hp}{n:Nat}:∀{ws:List Str},(∀y∈ws,PyData.strOk y=true)->Paired (PD H n) (ws.map V.str) (ws.map PyData.str)
 |[],_=>.nil
 |y::ws,h=>.cons (by cases n<;>exact⟨h y List.mem_cons_self,rfl⟩) (oU λz a=>h z (List.mem_cons_of_mem _ a))
theorem oR{H:Hp}{n:Nat}:∀{L:List (b7×Addr)}{a:List b7},L.map (·.1)=a->(∀q∈L,H q.2=some (.tup q.1.tup))->(∀r∈a,nameB r.nm=true/\nameB r.a=true/\nameB r.b=true)->Paired (PD H (n+1)) (L.map λq=>V.ref q.2) (a.map Bh)
 |[],_,h,_,_=>by subst h;exact .nil
 |q::L,_,h,h2,b=>by
  subst h;obtain⟨c,d,e⟩:=b q.1 List.mem_cons_self;refine .cons (.inr ⟨_,_,h2 q List.mem_cons_self,rfl,?_⟩) (oR rfl (λz g=>h2 z (List.mem_cons_of_mem _ g)) λr f=>b r (List.mem_cons_of_mem _ f));cases n<;>exact .cons ⟨bN c,rfl⟩ (.cons ⟨bN d,rfl⟩ (.cons ⟨bN e,rfl⟩ (.cons rfl (.cons rfl .nil))))
section
variable{P:Program}{w:World}{K:PySem.W.Frag}{mg:Str->Option Value}{base:Heap}{C B cN:Addr}
abbrev Dl:List Str:=["_law_book","_law_net","_law_names","_law_told"]
theorem kD:ax Dl ["_law_book"] (af s_l_look):=⟨rfl,rfl,rfl,Qk,rfl,Qk,Qk⟩
theorem Ae{f:Addr}{fd:FuncData}(F:bZ K "_law_look" "_law_look" s_l_look f fd)(T:de K mg C)(R:lm K mg B)(mn:dN P w K mg base 4 B "net" ["self"] (rb B C))(ml:dN P w K mg base 1 B "claims" ["self"] (jY B C))(mc:ba P w K mg base 12 B "claim" ["self","name"] (dE B C cN Ap))(mv:ba P w K mg base 2 B "verdict" ["self","name"] (dE B C cN xI))(mp:ba P w K mg base 12 B "paper" ["self","name"] (dE B C cN xJ))(m1:dN P w K mg base 1 C "places" ["self"] (em C))(m2:dN P w K mg base 1 C "ties" ["self"] (iX C)):FnOk P w K mg base cY 13 f fd ["_law_book"] (oB B C):=by
 refine F.ok kD (λvs H Q E h=>?_) (λxt A outer s H vs Q E b h=>?_)
 ·obtain⟨p,n,ds,G,I,S,e,rfl,_⟩:=h;rfl
 ·obtain⟨p,n,ds,G,I,S,e,rfl,BA,g,hx,xo,c1,c2,q⟩:=h;have r1:be 1 _:=b.mono Qd;have r2:be 2 _:=b.mono Qd;have r4:be 4 _:=b.mono Qd;have xb:List.Nodup (["_law_name","_law_book"]:List Str):=Qk;refine⟨_,(ae (aF (i:=1) kD.nd rfl (Or.inl rfl) (bn (pv 0) R.cl mn r4))
   (ae (aF (i:=2) kD.nd rfl (Or.inl rfl) (bn (pv 0) R.cl ml r1))
   (ae (iI (j:=3) (N:=["_law_name","_law_book"]) (xs:=1) (js:=[0]) rfl kD.nd rfl rfl (aQ rfl) (bD (pv 2)) (λ_ _ _ _=>aO (i:=0) xb rfl (Or.inl rfl)) (λ_ _ _ _=>cF) (λ_ _ _ _=>aK (aa (bV (pv 1) R.cl mc b (aa (pv 0) ad)) (aa (bV (pv 1) R.cl mv r2 (aa (pv 0) ad)) (aa (bV (pv 1) R.cl mp b (aa (pv 0) ad)) ad)))) rfl)
   (ag (av (aK (aa (bn (pv 1) T.cl m1 r1) (aa (bn (pv 1) T.cl m2 r1) (aa (pv 2) (aa (pv 3) ad)))))))))),?_⟩
  obtain⟨dx,h1⟩:=BA.ob;refine⟨_,rfl,p,dx,_,rfl,h1,bX _ _ Qk Qk,p,n,ds,G,I,S,[e],rfl,BA,λx W U H1 s1 N1=>?_⟩;have J:=BA.same s1;have xh:=s1 _ _ h1;refine⟨_,rfl,p,dx,_,rfl,xh,bX _ _ Qk Qk,p,n,ds,G,I,S,[e],rfl,J,λl hl=>?_⟩;have z2:=Same.new (o:=.lst [.str e.nm]) hl;have el:(upd H1 l (.lst [.str e.nm])) l=some (.lst [.str e.nm]):=ac;show eV 2 (.ref l) _ (upd H1 l (.lst [.str e.nm])) _;generalize upd H1 l (.lst [.str e.nm])=H2 at z2 el;have xe:=J.same z2;have N2:=N1.same z2;refine⟨_,rfl,l,rfl,⟨_,bp.of el⟩,cP (K:=K) (ys:=[.str e.nm]) (λi acc a H'=>Same H2 H'/\Paired (PD H' 11) acc ([PyData.tuple [e.cl,.bool e.so,e.pa]].take i)/\∃o,a=[o,some (.ref p)])
   ⟨Same.refl _,.nil,none,rfl⟩ (λi acc a H' h=>?_) (by show 1<=sizeLine;decide) (λi acc a H' _ h=>bp.of (h.1 _ _ el)) (λi y acc a H' hy h=>?_) (λacc a H' h tl xp=>?_)⟩
  ·have:=Paired.length h.2.1;rw[List.length_take]at this;omega
  ·obtain⟨s3,pr,o,rfl⟩:=h;cases i with
   |succ i=>cases hy
   |zero=>
    cases hy;have d:=xe.same s3;obtain⟨m,Z⟩:=d.ob;have k:∀e'∈ [e],e_ 10 e'.cl/\e_ 10 e'.pa:=λe' xi=>by rw[List.mem_singleton.mp xi];exact⟨c1,c2⟩
    have u:e.nm∈ [e].map (·.nm):=List.mem_singleton.mpr rfl;refine⟨_,rfl,p,m,_,rfl,Z,bX _ _ Qk Qk,_,rfl,p,n,ds,G,I,S,[e],e.nm,rfl,d,hx,k,λe1 xj _ v1 H4⟨s4,xc⟩=>?_,λz=>absurd u z⟩;rw[List.mem_singleton.mp xj]at xc;have M:=d.same s4;have xa:=s4 _ _ Z;refine⟨_,rfl,p,m,_,rfl,xa,bX _ _ Qk Qk,_,rfl,p,n,ds,G,I,S,[e],e.nm,rfl,M,hx,k,λe2 xk _ v2 xr⟨xq,ev⟩=>?_,λz=>absurd u z⟩;subst xq ev;rw[List.mem_singleton.mp xk];refine⟨_,rfl,p,m,_,rfl,xa,bX _ _ Qk Qk,_,rfl,p,n,ds,G,I,S,[e],e.nm,rfl,M,hx,k,λe3 xl _ v3 H5⟨s5,xd⟩=>?_,λz=>absurd u z⟩;rw[List.mem_singleton.mp xl]at xd;refine⟨(by show 3<=sizeLine;decide),λt ht=>?_⟩;have z6:=Same.new (o:=.tup [v1,.bl e.so,v3]) ht;cases pr;exact⟨((s3.trans s4).trans s5).trans z6,.cons (.inr ⟨_,_,ac,rfl,.cons ((xc.same s5).same z6) (.cons rfl (.cons (xd.same z6) .nil))⟩) .nil,_,rfl⟩
  ·obtain⟨s3,pr,o,rfl⟩:=h;have pr:Paired (PD H' 11) acc [PyData.tuple [e.cl,.bool e.so,e.pa]]:=pr;have z4:=Same.new (o:=.lst acc) xp;have Y:(upd H' tl (.lst acc)) tl=some (.lst acc):=ac;generalize upd H' tl (.lst acc)=H4 at z4 Y;have v:=s3.trans z4;have N4:=N2.same v;obtain⟨dn,hn⟩:=N4.ob;refine⟨_,rfl,x,dn,_,rfl,hn,bL _ _ Qk Qk,x,W,U,S,rfl,N4,λpl xn=>?_⟩;have z5:=Same.new (o:=.lst (S.pl.map V.str)) xn;have X:(upd H4 pl (.lst (S.pl.map V.str))) pl=some (.lst (S.pl.map V.str)):=ac;generalize upd H4 pl (.lst (S.pl.map V.str))=H5 at z5 X;have N5:=N4.same z5;obtain⟨xf,xm⟩:=N5.ob;refine⟨_,rfl,x,xf,_,rfl,xm,bL _ _ Qk Qk,x,W,U,S,rfl,N5,λti H6 L xu s6 RL xg=>?_⟩;refine⟨_,rfl,_,rfl,(by show 4<=sizeLine;decide),λt ht=>?_⟩;have z7:=Same.new (o:=.tup [.ref pl,.ref ti,.ref l,.ref tl]) ht;have D:=s6.trans z7;have c:=z5.trans D;refine q (.ref t) _ ((s1.trans z2).trans (v.trans c)) (.inr ⟨_,_,ac,rfl,?_⟩);have O:Rows (upd H6 t (.tup [.ref pl,.ref ti,.ref l,.ref tl])) L S.ti:=RL.same D;refine .cons (.inl ⟨_,_,D _ _ X,rfl,oU λy hy=>bN (g.okP y hy)⟩) (.cons (.inl ⟨_,_,z7 _ _ xg,rfl,oR O.1 O.2 λr b=>⟨(g.okT r b).1,g.okP _ (g.okT r b).2.1,g.okP _ (g.okT r b).2.2⟩⟩) (.cons (.inl ⟨_,_,(v.trans c) _ _ el,rfl,.cons ⟨xo,rfl⟩ .nil⟩) (.cons (.inl ⟨_,_,c _ _ Y,rfl,L2.Paired.mapP pr λ_ _ h=>(h.same z4).same c⟩) .nil)))
end
theorem BD.bad.same{S:NS}{E:List cZ}{H H':Hp}(s:Same H H'):∀{D:BD}{a:Rf},D.bad S E H a->D.bad S E H' a
 |.state _ _ _,.err _,h=>⟨h.1,PD.same s h.2.1,h.2.2⟩
 |.state _ _ _,.claim,h=>⟨h.1,PD.same s h.2.1,h.2.2⟩
 |.state _ _ _,.place _,h=>⟨h.1,PD.same s h.2.1,h.2.2⟩
 |.place _,.err _,h=>h
 |.tie _,.err _,h=>h
 |.cut _,.err _,h=>h
 |.alter _ _ _,.err _,h=>h
 |.forget _,.claim,h=>h
 |.claim _,.claim,h=>h
 |.verdict _,.claim,h=>h
 |.paper _,.claim,h=>h
def WL(a:Rf):Prop:=a.word.length<=1000/\PyData.strOk a.word=true
def Gd(S:NS)(E:List cZ)(H:Hp)(v:V):Prop:=∃(t:Addr)(D:BD)(a:Rf),v=.ref t/\H t=some (.tup (D.tup++[.str a.word]))/\D.bad S E H a/\WL a
theorem Gd.same{S:NS}{E:List cZ}{H H':Hp}{v:V}(s:Same H H')(h:Gd S E H v):Gd S E H' v:=let⟨t,D,e,a,b,c,d⟩:=h;⟨t,D,e,a,s _ _ b,c.same s,d⟩
def Gs(S:NS)(E:List cZ)(H:Hp)(l:Addr)(n:Nat):Prop:=∃xs,H l=some (.lst xs)/\xs.length=n/\∀v∈xs,Gd S E H v
theorem Bp{p0 p1 p2:Str}(nd:[p0,p1,p2].Nodup)(k:Int):∃a b,a∈ [p0,p1,p2]/\b∈ [p0,p1,p2]/\¬a=b/\ko [V.str p0,.str p1,.str p2] (k%3)=some (V.str a)/\ko [V.str p0,.str p1,.str p2] ((k+1)%3)=some (V.str b):=by
 have c:¬p0=p1:=λz=>by simp[z]at nd
 have d:¬p0=p2:=λz=>by simp[z]at nd
 have e:¬p1=p2:=λz=>by simp[z]at nd
 rcases(by omega:k%3=0\/k%3=1\/k%3=2)with h|h|h
 ·exact⟨p0,p1,Qs,Qs,c,by rw[h];exact bU (j:=0) rfl,by rw[show(k+1)%3=1 by omega];exact bU (j:=1) rfl⟩
 ·exact⟨p1,p2,Qs,Qs,e,by rw[h];exact bU (j:=1) rfl,by rw[show(k+1)%3=2 by omega];exact bU (j:=2) rfl⟩
 ·exact⟨p2,p0,Qs,Qs,λz=>d z.symm,by rw[h];exact bU (j:=2) rfl,by rw[show(k+1)%3=0 by omega];exact bU (j:=0) rfl⟩
theorem Bn(a:Str)(k:Int):∃x,mL a x/\ko [V.str "nowhere",.str "X",.str "",.str (a++("a":Str))] (k%4)=some (V.str x):=by
 rcases(by omega:k%4=0\/k%4=1\/k%4=2\/k%4=3)with h|h|h|h
 ·exact⟨_,.inl rfl,by rw[h];exact bU (j:=0) rfl⟩
 ·exact⟨_,.inr (.inl rfl),by rw[h];exact bU (j:=1) rfl⟩
 ·exact⟨_,.inr (.inr (.inl rfl)),by rw[h];exact bU (j:=2) rfl⟩
 ·exact⟨_,.inr (.inr (.inr rfl)),by rw[h];exact bU (j:=3) rfl⟩
def ow:Sp:=λvs H Q _=>∃(c:Int)(pa ta:Addr)(nm:Str)(S:NS)(E:List cZ)(m:Nat)(p0 p1 p2 t0 t1:Str),vs=[.int c,.ref pa,.ref ta,.str nm]/\W9 S E m t0 t1 nm/\S.pl=[p0,p1,p2]/\H pa=some (.lst [.str p0,.str p1,.str p2])/\H ta=some (.lst [.str t0,.str t1])/\
 ∀(t:Addr)(D:BD)(a:Rf)(H':Hp),Same H H'->H' t=some (.tup (D.tup++[.str a.word]))->D.bad S E H' a->WL a->Q (.ref t) H'
theorem aS{X:Cx}{c:Const}{k:Nat}{pos:Pos}{es:List Expr}{te:TE}{t:TA}(a:PE X (.Constant c k pos) te)(b:PA X es t):PA X (.Constant c k pos::es) (dC te t):=aa a b
theorem cW{X:Cx}{xs:List Expr}{k:Nat}{pos:Pos}{es:List Expr}{te:TE}{t:TA}(a:PE X (.Tuple xs k pos) te)(b:PA X es t):PA X (.Tuple xs k pos::es) (dC te t):=aa a b
theorem CO{X:Cx}{xs:List Expr}{pos:Pos}{es:List Expr}{te:TE}{t:TA}(a:PE X (.List xs pos) te)(b:PA X es t):PA X (.List xs pos::es) (dC te t):=aa a b
theorem aP{X:Cx}{x:Str}{pos:Pos}{es:List Expr}{te:TE}{t:TA}(a:PE X (.Name x pos) te)(b:PA X es t):PA X (.Name x pos::es) (dC te t):=aa a b
theorem sr{X:Cx}{a i:Expr}{pos:Pos}{es:List Expr}{te:TE}{t:TA}(b:PE X (.Subscript a i pos) te)(c:PA X es t):PA X (.Subscript a i pos::es) (dC te t):=aa b c
theorem nG{X:Cx}{a b:Expr}{c}{pos:Pos}{es:List Expr}{te:TE}{t:TA}(d:PE X (.BinOp a c b pos) te)(e:PA X es t):PA X (.BinOp a c b pos::es) (dC te t):=aa d e
def AQ(t:TE)(σ:St)(H:Hp)(v:V):Prop:=∀Q:VK,Q v H->t σ H Q
def Cm(t:TA)(σ:St)(H:Hp)(vs:List V):Prop:=∀Q:List V->Hp->Prop,Q vs H->t σ H Q
section
variable{σ:St}{H:Hp}{te tb:TE}{ta t1 t2 t3:TA}{v:V}{vs:List V}{S:NS}{E:List cZ}
theorem b_:Cm gg σ H []:=λ_ q=>q
theorem am(h:AQ te σ H v)(a:Cm ta σ H vs):Cm (dC te ta) σ H (v::vs):=λ_ q=>h _ (a _ q)
theorem bt:AQ (tC v) σ H v:=λ_ q=>q
theorem cV{i:Nat}(h:σ[i]?=some (some v)):AQ (uN i) σ H v:=λ_ q=>⟨v,h,q⟩
theorem yE{K:PySem.W.Frag}{p:Addr}{xs:List V}{i:Int}(h1:AQ te σ H (.ref p))(h2:AQ tb σ H (.int i))(a:bp K H p xs)(e:ko xs i=some v):AQ (AN (Bj K) te tb) σ H v:=λ_ q=>h1 _ (h2 _ ⟨p,xs,i,v,rfl,rfl,a,e,q⟩)
def xR(ta:TA)(σ:St)(b:Hp)(S:NS)(E:List cZ):Prop:=∀H,Same b H->∃(D:BD)(a:Rf),Cm ta σ H (D.tup++[.str a.word])/\D.bad S E H a/\WL a
theorem yX(D:BD):D.tup.length<=6:=by cases D<;>simp[BD.tup]
theorem xR.same{H':Hp}(s:Same H H')(g:xR ta σ H S E):xR ta σ H' S E:=λH1 a=>g H1 (s.trans a)
theorem jp{Q:VK}(g:xR ta σ H S E)(k:∀u H',Same H H'->Gd S E H' (.ref u)->Q (.ref u) H'):mS ta σ H Q:=by
 obtain⟨D,a,p,b,l⟩:=g H (Same.refl _);refine p _ ⟨Nat.le_trans (show _<=7 by rw[List.length_append];exact Nat.succ_le_succ (yX D)) Qd,λu c=>?_⟩;have s:=Same.new (o:=.tup (D.tup++[.str a.word])) c;exact k u _ s ⟨u,D,a,rfl,ac,b.same s,l⟩
theorem BJ{Q:VK}(d:xR t1 σ H S E)(e:xR t2 σ H S E)(k:∀l a xs,Same H a->a l=none->xs.length=2->(∀v∈xs,Gd S E a v)->Q (.ref l) (upd a l (.lst xs))):qT (dC (mS t1) (dC (mS t2) gg)) σ H Q:=by
 unfold qT dC gg;exact jp d λg H1 b d1=>jp (e.same b) λh H2 c d2=>⟨by show 2<=sizeLine;decide,λl f=>k l H2 _ (b.trans c) f rfl (gn (d1.same c) d2)⟩
theorem tP{Q:VK}(g:xR t1 σ H S E)(h:xR t2 σ H S E)(i:xR t3 σ H S E)(k:∀l a xs,Same H a->a l=none->xs.length=3->(∀v∈xs,Gd S E a v)->Q (.ref l) (upd a l (.lst xs))):qT (dC (mS t1) (dC (mS t2) (dC (mS t3) gg))) σ H Q:=by
 unfold qT dC gg;exact jp g λm H1 b d1=>jp (h.same b) λn H2 c d2=>jp (i.same (b.trans c)) λo e d f=>⟨by show 3<=sizeLine;decide,λl j=>k l e _ ((b.trans c).trans d) j rfl (jO (d1.same (c.trans d)) (d2.same d) f)⟩
theorem ig{Q:VK}{tl:TE}{i m n:Nat}{l0:Addr}(h:σ[i]?=some (some (.ref l0)))(g:Gs S E H l0 n)(hn:n+m<=100)
  (gd:∀Q:VK,(∀l a xs,Same H a->a l=none->xs.length=m->(∀v∈xs,Gd S E a v)->Q (.ref l) (upd a l (.lst xs)))->tl σ H Q)
  (k:∀l a xs,Same H a->a l=none->xs.length=n+m->(∀v∈xs,Gd S E a v)->Q (.ref l) (upd a l (.lst xs))):AN Bl (uN i) tl σ H Q:=by
 refine⟨_,h,gd _ λl a ys s e b d=>?_⟩;obtain⟨xs,ex,nx,c⟩:=g;have z:=Same.new (o:=.lst ys) e;refine⟨l0,l,xs,ys,rfl,rfl,z _ _ (s _ _ ex),ac,Nat.le_trans (by rw[nx,b];exact hn) Qd,λp f=>?_⟩;exact k p _ _ (s.trans z) f (by rw[List.length_append,nx,b]) λv j=>(List.mem_append.mp j).elim (λq=>(c v q).same (s.trans z)) λq=>(d v q).same z
theorem ie{a:Hp}{l:Addr}{xs:List V}{n:Nat}(b:a l=none)(e:xs.length=n)(g:∀v∈xs,Gd S E a v):Gs S E (upd a l (.lst xs)) l n:=⟨xs,ac,e,λv c=>(g v c).same (Same.new b)⟩
end
abbrev AE:List Str:=["_law_cell","_law_places","_law_ties","_law_name","_law_odd","_law_a","_law_b","_law_less","_law_strange","_law_claim","_law_first","_law_some","_law_far"]
theorem Bo{xs:List Str}(h:xs≠ [])(m:Int):∃x∈xs,ko (xs.map V.str) (m%(((xs.map V.str).length:Nat):Int))=some (V.str x):=by
 have d:0<(xs.map V.str).length:=by rw[List.length_map];exact List.length_pos_iff.mpr h
 have h1:=Int.emod_nonneg m (b:=((xs.map V.str).length:Int)) Qo;have h2:=Int.emod_lt_of_pos m (b:=((xs.map V.str).length:Int)) Qo;obtain⟨j,a⟩:∃j:Nat,m%((xs.map V.str).length:Int)=(j:Int):=⟨(m%((xs.map V.str).length:Int)).toNat,Qo⟩;rw[List.length_map]at d h2;have c:j<xs.length:=by rw[List.length_map]at a;omega
 refine⟨xs[j],List.getElem_mem c,?_⟩;rw[a];exact bU (by rw[List.getElem?_map,List.getElem?_eq_getElem c];rfl)
section
variable{P:Program}{w:World}{K:PySem.W.Frag}{mg:Str->Option Value}{base:Heap}{C:Addr}
theorem bJ:ax AE ["_law_cell","_law_places","_law_ties","_law_name"] (af s_l_wrong):=⟨rfl,rfl,rfl,Qk,rfl,Qk,Qk⟩
def RW(c d:Int)(pa ta:Addr)(nm odd a b x:Str)(ct:Addr)(S:NS)(E:List cZ)(H:Hp)(n:Nat):St->Hp->Prop:=λe H'=>
 ∃l,e=[some (.int c),some (.ref pa),some (.ref ta),some (.str nm),some (.str odd),some (.str a),some (.str b),some (.int d),some (.str x),some (.ref ct),some (.str (if x="X"then("somewhere":Str)else x)),some (.ref l),none]/\Same H H'/\PD H' 10 (.ref ct) (d1 a b x)/\Gs S E H' l n
theorem sE{f:Addr}{fd:FuncData}(F:bZ K "_law_wrong" "_law_wrong" s_l_wrong f fd)(T:de K mg C):FnOk P w K mg base cY 1 f fd ["_law_cell","_law_places","_law_ties","_law_name"] ow:=by
 refine F.ok bJ (λvs H Q E h=>?_) (λxn A outer s H vs Q EX hr h=>?_)
 ·obtain⟨c,pa,ta,nm,S,E,m,p0,p1,p2,t0,t1,rfl,_⟩:=h;rfl
 ·obtain⟨c,pa,ta,nm,S,E,m,p0,p1,p2,t0,t1,rfl,h,xa,xf,xg,q⟩:=h;refine⟨_,(ae (aF (i:=4) bJ.nd rfl (Or.inl rfl) (ay bF (@aR _ _ _ _ (@aS _ _ _ _ _ _ _ aj (@aS _ _ _ _ _ _ _ aj (@aS _ _ _ _ _ _ _ aj (@aS _ _ _ _ _ _ _ aj (@aS _ _ _ _ _ _ _ aj (@aS _ _ _ _ _ _ _ aj (@aS _ _ _ _ _ _ _ aj ad)))))))) (aU d8 (aU dU (pv 0) ak) ak) (λ_ _=>Qr)))
   (ae (aF (i:=5) bJ.nd rfl (Or.inl rfl) (ay bF (pv 1) (aU d8 (aU dU (pv 0) ak) ak) (λ_ _=>Qr)))
   (ae (aF (i:=6) bJ.nd rfl (Or.inl rfl) (ay bF (pv 1) (aU d8 (aU ft (aU dU (pv 0) ak) ak) ak) (λ_ _=>Qr)))
   (ae (aF (i:=7) bJ.nd rfl (Or.inl rfl) (aU zZ ak (aU d8 (aU dU (pv 0) ak) (aU z_ ak ak))))
   (ae (aF (i:=8) bJ.nd rfl (Or.inl rfl) (ay bF (@aR _ _ _ _ (@aS _ _ _ _ _ _ _ aj (@aS _ _ _ _ _ _ _ aj (@aS _ _ _ _ _ _ _ aj (@nG _ _ _ _ _ _ _ _ (aU bT (pv 5) aj) ad))))) (aU d8 (aU dU (pv 0) ak) ak) (λ_ _=>Qr)))
   (ae (aF (i:=9) bJ.nd rfl (Or.inl rfl) (@aK _ _ _ _ _ (@aS _ _ _ _ _ _ _ aj (@aS _ _ _ _ _ _ _ aj (@cW _ _ _ _ _ _ _ (@aK _ _ _ _ _ (@aS _ _ _ _ _ _ _ aj (@aP _ _ _ _ _ _ (pv 5) ad))) (@cW _ _ _ _ _ _ _ (@aK _ _ _ _ _ (@aS _ _ _ _ _ _ _ aj (@cW _ _ _ _ _ _ _ (@aK _ _ _ _ _ (@aS _ _ _ _ _ _ _ aj (@aS _ _ _ _ _ _ _ aj (@aP _ _ _ _ _ _ (pv 8) ad)))) (@cW _ _ _ _ _ _ _ (@aK _ _ _ _ _ (@aS _ _ _ _ _ _ _ aj (@aS _ _ _ _ _ _ _ aj (@aP _ _ _ _ _ _ (pv 6) ad)))) ad)))) ad))))))
   (@bQ _ _ _ _ _ (aF (i:=10) bJ.nd rfl (Or.inl rfl) (ay bF (@aR _ _ _ _ (@aP _ _ _ _ _ _ (pv 8) (@aS _ _ _ _ _ _ _ aj ad))) (b6 qJ Qr T.int yS (aa (dR bS (pv 8) aj (aM _)) ad)) (λ_ _=>Qr)))
   (@bQ _ _ _ _ _ (aF (i:=11) bJ.nd rfl (Or.inl rfl) ((@aR _ _ _ _ (@cW _ _ _ _ _ _ _ (@aK _ _ _ _ _ (@aS _ _ _ _ _ _ _ aj (@aP _ _ _ _ _ _ (pv 4) (@aS _ _ _ _ _ _ _ aj ad)))) (@cW _ _ _ _ _ _ _ (@aK _ _ _ _ _ (@aS _ _ _ _ _ _ _ aj (@aP _ _ _ _ _ _ (pv 5) (@aS _ _ _ _ _ _ _ aj ad)))) (@cW _ _ _ _ _ _ _ (@aK _ _ _ _ _ (@aS _ _ _ _ _ _ _ aj (@aP _ _ _ _ _ _ (pv 4) (@aP _ _ _ _ _ _ (pv 5) (@aP _ _ _ _ _ _ (pv 5) (@aS _ _ _ _ _ _ _ ak (@aS _ _ _ _ _ _ _ ak (@aS _ _ _ _ _ _ _ aj ad)))))))) ad))))))
   (@bQ _ _ _ _ _ (aF (i:=11) bJ.nd rfl (Or.inl rfl) (aU dm (pv 11) ((@aR _ _ _ _ (@cW _ _ _ _ _ _ _ (@aK _ _ _ _ _ (@aS _ _ _ _ _ _ _ aj (@aS _ _ _ _ _ _ _ aj (@aP _ _ _ _ _ _ (pv 4) (@aP _ _ _ _ _ _ (pv 5) (@aS _ _ _ _ _ _ _ ak (@aS _ _ _ _ _ _ _ ak (@aS _ _ _ _ _ _ _ aj ad)))))))) (@cW _ _ _ _ _ _ _ (@aK _ _ _ _ _ (@aS _ _ _ _ _ _ _ aj (@sr _ _ _ _ _ _ _ (ay bF (pv 2) ak (λ_ _=>Qr)) (@aP _ _ _ _ _ _ (pv 5) (@aP _ _ _ _ _ _ (pv 5) (@aP _ _ _ _ _ _ (pv 7) (@aS _ _ _ _ _ _ _ ak (@aS _ _ _ _ _ _ _ aj ad)))))))) ad))))))
   (@bQ _ _ _ _ _ (aF (i:=11) bJ.nd rfl (Or.inl rfl) (aU dm (pv 11) ((@aR _ _ _ _ (@cW _ _ _ _ _ _ _ (@aK _ _ _ _ _ (@aS _ _ _ _ _ _ _ aj (@aS _ _ _ _ _ _ _ aj (@aP _ _ _ _ _ _ (pv 5) (@aP _ _ _ _ _ _ (pv 5) (@aP _ _ _ _ _ _ (pv 7) (@aS _ _ _ _ _ _ _ ak (@aS _ _ _ _ _ _ _ aj ad)))))))) (@cW _ _ _ _ _ _ _ (@aK _ _ _ _ _ (@aS _ _ _ _ _ _ _ aj (@aS _ _ _ _ _ _ _ aj (@aP _ _ _ _ _ _ (pv 5) (@aP _ _ _ _ _ _ (pv 6) (@aP _ _ _ _ _ _ (pv 7) (@aS _ _ _ _ _ _ _ ak (@aS _ _ _ _ _ _ _ aj ad)))))))) ad))))))
   (@bQ _ _ _ _ _ (aF (i:=11) bJ.nd rfl (Or.inl rfl) (aU dm (pv 11) ((@aR _ _ _ _ (@cW _ _ _ _ _ _ _ (@aK _ _ _ _ _ (@aS _ _ _ _ _ _ _ aj (@aS _ _ _ _ _ _ _ aj (@aS _ _ _ _ _ _ _ aj ad)))) (@cW _ _ _ _ _ _ _ (@aK _ _ _ _ _ (@aS _ _ _ _ _ _ _ aj (@aP _ _ _ _ _ _ (pv 4) (@aS _ _ _ _ _ _ _ aj ad)))) (@cW _ _ _ _ _ _ _ (@aK _ _ _ _ _ (@aS _ _ _ _ _ _ _ aj (@aS _ _ _ _ _ _ _ aj (@aP _ _ _ _ _ _ (pv 7) (@aS _ _ _ _ _ _ _ ak (@aS _ _ _ _ _ _ _ aj ad)))))) ad)))))))
   (@bQ _ _ _ _ _ (aF (i:=11) bJ.nd rfl (Or.inl rfl) (aU dm (pv 11) ((@aR _ _ _ _ (@cW _ _ _ _ _ _ _ (@aK _ _ _ _ _ (@aS _ _ _ _ _ _ _ aj (@sr _ _ _ _ _ _ _ (ay bF (pv 2) ak (λ_ _=>Qr)) (@aP _ _ _ _ _ _ (pv 7) (@aS _ _ _ _ _ _ _ ak (@aS _ _ _ _ _ _ _ aj ad)))))) (@cW _ _ _ _ _ _ _ (@aK _ _ _ _ _ (@aS _ _ _ _ _ _ _ aj (@aP _ _ _ _ _ _ (pv 4) (@aP _ _ _ _ _ _ (pv 9) (@aS _ _ _ _ _ _ _ aj ad))))) (@cW _ _ _ _ _ _ _ (@aK _ _ _ _ _ (@aS _ _ _ _ _ _ _ aj (@aP _ _ _ _ _ _ (pv 3) (@aP _ _ _ _ _ _ (pv 9) (@aS _ _ _ _ _ _ _ aj ad))))) ad)))))))
   (@bQ _ _ _ _ _ (aF (i:=11) bJ.nd rfl (Or.inl rfl) (aU dm (pv 11) ((@aR _ _ _ _ (@cW _ _ _ _ _ _ _ (@aK _ _ _ _ _ (@aS _ _ _ _ _ _ _ aj (@aS _ _ _ _ _ _ _ aj (@aP _ _ _ _ _ _ (pv 9) (@nG _ _ _ _ _ _ _ _ (aU bT aj (pv 10)) ad))))) (@cW _ _ _ _ _ _ _ (@aK _ _ _ _ _ (@aS _ _ _ _ _ _ _ aj (@aS _ _ _ _ _ _ _ aj (@aS _ _ _ _ _ _ _ aj ad)))) (@cW _ _ _ _ _ _ _ (@aK _ _ _ _ _ (@aS _ _ _ _ _ _ _ aj (@aP _ _ _ _ _ _ (pv 4) (@aS _ _ _ _ _ _ _ aj ad)))) ad)))))))
   (ae (aF (i:=12) bJ.nd rfl (Or.inl rfl) (aU bT (pv 8) aj))
   (@bQ _ _ _ _ _ (aG (dH PySem.F.plainAttrs_list PySem.F.slot_list_append PySem.F.type_list_append bW (pv 11) (@cW _ _ _ _ _ _ _ (@aK _ _ _ _ _ (@aS _ _ _ _ _ _ _ aj (@aS _ _ _ _ _ _ _ aj (@cW _ _ _ _ _ _ _ (@aK _ _ _ _ _ (@aS _ _ _ _ _ _ _ aj (@cW _ _ _ _ _ _ _ (@aK _ _ _ _ _ (@aS _ _ _ _ _ _ _ aj (@cW _ _ _ _ _ _ _ (@aK _ _ _ _ _ (@aS _ _ _ _ _ _ _ aj (@CO _ _ _ _ _ _ (@aR _ _ _ _ (@aP _ _ _ _ _ _ (pv 5) (@aP _ _ _ _ _ _ (pv 12) ad))) ad))) ad))) (@cW _ _ _ _ _ _ _ (@aK _ _ _ _ _ (@aS _ _ _ _ _ _ _ aj (@aS _ _ _ _ _ _ _ aj (@aP _ _ _ _ _ _ (pv 6) ad)))) ad)))) (@nG _ _ _ _ _ _ _ _ (aU bT aj (pv 12)) ad))))) ad)))
   (@bQ _ _ _ _ _ (aF (i:=11) bJ.nd rfl (Or.inl rfl) (aU dm (pv 11) ((@aR _ _ _ _ (@cW _ _ _ _ _ _ _ (@aK _ _ _ _ _ (@aS _ _ _ _ _ _ _ aj (@aS _ _ _ _ _ _ _ aj (@aS _ _ _ _ _ _ _ aj ad)))) (@cW _ _ _ _ _ _ _ (@aK _ _ _ _ _ (@aS _ _ _ _ _ _ _ aj (@aP _ _ _ _ _ _ (pv 4) (@aS _ _ _ _ _ _ _ aj ad)))) (@cW _ _ _ _ _ _ _ (@aK _ _ _ _ _ (@aS _ _ _ _ _ _ _ aj (@aS _ _ _ _ _ _ _ aj (@aS _ _ _ _ _ _ _ aj ad)))) ad)))))))
   (ag (av (ay bF (pv 11) (aU d8 (pv 0) ak) (λ_ _=>Qr)))))))))))))))))))),?_⟩
  obtain⟨odd,R,eo⟩:=Bo (xs:=gI) Qd (c/20);obtain⟨a,b,L,O,xk,ea,eb⟩:=Bp (by rw[<-xa];exact h.g.ndP) (c/20);rw[<-xa]at L O;obtain⟨x,hx,ex⟩:=Bn a (c/140);have U:=iF h L hx;have na:=h.g.okP a L;have la:=(aA na).1;have ob:=bN (h.g.okP b O);refine⟨(by show 7<=sizeLine;decide),λo1 xc=>⟨_,rfl,_,_,rfl,rfl,⟨Qd,Qd⟩,_,_,rfl,rfl,(by show(0:Int)<7;decide),o1,gI.map V.str,_,.str odd,rfl,rfl,bp.of ac,eo,?_⟩⟩;have s1:=Same.new (o:=.lst (gI.map V.str)) xc;show eV 4 (.str odd) _ (upd H o1 (.lst (gI.map V.str))) _;generalize upd H o1 (.lst (gI.map V.str))=H1 at s1;refine⟨_,rfl,_,rfl,_,_,rfl,rfl,⟨Qd,Qd⟩,_,_,rfl,rfl,(by show(0:Int)<3;decide),pa,_,_,.str a,rfl,rfl,bp.of (s1 _ _ xf),ea,?_⟩;refine⟨_,rfl,_,rfl,_,_,rfl,rfl,⟨Qd,Qd⟩,_,_,rfl,rfl,_,_,rfl,rfl,(by show(0:Int)<3;decide),pa,_,_,.str b,rfl,rfl,bp.of (s1 _ _ xf),eb,?_⟩;refine⟨_,rfl,_,_,rfl,rfl,⟨Qd,Qd⟩,_,_,rfl,rfl,⟨Qd,Qd,Qd⟩,_,_,rfl,rfl,(by show(0:Int)<10^30;decide),_,_,rfl,rfl,?_⟩;have l1:-(10^30)<0-c/20%10^30:=Qo;have l2:0-c/20%10^30<=0:=Qo;show eV 7 (.int (0-c/20%10^30)) _ H1 _;generalize 0-c/20%10^30=less at l1 l2;refine⟨_,rfl,_,_,rfl,rfl,Nat.le_trans (show _<=13 by rw[show("a":Str).length=1 by decide+kernel];omega) Qd,(by show 4<=sizeLine;decide),λo2 xd=>⟨_,rfl,_,_,rfl,rfl,⟨Qd,Qd⟩,_,_,rfl,rfl,(by show(0:Int)<4;decide),o2,_,_,.str x,rfl,rfl,bp.of ac,ex,?_⟩⟩;have s2:=s1.upd (o:=.lst [.str "nowhere",.str "X",.str "",.str (a++("a":Str))]) xd;show eV 8 (.str x) _ (upd H1 o2 (.lst [.str "nowhere",.str "X",.str "",.str (a++("a":Str))])) _;generalize upd H1 o2 (.lst [.str "nowhere",.str "X",.str "",.str (a++("a":Str))])=H2 at s2;refine⟨_,rfl,(by show 2<=sizeLine;decide),λG k1=>⟨_,rfl,(by show 3<=sizeLine;decide),λn k2=>⟨_,rfl,(by show 3<=sizeLine;decide),λp k3=>⟨(by show 3<=sizeLine;decide),λI k4=>⟨(by show 4<=sizeLine;decide),λct k5=>?_⟩⟩⟩⟩⟩;obtain⟨H3,Z,s3,J⟩:∃H3,upd (upd (upd (upd (upd H2 G (.tup [.str "to",.str a])) n (.tup [.str "way",.str "X",.str x])) p (.tup [.str "way",.str "somewhere",.str b])) I (.tup [.str "or",.ref n,.ref p])) ct (.tup [.str "each",.str "X",.ref G,.ref I])=H3/\Same H H3/\PD H3 10 (.ref ct) (d1 a b x):=by
   have z1:=Same.new (o:=.tup [.str "to",.str a]) k1;have e1:(upd H2 G (.tup [.str "to",.str a])) G=some (.tup [.str "to",.str a]):=ac;generalize upd H2 G (.tup [.str "to",.str a])=G1 at*;have z2:=Same.new (o:=.tup [.str "way",.str "X",.str x]) k2;have e2:(upd G1 n (.tup [.str "way",.str "X",.str x])) n=some (.tup [.str "way",.str "X",.str x]):=ac;generalize upd G1 n (.tup [.str "way",.str "X",.str x])=G2 at*;have W:=Same.new (o:=.tup [.str "way",.str "somewhere",.str b]) k3;have e3:(upd G2 p (.tup [.str "way",.str "somewhere",.str b])) p=some (.tup [.str "way",.str "somewhere",.str b]):=ac;generalize upd G2 p (.tup [.str "way",.str "somewhere",.str b])=G3 at*;have X:=Same.new (o:=.tup [.str "or",.ref n,.ref p]) k4;have e4:(upd G3 I (.tup [.str "or",.ref n,.ref p])) I=some (.tup [.str "or",.ref n,.ref p]):=ac;generalize upd G3 I (.tup [.str "or",.ref n,.ref p])=G4 at*;have Y:=Same.new (o:=.tup [.str "each",.str "X",.ref G,.ref I]) k5;have xj:=X.trans Y;have xi:=W.trans xj;have xh:=z2.trans xi;refine⟨_,rfl,s2.trans (z1.trans xh),.inr ⟨_,_,ac,rfl,.cons ⟨Qk,rfl⟩ (.cons ⟨Qk,rfl⟩ (.cons (.inr ⟨_,_,xh _ _ e1,rfl,.cons ⟨Qk,rfl⟩ (.cons ⟨bN na,rfl⟩ .nil)⟩) (.cons (.inr ⟨_,_,Y _ _ e4,rfl,.cons ⟨Qk,rfl⟩ (.cons (.inr ⟨_,_,xi _ _ e2,rfl,.cons ⟨Qk,rfl⟩ (.cons ⟨Qk,rfl⟩ (.cons ⟨U.2.2.1,rfl⟩ .nil))⟩) (.cons (.inr ⟨_,_,xj _ _ e3,rfl,.cons ⟨Qk,rfl⟩ (.cons ⟨Qk,rfl⟩ (.cons ⟨ob,rfl⟩ .nil))⟩) .nil))⟩) .nil)))⟩⟩
  show eV 9 (.ref ct) _ (upd (upd (upd (upd (upd H2 G (.tup [.str "to",.str a])) n (.tup [.str "way",.str "X",.str x])) p (.tup [.str "way",.str "somewhere",.str b])) I (.tup [.str "or",.ref n,.ref p])) ct (.tup [.str "each",.str "X",.ref G,.ref I])) _;rw[Z];clear Z k1 k2 k3 k4 k5 eo ea eb ex s1 s2 xc xd;refine⟨λd H'=>d=[some (.int c),some (.ref pa),some (.ref ta),some (.str nm),some (.str odd),some (.str a),some (.str b),some (.int less),some (.str x),some (.ref ct),some (.str (if x="X"then("somewhere":Str)else x)),none,none]/\Same H H'/\PD H' 10 (.ref ct) (d1 a b x),⟨_,rfl,(by show 2<=sizeLine;decide),λo3 xe=>⟨_,rfl,rfl,.inr ⟨_,rfl,o3,[.str x,.str "somewhere"],_,.str (if x="X"then("somewhere":Str)else x),rfl,rfl,bp.of ac,?_,⟨rfl,s3.upd xe,J.same (Same.new xe)⟩⟩⟩⟩,?_⟩
  ·by_cases e:x="X"
   ·rw[if_pos e,decide_eq_true (by rw[e]:V.str x=V.str "X")];exact bU (j:=1) rfl
   ·rw[if_neg e,decide_eq_false (λz=>e (V.str.inj z):¬V.str x=V.str "X")];exact bU (j:=0) rfl
  clear J s3;have xl:("place ":Str).length +(if x="X"then("somewhere":Str)else x).length<=sizeLine:=Nat.le_trans (by have:=U.2.1.1;rw[show("place ":Str).length=6 by decide+kernel];split<;>first|(rw[show("somewhere":Str).length=9 by decide+kernel];decide)|omega:_<=100) Qd;have xm:WL (Rf.place (if x="X"then("somewhere":Str)else x)):=by
   refine⟨?_,fF Qk (by split<;>first|exact U.2.2.1|decide+kernel)⟩;show(("place ":Str)++(if x="X"then("somewhere":Str)else x)).length<=1000;have:=U.2.1.1;rw[cJ,show("place ":Str).length=6 by decide+kernel];split
   ·rw[show("somewhere":Str).length=9 by decide+kernel];decide
   ·omega
  rintro d H'⟨rfl,sH,J⟩;refine⟨RW c less pa ta nm odd a b x ct S E H 3,tP (λB z=>⟨.place odd,.err .noName,(am bt (am (cV rfl) (am bt b_))),Db h R,⟨Qk,Qk⟩⟩) (λB z=>⟨.place a,.err .twice,(am bt (am (cV rfl) (am bt b_))),Da h L,⟨Qk,Qk⟩⟩) (λB z=>⟨.tie ⟨odd,a,a,0,1⟩,.err .noName,(am bt (am (cV rfl) (am (cV rfl) (am (cV rfl) (am bt (am bt (am bt b_))))))),C_ h R L,⟨Qk,Qk⟩⟩) λl u xs s k e g=>⟨l,rfl,(sH.trans s).upd k,(J.same s).same (Same.new k),ie k e g⟩,?_⟩;rintro d H'⟨l0,rfl,sH,J,gs⟩;refine⟨RW c less pa ta nm odd a b x ct S E H 5,ig rfl gs Qd (λQ=>BJ (λB z=>⟨.tie ⟨"fresh",odd,a,1,1⟩,.err .noName,(am bt (am bt (am (cV rfl) (am (cV rfl) (am bt (am bt (am bt b_))))))),C9 h R L,⟨Qk,Qk⟩⟩) (λB z=>⟨.tie ⟨t0,a,a,less,0⟩,.err .twice,(am bt (am (yE (cV rfl) bt (bp.of (z _ _ (sH _ _ xg))) rfl) (am (cV rfl) (am (cV rfl) (am (cV rfl) (am bt (am bt b_))))))),C8 h L l1 l2,⟨Qk,Qk⟩⟩)) λl u xs s k e g=>⟨l,rfl,(sH.trans s).upd k,(J.same s).same (Same.new k),ie k e g⟩,?_⟩;rintro d H'⟨l0,rfl,sH,J,gs⟩;refine⟨RW c less pa ta nm odd a b x ct S E H 7,ig rfl gs Qd (λQ=>BJ (λB z=>⟨.tie ⟨"fresh",a,a,less,0⟩,.err .same,(am bt (am bt (am (cV rfl) (am (cV rfl) (am (cV rfl) (am bt (am bt b_))))))),C7 h L l1 l2,⟨Qk,Qk⟩⟩) (λB z=>⟨.tie ⟨"fresh",a,b,less,0⟩,.err .noWidth,(am bt (am bt (am (cV rfl) (am (cV rfl) (am (cV rfl) (am bt (am bt b_))))))),C6 h L O xk l1 l2,⟨Qk,Qk⟩⟩)) λl u xs s k e g=>⟨l,rfl,(sH.trans s).upd k,(J.same s).same (Same.new k),ie k e g⟩,?_⟩;rintro d H'⟨l0,rfl,sH,J,gs⟩;refine⟨RW c less pa ta nm odd a b x ct S E H 10,ig rfl gs Qd (λQ=>tP (λB z=>⟨.cut "fresh",.err .noTie,(am bt (am bt (am bt b_))),C5 h,⟨Qk,Qk⟩⟩) (λB z=>⟨.cut odd,.err .noTie,(am bt (am (cV rfl) (am bt b_))),C4 h R,⟨Qk,Qk⟩⟩) (λB z=>⟨.alter "fresh" less 0,.err .noTie,(am bt (am bt (am (cV rfl) (am bt (am bt b_))))),C3 h l1 l2,⟨Qk,Qk⟩⟩)) λl u xs s k e g=>⟨l,rfl,(sH.trans s).upd k,(J.same s).same (Same.new k),ie k e g⟩,?_⟩;rintro d H'⟨l0,rfl,sH,J,gs⟩;refine⟨RW c less pa ta nm odd a b x ct S E H 13,ig rfl gs Qd (λQ=>tP (λB z=>⟨.alter t1 less 5,.err .noWidth,(am bt (am (yE (cV rfl) bt (bp.of (z _ _ (sH _ _ xg))) rfl) (am (cV rfl) (am bt (am bt b_))))),B_ h l1 l2,⟨Qk,Qk⟩⟩) (λB z=>⟨.state odd (.ref ct) (d1 a b x),.err .noName,(am bt (am (cV rfl) (am (cV rfl) (am bt b_)))),B8 h R L O hx (J.same z),⟨Qk,Qk⟩⟩) (λB z=>⟨.state nm (.ref ct) (d1 a b x),.err .twice,(am bt (am (cV rfl) (am (cV rfl) (am bt b_)))),B7 h L O hx (J.same z),⟨Qk,Qk⟩⟩)) λl u xs s k e g=>⟨l,rfl,(sH.trans s).upd k,(J.same s).same (Same.new k),ie k e g⟩,?_⟩;rintro d H'⟨l0,rfl,sH,J,gs⟩;refine⟨λd H'=>∃l u xs,d=[some (.int c),some (.ref pa),some (.ref ta),some (.str nm),some (.str odd),some (.str a),some (.str b),some (.int less),some (.str x),some (.ref ct),some (.str (if x="X"then("somewhere":Str)else x)),some (.ref l),none]/\Same H u/\u l=none/\xs.length=16/\(∀v∈xs,Gd S E u v)/\H'=upd u l (.lst xs),ig rfl gs Qd (λQ=>tP (λB z=>⟨.state "fresh" (.ref ct) (d1 a b x),.place (if x="X"then("somewhere":Str)else x),(am bt (am bt (am (cV rfl) (am (λ_ q=>⟨_,rfl,_,_,rfl,rfl,xl,q⟩) b_)))),B6 h L O hx (J.same z),xm⟩) (λB z=>⟨.forget "fresh",.claim,(am bt (am bt (am bt b_))),B5 h,⟨Qk,Qk⟩⟩) (λB z=>⟨.forget odd,.claim,(am bt (am (cV rfl) (am bt b_))),B4 h R,⟨Qk,Qk⟩⟩)) λl u xs s k e g=>⟨l,u,xs,rfl,sH.trans s,k,e,g,rfl⟩,?_⟩;rintro d H'⟨l,u,xs,rfl,sH,k,nx,gx,rfl⟩;have n3:("qqq":Str).length=3:=Qk;have lx:=U.2.1.1;refine⟨_,rfl,_,_,rfl,rfl,Nat.le_trans (show _<=100 by rw[n3];omega) Qd,?_⟩;refine⟨λd H'=>d=[some (.int c),some (.ref pa),some (.ref ta),some (.str nm),some (.str odd),some (.str a),some (.str b),some (.int less),some (.str x),some (.ref ct),some (.str (if x="X"then("somewhere":Str)else x)),some (.ref l),some (.str (x++("qqq":Str)))]/\Same H H'/\Gs S E H' l 17,?_,?_⟩
  ·refine⟨_,rfl,.inl ⟨rfl,xs,bp.of ac⟩,_,rfl,_,rfl,(by show 2<=sizeLine;decide),λG k1=>⟨(by show 2<=sizeLine;decide),λn k2=>⟨(by show 2<=sizeLine;decide),λp k3=>⟨_,rfl,(by show 3<=sizeLine;decide),λI k4=>⟨(by show 3<=sizeLine;decide),λM k5=>⟨_,rfl,_,_,rfl,rfl,Nat.le_trans (show _<=100 by rw[cJ,n3,show("place ":Str).length=6 by decide+kernel];omega) Qd,(by show 4<=sizeLine;decide),λc6 k6=>?_⟩⟩⟩⟩⟩⟩;have N:(upd u l (.lst xs)) l=some (.lst xs):=ac;have z0:∀y o,u y=some o->(upd u l (.lst xs)) y=some o:=Same.new k;generalize upd u l (.lst xs)=G0 at*;have z1:=Same.new (o:=.lst [.str a,.str (x++("qqq":Str))]) k1;have e1:(upd G0 G (.lst [.str a,.str (x++("qqq":Str))])) G=some (.lst [.str a,.str (x++("qqq":Str))]):=ac;have m1:=(ai N k1).symm;generalize upd G0 G (.lst [.str a,.str (x++("qqq":Str))])=G1 at*;have z2:=Same.new (o:=.tup [.str "these",.ref G]) k2;have e2:(upd G1 n (.tup [.str "these",.ref G])) n=some (.tup [.str "these",.ref G]):=ac;have m2:=(ai (z1 _ _ N) k2).symm;generalize upd G1 n (.tup [.str "these",.ref G])=G2 at*;have W:=Same.new (o:=.tup [.str "size",.ref n]) k3;have e3:(upd G2 p (.tup [.str "size",.ref n])) p=some (.tup [.str "size",.ref n]):=ac;have m3:=(ai (z2 _ _ (z1 _ _ N)) k3).symm;generalize upd G2 p (.tup [.str "size",.ref n])=G3 at*;have X:=Same.new (o:=.tup [.str "flow",.str "qq",.str b]) k4;have e4:(upd G3 I (.tup [.str "flow",.str "qq",.str b])) I=some (.tup [.str "flow",.str "qq",.str b]):=ac;have m4:=(ai (W _ _ (z2 _ _ (z1 _ _ N))) k4).symm;generalize upd G3 I (.tup [.str "flow",.str "qq",.str b])=G4 at*;have Y:=Same.new (o:=.tup [.str "atmost",.ref p,.ref I]) k5;have e5:(upd G4 M (.tup [.str "atmost",.ref p,.ref I])) M=some (.tup [.str "atmost",.ref p,.ref I]):=ac;have m5:=(ai (X _ _ (W _ _ (z2 _ _ (z1 _ _ N)))) k5).symm;generalize upd G4 M (.tup [.str "atmost",.ref p,.ref I])=G5 at*;have z6:=Same.new (o:=.tup [.str "state",.str "fresh",.ref M,.str (("place ":Str)++(x++("qqq":Str)))]) k6;have e6:(upd G5 c6 (.tup [.str "state",.str "fresh",.ref M,.str (("place ":Str)++(x++("qqq":Str)))])) c6=some (.tup [.str "state",.str "fresh",.ref M,.str (("place ":Str)++(x++("qqq":Str)))]):=ac;have m6:=(ai (Y _ _ (X _ _ (W _ _ (z2 _ _ (z1 _ _ N))))) k6).symm;refine⟨l,xs,.ref c6,rfl,rfl,z6 _ _ (Y _ _ (X _ _ (W _ _ (z2 _ _ (z1 _ _ N))))),Nat.lt_of_le_of_lt (show _<=16 by rw[nx];decide) Qd,?_⟩;generalize upd G5 c6 (.tup [.str "state",.str "fresh",.ref M,.str (("place ":Str)++(x++("qqq":Str)))])=G6 at*;have w4:=Y.trans z6;have w3:=X.trans w4;have w2:=W.trans w3;have w1:=z2.trans w2;have w0:=z1.trans w1;have sF:Same u (upd G6 l (.lst (xs++[.ref c6]))):=λy o e=>by
    rw[ah (ai e k)];exact w0 _ _ (z0 _ _ e)
   refine⟨rfl,sH.trans sF,⟨_,ac,by rw[List.length_append,nx];rfl,λv hv=>?_⟩⟩;rcases List.mem_append.mp hv with hv|hv
   ·exact(gx v hv).same sF
   ·rw[List.mem_singleton.mp hv];have f1:=w1 _ _ e1;have f2:=w2 _ _ e2;have f3:=w3 _ _ e3;have f4:=w4 _ _ e4;have f5:=z6 _ _ e5;rw[<-ah (H:=G6) (o:=.lst (xs++[.ref c6])) m1]at f1;rw[<-ah (H:=G6) (o:=.lst (xs++[.ref c6])) m2]at f2;rw[<-ah (H:=G6) (o:=.lst (xs++[.ref c6])) m3]at f3;rw[<-ah (H:=G6) (o:=.lst (xs++[.ref c6])) m4]at f4;rw[<-ah (H:=G6) (o:=.lst (xs++[.ref c6])) m5]at f5;rw[<-ah (H:=G6) (o:=.lst (xs++[.ref c6])) m6]at e6;generalize upd G6 l (.lst (xs++[.ref c6]))=G7 at*;refine⟨c6,.state "fresh" (.ref M) (d2 a b (x++("qqq":Str))),.place (x++("qqq":Str)),rfl,e6,BZ h L O hx (.inr ⟨_,_,f5,rfl,.cons ⟨Qk,rfl⟩ (.cons (.inr ⟨_,_,f3,rfl,.cons ⟨Qk,rfl⟩ (.cons (.inr ⟨_,_,f2,rfl,.cons ⟨Qk,rfl⟩ (.cons (.inl ⟨_,_,f1,rfl,.cons ⟨bN na,rfl⟩ (.cons ⟨U.2.2.2.2.2,rfl⟩ .nil)⟩) .nil)⟩) .nil)⟩) (.cons (.inr ⟨_,_,f4,rfl,.cons ⟨Qk,rfl⟩ (.cons ⟨Qk,rfl⟩ (.cons ⟨ob,rfl⟩ .nil))⟩) .nil))⟩),?_,fF Qk U.2.2.2.2.2⟩;show(("place ":Str)++(x++("qqq":Str))).length<=1000;rw[cJ,cJ,n3,show("place ":Str).length=6 by decide+kernel];omega
  clear gx k nx sH;rintro d H'⟨rfl,sH,gs⟩;refine⟨λd H'=>∃l,d=[some (.int c),some (.ref pa),some (.ref ta),some (.str nm),some (.str odd),some (.str a),some (.str b),some (.int less),some (.str x),some (.ref ct),some (.str (if x="X"then("somewhere":Str)else x)),some (.ref l),some (.str (x++("qqq":Str)))]/\Same H H'/\Gs S E H' l 20,ig rfl gs Qd (λQ=>tP (λB z=>⟨.claim "fresh",.claim,(am bt (am bt (am bt b_))),BY h,⟨Qk,Qk⟩⟩) (λB z=>⟨.verdict odd,.claim,(am bt (am (cV rfl) (am bt b_))),BX h R,⟨Qk,Qk⟩⟩) (λB z=>⟨.paper "fresh",.claim,(am bt (am bt (am bt b_))),BV h,⟨Qk,Qk⟩⟩)) λl u xs s k e g=>⟨l,rfl,(sH.trans s).upd k,ie k e g⟩,?_⟩;rintro d H'⟨l0,rfl,sH,xs,ex,nx,gx⟩;obtain⟨j,hj,ej⟩:∃j:Nat,j<20/\c%20=(j:Int):=⟨(c%20).toNat,Qo,Qo⟩;have xb:j<xs.length:=by rw[nx];exact hj
  obtain⟨t,D,rf,ev,et,bd,wl⟩:=gx _ (List.getElem_mem xb);refine⟨_,rfl,_,rfl,_,_,rfl,rfl,(by show(0:Int)<20;decide),l0,xs,_,.ref t,rfl,rfl,bp.of ex,?_,q t D rf H' sH et bd wl⟩;show ko xs (c%20)=_;rw[show c%20=(j:Int)from ej,<-ev];exact bU (List.getElem?_eq_getElem xb)
end
def nX(k:Nat):Str:=Txt.slice "court" none (some (k:Int))
def Ck(j:Nat):Str:=⟨#[97+j]⟩
def fj(k j:Nat):Str:=nX k++Ck (j%26)
def iE(k j:Nat):Str:=Ck (j%26)++nX k
def s_(k j:Nat):Str:=nX k++Ck (j%26)++("s":Str)
def jK(i:Nat):Str:=("z":Str)++Ck i++("zz":Str)
theorem yY:∀k<6,(nX k).length=k/\∀j<26,nameB (fj k j)=true/\(fj k j).length=k+1/\¬fj k j="qqq"/\¬fj k j=fj k (j+1)/\¬fj k j=fj k (j+2)/\nameB (iE k j)=true/\¬iE k j="fresh"/\¬iE k j=iE k (j+1)/\nameB (s_ k j)=true/\¬s_ k j="fresh":=Qk
theorem qR:∀i<17,nameB (jK i)=true/\(jK i).length=4/\∀j<26,¬jK i=fj 3 j:=Qk
theorem AW:∀i<17,∀a<17,jK i=jK a->i=a:=Qk
theorem kH(k j:Nat):fj k (j%26)=fj k j:=by unfold fj;rw[Nat.mod_mod]
theorem uM(k j:Nat):iE k (j%26)=iE k j:=by unfold iE;rw[Nat.mod_mod]
theorem w_(k j:Nat):s_ k (j%26)=s_ k j:=by unfold s_;rw[Nat.mod_mod]
theorem Bm(k j m:Nat):fj k (j%26+m)=fj k (j+m):=by unfold fj;rw[Nat.mod_add_mod]
theorem AV(k j m:Nat):iE k (j%26+m)=iE k (j+m):=by unfold iE;rw[Nat.mod_add_mod]
structure N9(k:Nat)(p0 p1 p2 t0 t1 nm:Str):Prop where
 n0:nameB p0=true
 n1:nameB p1=true
 n2:nameB p2=true
 a01:¬p0=p1
 a02:¬p0=p2
 a12:¬p1=p2
 l0:p0.length=k+1
 l1:p1.length=k+1
 l2:p2.length=k+1
 q0:¬p0="qqq"
 q1:¬p1="qqq"
 q2:¬p2="qqq"
 k6:k<6
 m0:nameB t0=true
 m1:nameB t1=true
 f0:¬t0="fresh"
 f1:¬t1="fresh"
 b01:¬t0=t1
 nn:nameB nm=true
 fn:¬nm="fresh"
 z0:∀i<17,¬jK i=p0
 z1:∀i<17,¬jK i=p1
 z2:∀i<17,¬jK i=p2
theorem qN{k i:Nat}(a:k<6)(hi:i<17)(j:Nat):¬jK i=fj k j:=λz=>by
 have h1:=(qR i hi).2.1;have h2:=((yY k a).2 (j%26) (Nat.mod_lt _ Qd)).2.1;rw[kH]at h2;rw[z,h2]at h1;have e:k=3:=Qo;subst e;rw[<-kH]at z;exact(qR i hi).2.2 _ (Nat.mod_lt _ Qd) z
theorem N9.of{k:Nat}(g:k<6)(j l h:Nat):N9 k (fj k j) (fj k (j+1)) (fj k (j+2)) (iE k l) (iE k (l+1)) (s_ k h):=by
 have T:=(yY k g).2;have f:∀j,nameB (fj k j)=true/\(fj k j).length=k+1/\¬fj k j="qqq"/\¬fj k j=fj k (j+1)/\¬fj k j=fj k (j+2):=λj=>by
  obtain⟨a,b,c,d,e,_⟩:=T (j%26) (Nat.mod_lt _ Qd);rw[kH]at a b c d e;rw[Bm]at d e;exact⟨a,b,c,d,e⟩
 have tt:∀j,nameB (iE k j)=true/\¬iE k j="fresh"/\¬iE k j=iE k (j+1):=λj=>by
  obtain⟨_,_,_,_,_,a,b,c,_⟩:=T (j%26) (Nat.mod_lt _ Qd);rw[uM]at a b c;rw[AV]at c;exact⟨a,b,c⟩
 have m:nameB (s_ k h)=true/\¬s_ k h="fresh":=by
  obtain⟨_,_,_,_,_,_,_,_,a,b⟩:=T (h%26) (Nat.mod_lt _ Qd);rw[w_]at a b;exact⟨a,b⟩
 exact⟨(f j).1,(f _).1,(f _).1,(f j).2.2.2.1,(f j).2.2.2.2,(f (j+1)).2.2.2.1,(f j).2.1,(f _).2.1,(f _).2.1,(f j).2.2.1,(f _).2.2.1,(f _).2.2.1,g,(tt _).1,(tt _).1,(tt _).2.1,(tt _).2.1,(tt _).2.2,m.1,m.2,λi hi=>qN g hi _,λi hi=>qN g hi _,λi hi=>qN g hi _⟩
theorem GS.nil:GS .nil:=⟨.nil,Nat.zero_le _,Nat.zero_le _,.nil,λ_ h=>(nomatch h),λ_ h=>(nomatch h)⟩
theorem GS.place{S:NS}{x:Str}(g:GS S)(b:nameB x=true)(nx:x∉S.pl)(i:S.pl.length<20):judge S (.place x)=none/\GS (S.did (.place x)):=by
 refine⟨by rw[b8,if_neg (by rw[b];decide),if_neg nx,if_neg Qo],g.nd,g.few,?_,?_,λy a=>?_,λr j=>?_⟩
 ·show(S.pl++[x]).length<=20;rw[List.length_append];exact i
 ·exact List.nodup_append.mpr ⟨g.ndP,List.nodup_cons.mpr ⟨List.not_mem_nil,.nil⟩,λy a z k=>by rw[List.mem_singleton.mp k];exactλe=>nx (e▸a)⟩
 ·rcases List.mem_append.mp a with h|h
  ·exact g.okP y h
  ·rw[List.mem_singleton.mp h];exact b
 ·obtain⟨c,d,f⟩:=g.okT r j;exact⟨c,List.mem_append_left _ d,List.mem_append_left _ f⟩
theorem pB{pl:List Str}{a b:Str}(c:a∈pl)(d:b∈pl):cS pl a b=pl:=by
 unfold cS;rw[List.filter_cons_of_neg (by simp[c]),List.filter_cons_of_neg (by simp[d])];exact List.append_nil _
theorem GS.tie{S:NS}{r:b7}(g:GS S)(hn:nameB r.nm=true)(nn:r.nm∉S.nms)(a:r.a∈S.pl)(b:r.b∈S.pl)(ne:¬r.a=r.b)(hw:1<=r.w)(c:S.ti.length<40):judge S (.tie r)=none/\S.did (.tie r)=⟨S.pl,S.ti++[r]⟩/\GS (S.did (.tie r)):=by
 have e:S.did (.tie r)=⟨S.pl,S.ti++[r]⟩:=by
  show(⟨cS S.pl r.a r.b,S.ti++[r]⟩:NS)=_;rw[pB a b]
 refine⟨by rw[bE,if_neg (Bw hn (g.okP _ a) (g.okP _ b)),if_neg nn,if_neg ne,if_neg Qo,if_neg Qo,pB a b,if_neg (by have:=g.fewP;omega)],e,?_⟩;rw[e];refine⟨?_,?_,g.fewP,g.ndP,g.okP,λq d=>?_⟩
 ·show((S.ti++[r]).map (·.nm)).Nodup;rw[List.map_append];exact List.nodup_append.mpr ⟨g.nd,List.nodup_cons.mpr ⟨List.not_mem_nil,.nil⟩,λy f z i=>by rw[List.mem_singleton.mp i];exactλe=>nn ((show y=r.nm from e)▸f)⟩
 ·show(S.ti++[r]).length<=40;rw[List.length_append];exact c
 ·rcases List.mem_append.mp d with h|h
  ·exact g.okT q h
  ·rw[List.mem_singleton.mp h];exact⟨hn,a,b⟩
def S9(p0 p1 p2 t0 t1:Str):NS:=⟨[p0,p1,p2],[⟨t0,p0,p1,2,3⟩,⟨t1,p1,p2,1,-1⟩]⟩
section
variable{k:Nat}{p0 p1 p2 t0 t1 nm:Str}
theorem S9.way(S:NS)(e:S=S9 p0 p1 p2 t0 t1):verd S (.way p0 p2)=true:=by
 subst e;show reachB _ _ _=true;rw[fG];exact⟨[]++[t0]++[t1],.snoc (.snoc .nil (show(t0,p0,p1)∈_ from List.mem_cons_self)) (show(t1,p1,p2)∈_ from List.mem_cons_of_mem _ List.mem_cons_self)⟩
theorem S9.ring(h:N9 k p0 p1 p2 t0 t1 nm):(ju (S9 p0 p1 p2 t0 t1)).2=none:=by
 have h1:=h.a01;have h2:=h.a02;have d:=h.a12;have c:¬p2=p1:=λz=>d z.symm;have b:¬p2=p0:=λz=>h2 z.symm;have a:¬p1=p0:=λz=>h1 z.symm;simp[ju,S9,cE,rO,nY,kN,lW,CI,h1,h2,d,a,b,c]
theorem S9.w9(h:N9 k p0 p1 p2 t0 t1 nm)(g:GS (S9 p0 p1 p2 t0 t1)){E:List cZ}(b:E.map (·.nm)=[nm]):W9 (S9 p0 p1 p2 t0 t1) E (k+1) t0 t1 nm:=by
 have k6:=h.k6;refine⟨g,List.mem_cons_self,List.mem_cons_of_mem _ List.mem_cons_self,b,h.nn,λz=>?_,λz=>h.fn z.symm,λx a=>?_,Qo,λz=>?_⟩
 ·rcases List.mem_cons.mp z with z|z
  ·exact h.f0 z.symm
  ·exact h.f1 (List.mem_singleton.mp z).symm
 ·have a:x∈ [p0,p1,p2]:=a;simp only[List.mem_cons,List.not_mem_nil,or_false]at a;rcases a with rfl|rfl|rfl
  ·exact h.l0
  ·exact h.l1
  ·exact h.l2
 ·have z:("qqq":Str)∈ [p0,p1,p2]:=z;simp only[List.mem_cons,List.not_mem_nil,or_false]at z;rcases z with z|z|z
  ·exact h.q0 z.symm
  ·exact h.q1 z.symm
  ·exact h.q2 z.symm
def Sz(S:NS)(i:Nat):NS:=⟨S.pl++(List.range i).map jK,S.ti⟩
theorem Sz.did(S:NS)(i:Nat):(Sz S i).did (.place (jK i))=Sz S (i+1):=by
 show(⟨(S.pl++(List.range i).map jK)++[jK i],S.ti⟩:NS)=⟨S.pl++(List.range (i+1)).map jK,S.ti⟩;rw[List.range_succ,List.map_append,List.append_assoc];rfl
theorem Sz.not(h:N9 k p0 p1 p2 t0 t1 nm){i:Nat}(hi:i<17):jK i∉(Sz (S9 p0 p1 p2 t0 t1) i).pl:=λz=>by
 rcases List.mem_append.mp z with z|z
 ·have z:jK i∈ [p0,p1,p2]:=z;simp only[List.mem_cons,List.not_mem_nil,or_false]at z;rcases z with z|z|z
  ·exact h.z0 i hi z
  ·exact h.z1 i hi z
  ·exact h.z2 i hi z
 ·obtain⟨j,a,e⟩:=List.mem_map.mp z;have a:=List.mem_range.mp a;have:=AW j Qo i hi e;omega
theorem Sz.step(h:N9 k p0 p1 p2 t0 t1 nm){i:Nat}(hi:i<17)(g:GS (Sz (S9 p0 p1 p2 t0 t1) i)):judge (Sz (S9 p0 p1 p2 t0 t1) i) (.place (jK i))=none/\GS ((Sz (S9 p0 p1 p2 t0 t1) i).did (.place (jK i))):=
 g.place (qR i hi).1 (Sz.not h hi) (by
  show([p0,p1,p2]++(List.range i).map jK).length <20;rw[List.length_append,List.length_map,List.length_range];show 3+i<20;omega)
theorem og.place{S:NS}{e:cZ}{x:Str}(h:og S e):og (S.did (.place x)) e:=
 let⟨a,b,ws,c,d,f,g,i,j,k⟩:=h
 ⟨a,b,ws,c,d,f,g,List.mem_append_left _ i,List.mem_append_left _ j,k⟩
theorem lf(h:N9 k p0 p1 p2 t0 t1 nm):("another":Str)∉(Sz (S9 p0 p1 p2 t0 t1) 17).pl:=λz=>by
 have a:("another":Str).length=7:=Qk;have k6:=h.k6;rcases List.mem_append.mp z with z|z
 ·have z:("another":Str)∈ [p0,p1,p2]:=z;simp only[List.mem_cons,List.not_mem_nil,or_false]at z;rcases z with z|z|z
  ·have:=h.l0;rw[<-z,a]at this;omega
  ·have:=h.l1;rw[<-z,a]at this;omega
  ·have:=h.l2;rw[<-z,a]at this;omega
 ·obtain⟨j,b,e⟩:=List.mem_map.mp z;have:=(qR j (List.mem_range.mp b)).2.1;rw[e,a]at this;omega
theorem yJ:(Sz (S9 p0 p1 p2 t0 t1) 17).pl.length=20:=by
 show([p0,p1,p2]++(List.range 17).map jK).length=20;rw[List.length_append,List.length_map,List.length_range];rfl
theorem gU:nameB ("another":Str)=true:=Qk
theorem Bz(h:N9 k p0 p1 p2 t0 t1 nm){E:List cZ}{H:Hp}:(BD.place "another").bad (Sz (S9 p0 p1 p2 t0 t1) 17) E H (.err .tooMany):=
 ⟨(aA gU).T,by rw[b8,if_neg (by rw[gU];decide),if_neg (lf h),if_pos (by rw[yJ];decide)]⟩
theorem By(h:N9 k p0 p1 p2 t0 t1 nm){E:List cZ}{H:Hp}:(BD.tie ⟨"fresh",p0,"another",1,1⟩).bad (Sz (S9 p0 p1 p2 t0 t1) 17) E H (.err .tooMany):=by
 have a:p0∈(Sz (S9 p0 p1 p2 t0 t1) 17).pl:=List.mem_append_left _ List.mem_cons_self;refine⟨⟨(aA bv).T,(aA h.n0).T,(aA gU).T,ir (i:=1) Qd Qd⟩,?_⟩;have b:("fresh":Str)∉(Sz (S9 p0 p1 p2 t0 t1) 17).nms:=λz=>by
  rcases List.mem_cons.mp z with z|z
  ·exact h.f0 z.symm
  ·exact h.f1 (List.mem_singleton.mp z).symm
 rw[bE,if_neg (Bw bv h.n0 gU),if_neg b,if_neg (λz=>lf h (show("another":Str)∈_ from(show p0="another"from z)▸a)),if_neg (by show¬(1:Int)<1;decide),if_neg (by show¬40<2+1;decide),if_pos];show 20<(cS _ p0 "another").length;unfold cS;rw[List.length_append,yJ,List.filter_cons_of_neg (by simp[a]),List.filter_cons_of_pos (by simp[lf h])];show 20<20+1;decide
end
theorem iP.seq{K:PySem.W.Frag}{H H':Hp}{a:Addr}{xs:List V}(s:iP H H')(h:bp K H a xs):bp K H' a xs:=by
 rcases h with(h|⟨o,h⟩)|h
 ·exact .inl (.inl (s _ _ (by intro _ z;cases z) h))
 ·exact .inl (.inr ⟨o,s _ _ (by intro _ z;cases z) h⟩)
 ·exact .inr h
theorem iP.trans{H H1 H2:Hp}(a:iP H H1)(b:iP H1 H2):iP H H2:=λc o n e=>b c o n (a c o n e)
theorem iP.lst{H H':Hp}{a:Addr}{xs:List V}(s:iP H H')(h:H a=some (.lst xs)):H' a=some (.lst xs):=s _ _ (by intro _ z;cases z) h
theorem xP{j:Nat}(h:j<26):ko (("abcdefghijklmnopqrstuvwxyz":Str).cps.toList) (j:Int)=some (97+j):=bU ((by decide+kernel:∀j<26,(("abcdefghijklmnopqrstuvwxyz":Str).cps.toList)[j]?=some (97+j)) j h)
def lG(K:PySem.W.Frag):Sp:=λvs H Q _=>∃(a:Addr)(ns:List Int),vs=[.ref a]/\bp K H a (ns.map V.int)/\ns.length<=63/\∀H',Q (.bl true) H'
theorem lQ(n:Nat):HT.sIx (n+1) (n+1) (some (-1))=n:=by
 have h:=HT.k_ (-1) (n+1) (n+1);rw[if_pos Qd]at h;omega
theorem tZ(xs:List V)(v:V):eR (xs++[v]) none (some (-1))=xs:=by
 unfold eR;rw[List.length_append,List.length_singleton,lQ,HT.i9,List.drop_zero,Nat.sub_zero,List.take_append_of_le_length (Nat.le_refl _),List.take_length]
theorem tY(xs:List V)(v:V):¬(HT.sIx (xs++[v]).length 0 none=0/\HT.sIx (xs++[v]).length (xs++[v]).length (some (-1))=(xs++[v]).length):=λh=>by
 have:=h.2;rw[List.length_append,List.length_singleton,lQ]at this;omega
theorem uL{a b:Str}:a_ 10 [] (.tuple [.str "way",.str a,.str b])=[a,b]:=by
 rw[dB Qk];show a_ 9 [] (.str a)++(a_ 9 [] (.str b)++[])=_;simp only[dO,List.append_nil,List.not_mem_nil,if_false,List.nil_append,List.append_assoc,List.cons_append]
theorem lv:a_ 10 [] (.tuple [.str "ring"])=[]:=by
 rw[dB Qk];rfl
theorem tS{pl ns:List Str}(h:∀x∈ns,x∈pl):bK pl ns=none:=by
 unfold bK;exact List.find?_eq_none.mpr λz a=>by simp[h z a]
theorem qx(ns:List Int)(f:Int):∃a:List Int,eR (ns.map V.int) none (some 60)++[V.int f]=a.map V.int:=by
 refine⟨ns.take 60++[f],?_⟩;have:eR (ns.map V.int) none (some ((60:Nat):Int))=(ns.map V.int).take 60:=by
  unfold eR;rw[HT.kF,HT.i9,List.drop_zero,Nat.sub_zero];by_cases h:60<=(ns.map V.int).length
  ·rw[Nat.min_eq_left h]
  ·rw[Nat.min_eq_right Qo,List.take_length,List.take_of_length_le Qo]
 rw[List.map_append,List.map_take];exact congrArg (·++[V.int f]) this
theorem dP{K:PySem.W.Frag}{H:Hp}{l:Addr}{x:Str}(h:H l=some (.lst [.str x]))(a:PyData.strOk x=true):mM K H 1 (.ref l) (.list [.str x]):=.inl ⟨_,_,bp.of h,rfl,.cons ⟨a,rfl⟩ .nil⟩
theorem gL(x:Str):PyData.eqv (.list [.str x]) (.list [.str x])=true:=by simp[PyData.eqv,PyData.eqvAll]
theorem AT{i:Nat}{y:Str}(h:(["forget","claim","verdict","paper"]:List Str)[i]?=some y):∃D:BD,D.tup=[.str y,.str "fresh"]/\∀(S:NS)(E:List cZ)(H:Hp),("fresh":Str)∉E.map (·.nm)->D.bad S E H .claim:=by
 have o:=(aA bv).T
 match i,h with
 |0,h=>cases h;exact⟨.forget "fresh",rfl,λ_ _ _ z=>⟨o,z⟩⟩
 |1,h=>cases h;exact⟨.claim "fresh",rfl,λ_ _ _ z=>⟨o,z⟩⟩
 |2,h=>cases h;exact⟨.verdict "fresh",rfl,λ_ _ _ z=>⟨o,z⟩⟩
 |3,h=>cases h;exact⟨.paper "fresh",rfl,λ_ _ _ z=>⟨o,z⟩⟩
section
variable{P:Program}{w:World}{K:PySem.W.Frag}{mg:Str->Option Value}{base:Heap}{C B cN Cn:Addr}{ec:gr->Addr}
abbrev AH:List Str:=["_law_script","_law_first","_law_letters","_law_head","_law_places","_law_ties","_law_book","_law_name","_law_before","_law_cell","_law_wrong_here","_law_word","_law_k"]
theorem bP:ax AH ["_law_script"] (af s_law):=⟨rfl,rfl,rfl,Qk,rfl,Qk,Qk⟩
theorem sP{f:Addr}{fd:FuncData}(F:bZ K "law" "law" s_law f fd)(T:de K mg C)(TB:lm K mg B)(cb:om P w K mg base 3 B ["self"] (oG B C))
  (m1:ba P w K mg base 9 B "place" ["self","name"] (i5 B C ec))(m2:ba P w K mg base 9 B "tie" ["self","name","a","b","width","cost"] (mY B C ec))(m5:ba P w K mg base 24 B "state" ["self","name","claim"] (i3 B C ec Cn))(m6:ba P w K mg base 2 B "forget" ["self","name"] (gX B C cN))
  (m8:ba P w K mg base 2 B "verdict" ["self","name"] (dE B C cN xI))(m9:ba P w K mg base 12 B "paper" ["self","name"] (dE B C cN xJ))
  (x9:cj P w K mg base 13 "_law_look" ["_law_book"] (oB B C))(cw:cj P w K mg base 1 "_law_wrong" ["_law_cell","_law_places","_law_ties","_law_name"] ow)(cc:cj P w K mg base 26 "_law_class" ["_law_book","_law_deed"] (oF B C)):FnOk P w K mg base cY 27 f fd ["_law_script"] (lG K):=by
 refine F.ok bP (λvs H Q E h=>?_) (λzc A outer s H vs Q EX hr h=>?_)
 ·obtain⟨a,ns,rfl,_⟩:=h;rfl
 ·obtain⟨a,ns,rfl,hS,za,q⟩:=h;have hU:=hr.units;have r1:be 1 _:=hr.mono Qd;have r2:be 2 _:=hr.mono Qd;have r4:be (3+1) _:=hr.mono Qd;have r9:be 9 _:=hr.mono Qd;have y8:be 12 _:=hr.mono Qd;have yt:be 13 _:=hr.mono Qd;have yu:be 24 _:=hr.mono Qd;have xr:be 26 _:=hr.mono Qd;have xu:List.Nodup (["_law_k","_law_first","_law_head","_law_letters"]:List Str):=Qk;refine⟨_,(ae (aF (i:=1) bP.nd rfl (Or.inr rfl) ak)
   (bQ (aH (aE yI (aI gR Qr T.len jG (aa (pv 0) ad)) ak (aM _)) (ag (aF (i:=1) bP.nd rfl (Or.inr rfl) (ay bF (pv 0) ak (λ_ _=>Qr)))) au)
   (ae (aF (i:=2) bP.nd rfl (Or.inr rfl) aj)
   (ae (aF (i:=3) bP.nd rfl (Or.inr rfl) (fk zI aj gG (gF (aU d8 (pv 1) ak))))
   (ae (iI (j:=4) (N:=["_law_k","_law_first","_law_head","_law_letters"]) (xs:=1) (js:=[1,3,2]) rfl bP.nd rfl rfl (aQ rfl) (fH rfl T.range (aa ak ad)) (λ_ _ _ _=>aO (i:=0) xu rfl (Or.inl rfl)) (λ_ _ _ _=>cF) (λ_ _ _ _=>aU bT (pv 2) (ay kR (pv 3) (aU d8 (aU ft (aU dU (pv 1) ak) (pv 0)) ak) (λ_ _=>Qr))) rfl)
   (ae (iI (j:=5) (N:=["_law_k","_law_first","_law_head","_law_letters"]) (xs:=1) (js:=[1,3,2]) rfl bP.nd rfl rfl (aQ rfl) (fH rfl T.range (aa ak ad)) (λ_ _ _ _=>aO (i:=0) xu rfl (Or.inl rfl)) (λ_ _ _ _=>cF) (λ_ _ _ _=>aU bT (ay kR (pv 3) (aU d8 (aU ft (aU dU (pv 1) ak) (pv 0)) ak) (λ_ _=>Qr)) (pv 2)) rfl)
   (ae (aF (i:=6) bP.nd rfl (Or.inl rfl) (hZ cb r4 Qr TB.mgB))
   (bQ (cO PassesOwn.never rfl (bD (pv 4)) (aO (i:=7) bP.nd rfl (Or.inl rfl))
     (ag (aG (bV (pv 6) TB.cl m1 r9 (aa (pv 7) ad)))))
   (ae (aG (bV (pv 6) TB.cl m2 r9 (aa (ay bF (pv 5) ak (λ_ _=>Qr)) (aa (ay bF (pv 4) ak (λ_ _=>Qr)) (aa (ay bF (pv 4) ak (λ_ _=>Qr)) (aa ak (aa ak ad)))))))
   (ae (aG (bV (pv 6) TB.cl m2 r9 (aa (ay bF (pv 5) ak (λ_ _=>Qr)) (aa (ay bF (pv 4) ak (λ_ _=>Qr)) (aa (ay bF (pv 4) ak (λ_ _=>Qr)) (aa ak (aa (lX iR ak) ad)))))))
   (ae (aF (i:=7) bP.nd rfl (Or.inl rfl) (aU bT (aU bT (pv 3) (ay kR (pv 2) (aU d8 (aU dU (pv 1) ak) ak) (λ_ _=>Qr))) aj))
   (ae (aH (aE j0 (bV (pv 6) TB.cl m5 yu (aa (pv 7) (aa (aK (aa aj (aa (ay bF (pv 4) ak (λ_ _=>Qr)) (aa (ay bF (pv 4) ak (λ_ _=>Qr)) ad)))) ad))) dS (aM _)) (ag (av dS)) au)
   (ae (aF (i:=8) bP.nd rfl (Or.inl rfl) (aw x9 yt Qr (aa (pv 6) ad)))
   (bQ (cO PassesOwn.never rfl (bD (aU dm (fk uX (pv 0) gG (gF ak)) (aR (aa (pv 1) ad)))) (aO (i:=9) bP.nd rfl (Or.inl rfl))
     (ae (aF (i:=10) bP.nd rfl (Or.inl rfl) (aw cw r1 Qr (aa (pv 9) (aa (pv 4) (aa (pv 5) (aa (pv 7) ad))))))
   (ag (aH (PW.pt (gE (aE (jg hU) (aw cc xr Qr (aa (pv 6) (aa (fk mZ (pv 10) gG (gF (lX iR ak))) ad))) (aR (aa (ay az (pv 10) (lX iR ak) (λ_ _=>Qr)) ad)) (aM _)) (eN (aE (jg hU) (aw x9 yt Qr (aa (pv 6) ad)) (pv 8) (aM _))))) (ag (av dS)) au))))
   (ae (aG (bV (pv 6) TB.cl m5 yu (aa aj (aa (aK (aa aj ad)) ad))))
   (ae (aH (PW.pt (gE (aE j0 (bV (pv 6) TB.cl m8 r2 (aa aj ad)) dS (aM _)) (eN (aE (su hU) (bV (pv 6) TB.cl m9 y8 (aa aj ad)) (aR ad) (aM _))))) (ag (av dS)) au)
   (ae (aG (bV (pv 6) TB.cl m6 r2 (aa aj ad)))
   (bQ (cO PassesOwn.never rfl (bD (aR (aa aj (aa aj (aa aj (aa aj ad)))))) (aO (i:=11) bP.nd rfl (Or.inl rfl))
     (ag (aH (aE (jg hU) (aw cc xr Qr (aa (pv 6) (aa (aK (aa (pv 11) (aa aj ad))) ad))) (aR (aa aj ad)) (aM _)) (ag (av dS)) au)))
   (bQ (cO PassesOwn.never rfl (fH rfl T.range (aa ak ad)) (aO (i:=12) bP.nd rfl (Or.inl rfl))
     (ag (aG (bV (pv 6) TB.cl m1 r9 (aa (aU bT (aU bT aj (ay kR (pv 2) (pv 12) (λ_ _=>Qr))) aj) ad)))))
   (ae (aH (aE (jg hU) (aw cc xr Qr (aa (pv 6) (aa (aK (aa aj (aa aj ad))) ad))) (aR (aa aj ad)) (aM _)) (ag (av dS)) au)
   (ag (av (dR (su hU) (aw cc xr Qr (aa (pv 6) (aa (aK (aa aj (aa aj (aa (ay bF (pv 4) ak (λ_ _=>Qr)) (aa aj (aa ak (aa ak ad))))))) ad))) (aR (aa aj ad)) (aM _)))))))))))))))))))))))),?_⟩
  have i1:(1:Nat)<=sizeLine:=Qd;refine⟨λu H'=>H'=H/\∃p:Int,u=[some (.ref a),some (.int p),none,none,none,none,none,none,none,none,none,none,none],?_,?_⟩
  ·refine⟨_,rfl,a,_,rfl,.inl hS,_,_,rfl,rfl,_,rfl,tL (λhh=>?_) (λ_=>⟨rfl,0,rfl⟩)⟩;cases ns with
   |nil=>exact absurd hh Qd
   |cons n0 ns=>exact⟨_,rfl,a,_,_,.int n0,rfl,rfl,hS,bU (j:=0) rfl,rfl,_,rfl⟩
  rintro _ H'⟨rfl,p,rfl⟩;obtain⟨k,hk,ek⟩:∃k:Nat,k<6/\p%6=(k:Int):=⟨(p%6).toNat,Qo,Qo⟩;obtain⟨j,ej⟩:∃j:Nat,p/6%26=(j:Int):=⟨(p/6%26).toNat,Qo⟩;obtain⟨j2,zd⟩:∃j2:Nat,p/156%26=(j2:Int):=⟨(p/156%26).toNat,Qo⟩;obtain⟨j3,ze⟩:∃j3:Nat,p/7%26=(j3:Int):=⟨(p/7%26).toNat,Qo⟩;have hl:=(yY k hk).1;have xq:("abcdefghijklmnopqrstuvwxyz":Str).length=26:=Qk;refine⟨_,rfl,_,_,rfl,rfl,(by show(0:Int)<6;decide),_,rfl,"court",rfl,Qk,?_⟩;rw[ek];show eV 3 (.str (nX k)) _ H' _;have SL:∀{n:Nat},n<=100->n<=sizeLine:=λh=>Nat.le_trans h Qd;refine⟨3,rfl,Qd,Qd,jx (n:=(3:Int).toNat) (λi acc W H2=>H2=H'/\acc=((List.range i).map λm=>fj k (j+m)).map V.str/\∃o,W=[o,some (.int p),some (.str (nX k)),some (.str "abcdefghijklmnopqrstuvwxyz")])
   ⟨rfl,rfl,none,rfl⟩ (λi acc W H2 h=>?_) Qd (λi acc W H2 hi h=>?_) (λacc W H2 h pa yi=>?_)⟩
  ·obtain⟨_,rfl,_⟩:=h;simp
  ·obtain⟨rfl,rfl,o,rfl⟩:=h;refine⟨_,rfl,_,rfl,_,rfl,_,_,rfl,rfl,⟨Qd,Qd⟩,_,rfl,_,_,rfl,rfl,_,_,rfl,rfl,(by show(0:Int)<26;decide),"abcdefghijklmnopqrstuvwxyz",_,97+(j+i)%26,rfl,rfl,(by rw[xq];decide),?_,_,_,rfl,rfl,SL (by rw[hl];show k+1<=100;omega),rfl,?_,_,rfl⟩
   ·rw[show(p/6+(0+(i:Int)))%26=(((j+i)%26:Nat):Int)by omega];exact xP (Nat.mod_lt _ Qd)
   ·rw[List.range_succ,List.map_append,List.map_append];rfl
  obtain⟨rfl,rfl,o,rfl⟩:=h;have G:(upd H2 pa (.lst (((List.range (3:Int).toNat).map λm=>fj k (j+m)).map V.str))) pa=some (.lst [.str (fj k j),.str (fj k (j+1)),.str (fj k (j+2))]):=ac;have s1:Same H2 (upd H2 pa (.lst (((List.range (3:Int).toNat).map λm=>fj k (j+m)).map V.str))):=Same.new yi;generalize upd H2 pa (.lst (((List.range (3:Int).toNat).map λm=>fj k (j+m)).map V.str))=H3 at G s1;refine⟨2,rfl,Qd,Qd,jx (n:=(2:Int).toNat) (λi acc W H2=>H2=H3/\acc=((List.range i).map λm=>iE k (j2+m)).map V.str/\∃o,W=[o,some (.int p),some (.str (nX k)),some (.str "abcdefghijklmnopqrstuvwxyz")])
   ⟨rfl,rfl,none,rfl⟩ (λi acc W H2 h=>?_) Qd (λi acc W H2 hi h=>?_) (λacc W H4 h ta yj=>?_)⟩
  ·obtain⟨_,rfl,_⟩:=h;simp
  ·obtain⟨rfl,rfl,o,rfl⟩:=h;refine⟨_,rfl,_,rfl,_,_,rfl,rfl,⟨Qd,Qd⟩,_,rfl,_,_,rfl,rfl,_,_,rfl,rfl,(by show(0:Int)<26;decide),"abcdefghijklmnopqrstuvwxyz",_,97+(j2+i)%26,rfl,rfl,(by rw[xq];decide),?_,_,rfl,_,_,rfl,rfl,SL (by rw[hl];show 1+k<=100;omega),rfl,?_,_,rfl⟩
   ·rw[show(p/156+(0+(i:Int)))%26=(((j2+i)%26:Nat):Int)by omega];exact xP (Nat.mod_lt _ Qd)
   ·rw[List.range_succ,List.map_append,List.map_append];rfl
  obtain⟨rfl,rfl,o',rfl⟩:=h;have xe:(upd H4 ta (.lst (((List.range (2:Int).toNat).map λm=>iE k (j2+m)).map V.str))) ta=some (.lst [.str (iE k j2),.str (iE k (j2+1))]):=ac;have s2:Same H4 (upd H4 ta (.lst (((List.range (2:Int).toNat).map λm=>iE k (j2+m)).map V.str))):=Same.new yj;generalize upd H4 ta (.lst (((List.range (2:Int).toNat).map λm=>iE k (j2+m)).map V.str))=H5 at xe s2;have N:=N9.of hk j j2 j3;replace G:=s2 _ _ G;replace hS:=(s1.trans s2).seq hS;generalize fj k j=p0 at N G;generalize fj k (j+1)=p1 at N G;generalize fj k (j+2)=p2 at N G;generalize iE k j2=t0 at N xe;generalize iE k (j2+1)=t1 at N xe;clear s1 s2 yi yj;intro b db hb yf nb;refine⟨b,db,rfl,ac,λn ds J M H6 BA kp=>⟨rfl,?_⟩⟩;have s3:Same H5 H6:=λc o e=>kp c o (by rw[ah (ai e hb),ah (ai e yf)];exact e) (ai e hb);have yo:∀i y,[p0,p1,p2][i]?=some y->nameB y=true/\y∉ [p0,p1,p2].take i/\[p0,p1,p2].take (i+1)=[p0,p1,p2].take i++[y]/\i<3:=λi y h=>by
   match i,h with
   |0,h=>cases h;exact⟨N.n0,List.not_mem_nil,rfl,Qd⟩
   |1,h=>cases h;exact⟨N.n1,λz=>N.a01 (List.mem_singleton.mp z).symm,rfl,Qd⟩
   |2,h=>cases h;exact⟨N.n2,λz=>(List.mem_cons.mp z).elim (λz=>N.a02 z.symm) λz=>N.a12 (List.mem_singleton.mp z).symm,rfl,Qd⟩
  refine⟨λu H'=>iP H5 H'/\BookAt B C H' b n ds J M ⟨[p0,p1,p2],[]⟩ []/\GS ⟨[p0,p1,p2],[]⟩/\∃o,u=[some (.ref a),some (.int p),some (.str "abcdefghijklmnopqrstuvwxyz"),some (.str (nX k)),some (.ref pa),some (.ref ta),some (.ref b),o,none,none,none,none,none],?_,?_⟩
  ·refine⟨_,rfl,pa,rfl,⟨_,bp.of (s3 _ _ G)⟩,cC (K:=K) (a:=pa) (xs:=[p0,p1,p2].map V.str) (λi u H'=>iP H5 H'/\BookAt B C H' b n ds J M ⟨[p0,p1,p2].take i,[]⟩ []/\GS ⟨[p0,p1,p2].take i,[]⟩/\∃o,u=[some (.ref a),some (.int p),some (.str "abcdefghijklmnopqrstuvwxyz"),some (.str (nX k)),some (.ref pa),some (.ref ta),some (.ref b),o,none,none,none,none,none])
    ⟨cA s3,BA,GS.nil,none,rfl⟩ (λi u H' _ h=>bp.of (h.1.lst G)) (λi x u H' Y h=>?_) (λu H' h=>h)⟩
   obtain⟨kd,xd,g,o,rfl⟩:=h;rw[List.getElem?_map]at Y;cases ey:[p0,p1,p2][i]? with
   |none=>rw[ey]at Y;cases Y
   |some y=>
    rw[ey]at Y;cases Y;obtain⟨ny,no,et,hi⟩:=yo i y ey;obtain⟨hj,g'⟩:=g.place ny no (by rw[List.length_take];show min i 3<20;omega);obtain⟨dx,h1⟩:=xd.ob;refine⟨_,rfl,b,dx,_,rfl,h1,bX _ _ Qk Qk,_,rfl,b,n,ds,J,M,_,[],y,rfl,xd,g,(aA ny).T,Qd,λ_=>⟨g',λe he=>(nomatch he),λv H' R L=>?_⟩,λe z=>by rw[hj]at z;cases z⟩;rw[et];exact⟨kd.trans L,R,g',_,rfl⟩
  rintro _ H7⟨kd,xd,g,o7,rfl⟩;clear yo s3 kp BA hb yf nb;obtain⟨dx,h1⟩:=xd.ob;have x0:p0∈ [p0,p1,p2]:=List.mem_cons_self;have yh:p1∈ [p0,p1,p2]:=List.mem_cons_of_mem _ List.mem_cons_self;have x1:p2∈ [p0,p1,p2]:=List.mem_cons_of_mem _ (List.mem_cons_of_mem _ List.mem_cons_self);obtain⟨hj,ed,g1⟩:=g.tie (r:=⟨t0,p0,p1,2,3⟩) N.m0 List.not_mem_nil x0 yh N.a01 (by show(1:Int)<=2;decide) (by show 0<40;decide);refine⟨_,rfl,b,dx,_,rfl,h1,bX _ _ Qk Qk,_,rfl,ta,_,_,.str t0,rfl,rfl,bp.of (kd.lst xe),rfl,_,rfl,pa,_,_,.str p0,rfl,rfl,bp.of (kd.lst G),rfl,_,rfl,pa,_,_,.str p1,rfl,rfl,bp.of (kd.lst G),rfl,b,n,ds,J,M,_,[],⟨t0,p0,p1,2,3⟩,rfl,xd,g,⟨(aA N.m0).T,(aA N.n0).T,(aA N.n1).T,by show me 2;unfold me;decide⟩,Qd,λ_=>⟨g1,λe he=>(nomatch he),λv H8 R L=>?_⟩,λe z=>by rw[hj]at z;cases z⟩;rw[ed]at R g1;replace L:=kd.trans L;obtain⟨y3,h2⟩:=R.ob;obtain⟨yg,yb,g2⟩:=g1.tie (r:=⟨t1,p1,p2,1,-1⟩) N.m1 (λz=>N.b01 (List.mem_singleton.mp z).symm) yh x1 N.a12 (by show(1:Int)<=1;decide) (by show 1<40;decide);refine⟨_,rfl,b,y3,_,rfl,h2,bX _ _ Qk Qk,_,rfl,ta,_,_,.str t1,rfl,rfl,bp.of (L.lst xe),rfl,_,rfl,pa,_,_,.str p1,rfl,rfl,bp.of (L.lst G),rfl,_,rfl,pa,_,_,.str p2,rfl,rfl,bp.of (L.lst G),rfl,_,rfl,b,n,ds,J,M,_,[],⟨t1,p1,p2,1,-1⟩,rfl,R,g1,⟨(aA N.m1).T,(aA N.n1).T,(aA N.n2).T,by show me 1;unfold me;decide⟩,Qd,λ_=>⟨g2,λe he=>(nomatch he),λv H9 xg xk=>?_⟩,λe z=>by rw[yg]at z;cases z⟩;rw[yb]at xg g2;replace xk:=L.trans xk;change BookAt B C H9 b n ds J M (S9 p0 p1 p2 t0 t1) []at xg;change GS (S9 p0 p1 p2 t0 t1)at g2;clear xd R kd L g g1 hj yg ed yb h1 h2;have ln:(s_ k j3).length<=12:=(aA N.nn).1;refine⟨_,rfl,_,rfl,_,rfl,_,_,rfl,rfl,⟨Qd,Qd⟩,_,_,rfl,rfl,(by show(0:Int)<26;decide),"abcdefghijklmnopqrstuvwxyz",_,97+j3%26,rfl,rfl,(by rw[xq];decide),?_,_,_,rfl,rfl,SL (by rw[hl];show k+1<=100;omega),_,_,rfl,rfl,SL (by rw[cJ,hl,show("s":Str).length=1 by decide+kernel];show k+1+1<=100;omega),?_⟩
  ·rw[show p/7%26=((j3%26:Nat):Int)by omega];exact xP (Nat.mod_lt _ Qd)
  show eV 7 (.str (s_ k j3)) _ H9 _;generalize s_ k j3=nm at N ln;obtain⟨dx,h1⟩:=xg.ob;have hP:=xk.lst G;refine⟨_,rfl,b,dx,_,rfl,h1,bX _ _ Qk Qk,_,rfl,_,rfl,pa,_,_,.str p0,rfl,rfl,bp.of hP,rfl,_,rfl,pa,_,_,.str p2,rfl,rfl,bp.of hP,rfl,SL (show 3<=100 by decide),λct xj=>?_⟩;have z1:=Same.new (o:=.tup [.str "way",.str p0,.str p2]) xj;have xa:(upd H9 ct (.tup [.str "way",.str p0,.str p2])) ct=some (.tup [.str "way",.str p0,.str p2]):=ac;show gg _ (upd H9 ct (.tup [.str "way",.str p0,.str p2])) _;generalize upd H9 ct (.tup [.str "way",.str p0,.str p2])=G1 at z1 xa;have yp:∀y∈a_ 10 [] (.tuple [.str "way",.str p0,.str p2]),y∈(S9 p0 p1 p2 t0 t1).pl:=by rw[uL];exact gn x0 x1
  refine⟨b,n,ds,J,M,S9 p0 p1 p2 t0 t1,[],nm,.ref ct,.tuple [.str "way",.str p0,.str p2],rfl,xg.same z1,g2,(aA N.nn).T,Qd,.inr ⟨_,_,xa,rfl,.cons ⟨Qk,rfl⟩ (.cons ⟨bN N.n0,rfl⟩ (.cons ⟨bN N.n2,rfl⟩ .nil))⟩,fZ Qk (by show 2<=3;decide) (gn (f_ _ _) (f_ _ _)),eZ (by show 3<=100;decide) (jO (cX _ _) (cX _ _) (cX _ _)),λy hy=>aA (g2.okP y (yp y hy)),λz=>(by rw[N.nn]at z;cases z),λ_ z=>(nomatch z),λ_ _ y z=>(by rw[tS yp]at z;cases z),λ_ _ _=>⟨.inl ⟨p0,p2,rfl,x0,x1,S9.way _ rfl⟩,λso O G2 fd xh xp=>?_⟩⟩;have we:=fd.1 nm p0 p2 rfl;have xz:so=true:=by obtain⟨_,_,_,_,e,_⟩:=we;exact e
  subst xz;refine⟨_,_,rfl,rfl,_,rfl,aJ rfl ?_⟩;replace xp:=xk.trans (iP.trans (cA z1) xp);change BookAt B C G2 b n ds J M (S9 p0 p1 p2 t0 t1) [⟨nm,.tuple [.str "way",.str p0,.str p2],true,O⟩]at xh;have y0:e_ 10 (.tuple [.str "way",.str p0,.str p2]):=eZ (by show 3<=100;decide) (jO (cX _ _) (cX _ _) (cX _ _));have xy:=fd.2.2;obtain⟨I,xn⟩:∃I:cZ,I=⟨nm,.tuple [.str "way",.str p0,.str p2],true,O⟩:=⟨_,rfl⟩;have X:I.nm=nm:=by rw[xn]
  have S:e_ 10 I.cl/\e_ 10 I.pa:=by rw[xn];exact⟨y0,xy⟩
  rw[<-xn]at xh we;clear xn fd z1 xa xg xk hP xj;refine⟨_,rfl,b,n,ds,J,M,S9 p0 p1 p2 t0 t1,I,rfl,xh,g2,by rw[X];exact(aA N.nn).T,by rw[X];exact bN N.nn,S.1,S.2,λvb G3 s3 yr=>?_⟩;have x6:=xh.same s3;have x3:=xp.trans (cA s3);clear xh xp s3;refine⟨λu H'=>iP H5 H'/\BookAt B C H' b n ds J M (S9 p0 p1 p2 t0 t1) [I]/\∃o9 U,u=[some (.ref a),some (.int p),some (.str "abcdefghijklmnopqrstuvwxyz"),some (.str (nX k)),some (.ref pa),some (.ref ta),some (.ref b),some (.str nm),some vb,o9,U,none,none],?_,?_⟩
  ·refine⟨_,rfl,_,rfl,a,_,rfl,x3.seq hS,λy1 k1=>?_⟩;have w1:=Same.new (o:=.lst (eR (ns.map V.int) none (some 60))) k1;have f1:(upd G3 y1 (.lst (eR (ns.map V.int) none (some 60)))) y1=some (.lst (eR (ns.map V.int) none (some 60))):=ac;have cl:=fA (ns.map V.int) none (some 60);rw[List.length_map]at cl;refine⟨_,rfl,i1,λy2 k2=>?_⟩;have w2:=Same.new (o:=.lst [.int p]) k2;refine⟨y1,y2,_,_,rfl,rfl,w2 _ _ f1,ac,SL (show _+1<=100 by omega),λsc y5=>⟨sc,rfl,⟨_,bp.of ac⟩,?_⟩⟩;have w3:=(w1.trans w2).upd (o:=.lst (eR (ns.map V.int) none (some 60)++[.int p])) y5;obtain⟨ks,y4⟩:=qx ns p;rw[y4]at w3⊢;have yd:(upd (upd (upd G3 y1 (.lst (eR (ns.map V.int) none (some 60)))) y2 (.lst [.int p])) sc (.lst (ks.map V.int))) sc=some (.lst (ks.map V.int)):=ac;generalize upd (upd (upd G3 y1 (.lst (eR (ns.map V.int) none (some 60)))) y2 (.lst [.int p])) sc (.lst (ks.map V.int))=G4 at w3 yd;have Z:=x6.same w3;have xf:=x3.trans (cA w3);have ys:=yr.same w3;have hP:=xf.lst G;have hT:=xf.lst xe;refine cC (K:=K) (a:=sc) (xs:=ks.map V.int) (λi u H'=>Same G4 H'/\∃o9 U,u=[some (.ref a),some (.int p),some (.str "abcdefghijklmnopqrstuvwxyz"),some (.str (nX k)),some (.ref pa),some (.ref ta),some (.ref b),some (.str nm),some vb,o9,U,none,none])
    ⟨Same.refl _,none,none,rfl⟩ (λi u H' _ h=>bp.of (h.1 _ _ yd)) (λi x u H' Y h=>?_) (λu H' h=>⟨xf.trans (cA h.1),Z.same h.1,h.2⟩)
   obtain⟨s0,o9,U,rfl⟩:=h;rw[List.getElem?_map]at Y;cases hc:ks[i]? with
   |none=>rw[hc]at Y;cases Y
   |some cell=>
    rw[hc]at Y;cases Y;refine⟨_,rfl,_,rfl,_,rfl,_,rfl,cell,pa,ta,nm,S9 p0 p1 p2 t0 t1,[I],k+1,p0,p1,p2,t0,t1,rfl,S9.w9 N g2 (by rw[List.map_singleton,X]),rfl,s0 _ _ hP,s0 _ _ hT,λt D rf G5 s5 et bd wl=>?_⟩;have y9:=s0.trans s5;refine⟨_,rfl,_,rfl,_,rfl,_,rfl,t,_,rfl,bj.of et,tY _ _,λd hd=>?_⟩;rw[tZ];have z6:=Same.new (o:=.tup D.tup) hd;have ed:(upd G5 d (.tup D.tup)) d=some (.tup D.tup):=ac;generalize upd G5 d (.tup D.tup)=G6 at z6 ed;have yw:=y9.trans z6;refine⟨b,n,ds,J,M,d,S9 p0 p1 p2 t0 t1,[I],D,rf,rfl,Z.same yw,g2,by show 1<=100;decide,jP S,ed,bd.same z6,wl.1,λl G7 s7 el=>?_⟩;refine⟨_,rfl,_,rfl,t,_,_,.str rf.word,rfl,rfl,bj.of (s7 _ _ (z6 _ _ et)),jH _ _,i1,λl2 xb=>?_⟩;have z8:=Same.new (o:=.lst [.str rf.word]) xb;refine⟨1,_,_,Qd,dP (z8 _ _ el) wl.2,dP ac wl.2,_,rfl,aJ (by show(!PyData.eqv _ _)=false;rw[gL];rfl) ?_⟩;generalize upd G7 l2 (.lst [.str rf.word])=G8 at z8;have yx:=(yw.trans s7).trans z8;refine⟨_,rfl,b,n,ds,J,M,S9 p0 p1 p2 t0 t1,I,rfl,Z.same yx,g2,by rw[X];exact(aA N.nn).T,by rw[X];exact bN N.nn,S.1,S.2,λv9 G9 s9 yq=>?_⟩;have yy:=yx.trans s9;exact⟨_,rfl,13,_,_,Qd,yq.rd,(ys.same yy).rd,_,rfl,aJ (by show(!PyData.eqv _ _)=false;rw[oS yq];rfl) ⟨yy,_,_,rfl⟩⟩
  rintro _ G4⟨xf,Z,o9,U,rfl⟩;clear x6 x3 yr;have ye:("fresh":Str)∉ [I].map (·.nm):=λz=>by rw[List.map_singleton,X]at z;exact N.fn (List.mem_singleton.mp z).symm
  obtain⟨dx,h1⟩:=Z.ob;refine⟨_,rfl,b,dx,_,rfl,h1,bX _ _ Qk Qk,i1,λct xj=>?_⟩;have z1:=Same.new (o:=.tup [.str "ring"]) xj;have xa:(upd G4 ct (.tup [.str "ring"])) ct=some (.tup [.str "ring"]):=ac;show gg _ (upd G4 ct (.tup [.str "ring"])) _;generalize upd G4 ct (.tup [.str "ring"])=G5 at z1 xa;have ya:e_ 10 (.tuple [.str "ring"]):=eZ (by show 1<=100;decide) (jP (cX _ _));refine⟨b,n,ds,J,M,S9 p0 p1 p2 t0 t1,[I],"fresh",.ref ct,.tuple [.str "ring"],rfl,Z.same z1,g2,(aA bv).T,by show 1<=100;decide,.inr ⟨_,_,xa,rfl,.cons ⟨Qk,rfl⟩ .nil⟩,fZ Qk (by show 0<=3;decide) (λ_ h=>(nomatch h)),ya,λy hy=>(by rw[lv]at hy;exact nomatch hy),λz=>(by rw[bv]at z;cases z),λ_ z=>absurd z ye,λ_ _ y z=>(by rw[lv]at z;cases z),λ_ _ _=>⟨.inr ⟨rfl,by show 1<=3;decide,S9.ring N⟩,λso O G6 fd xi yk=>?_⟩⟩;obtain⟨xz,rows,yc,x2⟩:=fd.2.1 rfl;have xy:=fd.2.2;subst xz;have yl:=xf.trans (iP.trans (cA z1) yk);clear fd z1 xa yk Z xf h1 xj;have tl:∀e∈ [I]++[(⟨"fresh",.tuple [.str "ring"],false,O⟩:cZ)],e.nm="fresh"->e=⟨"fresh",.tuple [.str "ring"],false,O⟩:=λe he hn=>by
   rcases List.mem_cons.mp he with rfl|he
   ·rw[X]at hn;exact absurd hn N.fn
   ·exact List.mem_singleton.mp he
  have xo:("fresh":Str)∈([I]++[(⟨"fresh",.tuple [.str "ring"],false,O⟩:cZ)]).map (·.nm):=List.mem_cons_of_mem _ List.mem_cons_self;have xx:∀e∈ [I]++[(⟨"fresh",.tuple [.str "ring"],false,O⟩:cZ)],e_ 10 e.cl/\e_ 10 e.pa:=gn S ⟨ya,xy⟩;obtain⟨dx,h1⟩:=xi.ob;refine⟨_,rfl,b,dx,_,rfl,h1,bX _ _ Qk Qk,b,n,ds,J,M,S9 p0 p1 p2 t0 t1,_,"fresh",rfl,xi,(aA bv).T,xx,λe he hn v H'⟨hH,hv⟩=>?_,λz=>absurd xo z⟩;subst hH hv;rw[tl e he hn];refine⟨_,_,rfl,rfl,_,rfl,aJ rfl ?_⟩;refine⟨_,rfl,b,dx,_,rfl,h1,bX _ _ Qk Qk,b,n,ds,J,M,S9 p0 p1 p2 t0 t1,_,"fresh",rfl,xi,(aA bv).T,xx,λe he hn v G7⟨s7,x5⟩=>?_,λz=>absurd xo z⟩;rw[tl e he hn]at x5;refine⟨Qd,λl hl=>?_⟩;have z8:=Same.new (o:=.lst []) hl;have el:(upd G7 l (.lst [])) l=some (.lst []):=ac;show zP _ false v (.ref l) (upd G7 l (.lst [])) _;generalize upd G7 l (.lst [])=G8 at z8 el;refine⟨10,_,.list [],Qd,(x5.same z8).rd,.inl ⟨_,_,bp.of el,rfl,.nil⟩,_,rfl,aJ ?_ ?_⟩
  ·show(if false=true then _ else PyData.eqv O (.list []))=false;rw[yc];cases rows with
   |nil=>exact absurd rfl x2
   |cons r rs=>simp[PyData.eqv,PyData.eqvAll]
  have s8:=s7.trans z8;have xv:=xi.same s8;have ym:=yl.trans (cA s8);obtain⟨dx,h1⟩:=xv.ob;refine⟨_,rfl,b,dx,_,rfl,h1,bX _ _ Qk Qk,b,n,ds,J,M,S9 p0 p1 p2 t0 t1,_,"fresh",rfl,xv,(aA bv).T,λ_ G9 xw xt=>?_,λz=>absurd xo z⟩;have ef:(([I]++[(⟨"fresh",.tuple [.str "ring"],false,O⟩:cZ)]).filter λe=>!decide (e.nm=("fresh":Str)))=[I]:=by
   show(I:: [(⟨"fresh",.tuple [.str "ring"],false,O⟩:cZ)]).filter _=_;rw[List.filter_cons_of_pos (by simp[X,N.fn]),List.filter_cons_of_neg Qs];rfl
  rw[ef]at xw;have yn:=ym.trans xt;clear xi xv yl ym xt s7 s8 z8 el x5 ef tl xo xx h1;refine⟨λu H'=>iP H5 H'/\BookAt B C H' b n ds J M (S9 p0 p1 p2 t0 t1) [I]/\∃xc,u=[some (.ref a),some (.int p),some (.str "abcdefghijklmnopqrstuvwxyz"),some (.str (nX k)),some (.ref pa),some (.ref ta),some (.ref b),some (.str nm),some vb,o9,U,xc,none],?_,?_⟩
  ·refine⟨SL (show 4<=100 by decide),λwl y6=>⟨wl,rfl,⟨_,bp.of ac⟩,?_⟩⟩;have w1:=Same.new (o:=.lst [.str "forget",.str "claim",.str "verdict",.str "paper"]) y6;have ew:(upd G9 wl (.lst [.str "forget",.str "claim",.str "verdict",.str "paper"])) wl=some (.lst ((["forget","claim","verdict","paper"]:List Str).map V.str)):=ac;generalize upd G9 wl (.lst [.str "forget",.str "claim",.str "verdict",.str "paper"])=GA at w1 ew;have xm:=xw.same w1;have x4:=yn.trans (cA w1);refine cC (K:=K) (a:=wl) (xs:=(["forget","claim","verdict","paper"]:List Str).map V.str) (λi u H'=>Same GA H'/\∃xc,u=[some (.ref a),some (.int p),some (.str "abcdefghijklmnopqrstuvwxyz"),some (.str (nX k)),some (.ref pa),some (.ref ta),some (.ref b),some (.str nm),some vb,o9,U,xc,none])
    ⟨Same.refl _,none,rfl⟩ (λi u H' _ h=>bp.of (h.1 _ _ ew)) (λi x u H' Y h=>?_) (λu H' h=>⟨x4.trans (cA h.1),xm.same h.1,h.2⟩)
   obtain⟨s0,xc,rfl⟩:=h;rw[List.getElem?_map]at Y;cases hc:(["forget","claim","verdict","paper"]:List Str)[i]? with
   |none=>rw[hc]at Y;cases Y
   |some y=>
    rw[hc]at Y;cases Y;obtain⟨D,eD,bd⟩:=AT hc;refine⟨_,rfl,_,rfl,SL (show 2<=100 by decide),λt ht=>?_⟩;have z1:=Same.new (o:=.tup [.str y,.str "fresh"]) ht;have et:(upd H' t (.tup [.str y,.str "fresh"])) t=some (.tup [.str y,.str "fresh"]):=ac;show gg _ (upd H' t (.tup [.str y,.str "fresh"])) _;generalize upd H' t (.tup [.str y,.str "fresh"])=GB at z1 et;have yv:=s0.trans z1;refine⟨b,n,ds,J,M,t,S9 p0 p1 p2 t0 t1,[I],D,.claim,rfl,xm.same yv,g2,by show 1<=100;decide,jP S,by rw[eD];exact et,bd _ _ _ ye,Qk,λl GC sC el=>⟨i1,λl2 xb=>?_⟩⟩;have z8:=Same.new (o:=.lst [.str "claim"]) xb;exact⟨1,_,_,Qd,dP (z8 _ _ el) Qk,dP ac Qk,_,rfl,aJ (by rw[if_pos rfl,show Rf.claim.word="claim"from rfl,gL];rfl) ⟨(yv.trans sC).trans z8,_,rfl⟩⟩
  rintro _ GA⟨x4,xm,xc,rfl⟩;clear xw yn;have g0:GS (Sz (S9 p0 p1 p2 t0 t1) 0):=g2;refine⟨λu H'=>iP H5 H'/\BookAt B C H' b n ds J M (Sz (S9 p0 p1 p2 t0 t1) 17) [I]/\GS (Sz (S9 p0 p1 p2 t0 t1) 17)/\∃xl,u=[some (.ref a),some (.int p),some (.str "abcdefghijklmnopqrstuvwxyz"),some (.str (nX k)),some (.ref pa),some (.ref ta),some (.ref b),some (.str nm),some vb,o9,U,xc,xl],?_,?_⟩
  ·refine⟨17,rfl,Qd,Qd,ka (n:=(17:Int).toNat) (λi u H'=>iP H5 H'/\BookAt B C H' b n ds J M (Sz (S9 p0 p1 p2 t0 t1) i) [I]/\GS (Sz (S9 p0 p1 p2 t0 t1) i)/\og (Sz (S9 p0 p1 p2 t0 t1) i) I/\∃xl,u=[some (.ref a),some (.int p),some (.str "abcdefghijklmnopqrstuvwxyz"),some (.str (nX k)),some (.ref pa),some (.ref ta),some (.ref b),some (.str nm),some vb,o9,U,xc,xl])
    ⟨x4,xm,g0,we,none,rfl⟩ (λi u H' hi h=>?_) (λu H' h=>⟨h.1,h.2.1,h.2.2.1,h.2.2.2.2⟩)⟩
   obtain⟨kd,x8,gi,wi,xl,rfl⟩:=h;have hi:i<17:=hi;obtain⟨hj,g'⟩:=Sz.step N hi gi;obtain⟨dx,h1⟩:=x8.ob;refine⟨_,rfl,b,dx,_,rfl,h1,bX _ _ Qk Qk,_,rfl,_,rfl,"abcdefghijklmnopqrstuvwxyz",_,97+i,rfl,rfl,(by rw[xq];decide),?_,_,_,rfl,rfl,SL (by rw[show("z":Str).length=1 by decide+kernel];show 1+1<=100;decide),_,_,rfl,rfl,SL (by rw[cJ,show("z":Str).length=1 by decide+kernel,show("zz":Str).length=2 by decide+kernel];show 1+1+2<=100;decide),?_⟩
   ·rw[Int.zero_add];exact xP Qo
   refine⟨b,n,ds,J,M,_,[I],jK i,rfl,x8,gi,(aA (qR i hi).1).T,by show 1<=100;decide,λ_=>⟨g',jP wi.place,λv zb R L=>?_⟩,λe z=>by rw[hj]at z;cases z⟩;have w':=wi.place (x:=jK i);rw[Sz.did]at R g' w';exact⟨kd.trans L,R,g',w',_,rfl⟩
  rintro _ GB⟨y7,x7,gB,xl,rfl⟩;refine⟨_,rfl,SL (show 2<=100 by decide),λt ht=>?_⟩;have z1:=Same.new (o:=.tup [.str "place",.str "another"]) ht;have et:(upd GB t (.tup [.str "place",.str "another"])) t=some (.tup [.str "place",.str "another"]):=ac;show gg _ (upd GB t (.tup [.str "place",.str "another"])) _;generalize upd GB t (.tup [.str "place",.str "another"])=GC at z1 et;refine⟨b,n,ds,J,M,t,Sz (S9 p0 p1 p2 t0 t1) 17,[I],.place "another",.err .tooMany,rfl,x7.same z1,gB,by show 1<=100;decide,jP S,et,Bz N,Qk,λl GD sD el=>⟨i1,λl2 xb=>?_⟩⟩;have z8:=Same.new (o:=.lst [.str "many"]) xb;refine⟨1,_,_,Qd,dP (z8 _ _ el) Qk,dP ac Qk,_,rfl,aJ (by rw[if_pos rfl,show(Rf.err .tooMany).word ="many"from rfl,gL];rfl) ?_⟩;generalize upd GD l2 (.lst [.str "many"])=GE at z8;have s9:=(z1.trans sD).trans z8;have yz:=x7.same s9;have hP:=(y7.trans (cA s9)).lst G;refine⟨_,rfl,_,rfl,pa,_,_,.str p0,rfl,rfl,bp.of hP,rfl,SL (show 6<=100 by decide),λt ht=>?_⟩;have y1:=Same.new (o:=.tup [.str "tie",.str "fresh",.str p0,.str "another",.int 1,.int 1]) ht;have et:(upd GE t (.tup [.str "tie",.str "fresh",.str p0,.str "another",.int 1,.int 1])) t=some (.tup [.str "tie",.str "fresh",.str p0,.str "another",.int 1,.int 1]):=ac;show gg _ (upd GE t (.tup [.str "tie",.str "fresh",.str p0,.str "another",.int 1,.int 1])) _;generalize upd GE t (.tup [.str "tie",.str "fresh",.str p0,.str "another",.int 1,.int 1])=GF at y1 et;refine⟨b,n,ds,J,M,t,Sz (S9 p0 p1 p2 t0 t1) 17,[I],.tie ⟨"fresh",p0,"another",1,1⟩,.err .tooMany,rfl,yz.same y1,gB,by show 1<=100;decide,jP S,et,By N,Qk,λl GG sG el=>⟨i1,λl2 xb=>?_⟩⟩;have z9:=Same.new (o:=.lst [.str "many"]) xb;refine⟨1,_,_,Qd,dP (z9 _ _ el) Qk,dP ac Qk,?_⟩;show Q (.bl (if false=true then _ else PyData.eqv (.list [.str (Rf.err .tooMany).word]) (.list [.str "many"]))) _;rw[if_neg Bool.false_ne_true,show(Rf.err .tooMany).word ="many"from rfl,gL];exact q _
end
theorem CQ(K:PySem.W.Frag):PySem.W.kitOne K (.type "int") (.type "bool")=some false:=by
 first|rfl|kernel_rfl
structure Fn(K:PySem.W.Frag)(mg:Str->Option Value)(x:Str)(st:Stmt):Prop where
 ex:∃f fd,bZ K x x st f fd/\mg x=some (.ref f)
structure Mt(K:PySem.W.Frag)(C:Addr)(x qual:Str)(st:Stmt):Prop where
 ex:∃f fd,bZ K x qual st f fd/\qL K C x f
theorem bw{K:PySem.W.Frag}{h:Heap}{mg:Str->Option Value}{x:Str}{st:Stmt}{f:Addr}{i:Value}{od g:Option Addr}{e:Array (Option Value)}{kV d j b ct:Value}(X:K.In h)(G:h.Ns mainGlobals mg)(a:PySem.W.nsIn K mainGlobals x=some (some (.ref f)))
  (l:K.lookup f=some ⟨i,od,.func (PySem.W.fnOf x x (aq st) (ao st) (af st) .none kV d j g b ct),e⟩)(c:PySem.W.codeIn K b x=true)(k:PySem.W.keepIn K (.ref f)=true):Fn K mg x st:=
 ⟨f,_,kT l c k,PySem.W.mg_of X G a⟩
theorem cq{K:PySem.W.Frag}{C:Addr}{x qual:Str}{st:Stmt}{f:Addr}{h:Value}{od g:Option Addr}{e:Array (Option Value)}{kV d j b ct:Value}(a:PySem.W.findIn K (.ref C) x=some (some (.ref f)))(i:PySem.W.isFn K (.ref f)=true)
  (l:K.lookup f=some ⟨h,od,.func (PySem.W.fnOf x qual (aq st) (ao st) (af st) .none kV d j g b ct),e⟩)(c:PySem.W.codeIn K b qual=true)(k:PySem.W.keepIn K (.ref f)=true):Mt K C x qual st:=
 ⟨f,_,kT l c k,a,i,k⟩
section
variable{P:Program}{w:World}{K:PySem.W.Frag}{mg:Str->Option Value}{base:Heap}{C:Addr}{k:Nat}{x qual:Str}{st:Stmt}{ps:List Str}{sp:Sp}
theorem Fn.can(F:Fn K mg x st)(ok:∀f fd,bZ K x x st f fd->FnOk P w K mg base cY k f fd ps sp)
  (h:∀(kV b d:Value)(c:Option Addr)(a ct:Value)(us:List Value),us.length=ps.length->bindArgs (PySem.W.fnOf x x (aq st) (ao st) (af st) .none kV b d c a ct) ⟨us,[]⟩=pure (ps.zip us)):cj P w K mg base k x ps sp:=by
 obtain⟨f,fd,G,m⟩:=F.ex;exact⟨f,fd,ok f fd G,m,G.kp,G.binds h⟩
theorem Mt.can(F:Mt K C x qual st)(ok:∀f fd,bZ K x qual st f fd->FnOk P w K mg base cY k f fd ps sp)
  (h:∀(kV b d:Value)(c:Option Addr)(a ct:Value)(us:List Value),us.length=ps.length->bindArgs (PySem.W.fnOf x qual (aq st) (ao st) (af st) .none kV b d c a ct) ⟨us,[]⟩=pure (ps.zip us)):dN P w K mg base k C x ps sp:=by
 obtain⟨f,fd,G,m⟩:=F.ex;exact⟨f,fd,ok f fd G,m,G.binds h⟩
theorem Mt.canI(F:Mt K C "__init__" qual st)(mk:PySem.W.makesIn K C=true)(kc:PySem.W.keepIn K (.ref C)=true)(ok:∀f fd,bZ K "__init__" qual st f fd->FnOk P w K mg base cY k f fd ps sp)
  (h:∀(kV b d:Value)(c:Option Addr)(a ct:Value)(us:List Value),us.length=ps.length->bindArgs (PySem.W.fnOf "__init__" qual (aq st) (ao st) (af st) .none kV b d c a ct) ⟨us,[]⟩=pure (ps.zip us)):om P w K mg base k C ps sp:=by
 obtain⟨f,fd,G,m⟩:=F.ex;exact⟨f,fd,ok f fd G,⟨mk,m.at_,m.fn,kc⟩,G.binds h⟩
end
theorem Fn.canX{P:Program}{w:World}{K:PySem.W.Frag}{mg:Str->Option Value}{base:Heap}{k:Nat}{x:Str}{st:Stmt}{ps:List Str}{sp:Sp}(F:Fn K mg x st)(ok:∀f fd,bZ K x x st f fd->FnOk P w K mg base (e8 P w) k f fd ps sp)
  (h:∀(kV b d:Value)(c:Option Addr)(a ct:Value)(us:List Value),us.length=ps.length->bindArgs (PySem.W.fnOf x x (aq st) (ao st) (af st) .none kV b d c a ct) ⟨us,[]⟩=pure (ps.zip us)):eU P w K mg base k x ps sp:=by
 obtain⟨f,fd,G,m⟩:=F.ex;exact⟨f,fd,ok f fd G,m,G.kp,G.binds h⟩
theorem Mt.canX{P:Program}{w:World}{K:PySem.W.Frag}{mg:Str->Option Value}{base:Heap}{C:Addr}{k:Nat}{x qual:Str}{st:Stmt}{ps:List Str}{sp:Sp}(F:Mt K C x qual st)(ok:∀f fd,bZ K x qual st f fd->FnOk P w K mg base (e8 P w) k f fd ps sp)
  (h:∀(kV b d:Value)(c:Option Addr)(a ct:Value)(us:List Value),us.length=ps.length->bindArgs (PySem.W.fnOf x qual (aq st) (ao st) (af st) .none kV b d c a ct) ⟨us,[]⟩=pure (ps.zip us)):ba P w K mg base k C x ps sp:=by
 obtain⟨f,fd,G,m⟩:=F.ex;exact⟨f,fd,ok f fd G,m,G.binds h⟩
theorem D2{p:List Value->Prop}(h:∀a,p [a]):∀us:List Value,us.length=1->p us
 |[a],_=>h a
theorem D1{p:List Value->Prop}(h:∀a b,p [a,b]):∀us:List Value,us.length=2->p us
 |[a,b],_=>h a b
theorem D0{p:List Value->Prop}(h:∀a b c,p [a,b,c]):∀us:List Value,us.length=3->p us
 |[a,b,c],_=>h a b c
theorem DZ{p:List Value->Prop}(h:∀a b c d,p [a,b,c,d]):∀us:List Value,us.length=4->p us
 |[a,b,c,d],_=>h a b c d
theorem DY{p:List Value->Prop}(h:∀a b c d e f,p [a,b,c,d,e,f]):∀us:List Value,us.length=6->p us
 |[a,b,c,d,e,f],_=>h a b c d e f
structure DK(K:PySem.W.Frag)(mg:Str->Option Value)(C B:Addr):Prop where
 T:de K mg C
 mks:PySem.W.makesIn K C=true
 kc:PySem.W.keepIn K (.ref C)=true
 tb:lm K mg B
 mksB:PySem.W.makesIn K B=true
 kcB:PySem.W.keepIn K (.ref B)=true
 tw:AA mg
 ts:Cc mg
 errs:∃(ec:gr->Addr)(cN Cn cc fI c6 c9:Addr)(gd:FuncData),lh K mg ec/\AL K mg cN/\xS K mg Cn cc fI/\DH K mg ec cN Cn cc c6 c9/\bZ K "__init__" "NoPlace.__init__" s_NoPlace_init fI gd
 made:Fn K mg "is_made_of" s_is_made_of
 name:Fn K mg "is_name" s_is_name
 whole:Fn K mg "is_whole" s_is_whole
 rname:Fn K mg "refuse_no_name" s_refuse_no_name
 rwidth:Fn K mg "refuse_no_width" s_refuse_no_width
 rmore:Fn K mg "refuse_more" s_refuse_more
 isPl:Fn K mg "is_place" s_is_place
 byN:Fn K mg "ties_by_name" s_ties_by_name
 isT:Fn K mg "is_tie" s_is_tie
 stops:Fn K mg "walk_stops" s_walk_stops
 wend:Fn K mg "walk_end" s_walk_end
 steps:Fn K mg "steps_of" s_steps_of
 by_:Fn K mg "steps_by_begin" s_steps_by_begin
 bfs:Fn K mg "steps_to_places" s_steps_to_places
 membs:Fn K mg "members_of" s_members_of
 wpap:Fn K mg "within_paper" s_within_paper
 mpap:Fn K mg "member_paper" s_member_paper
 fway:Fn K mg "find_way" s_find_way
 islow:Fn K mg "is_lower" s_is_lower
 lower:Fn K mg "lower_prices" s_lower_prices
 fring:Fn K mg "find_ring" s_find_ring
 fplain:Fn K mg "find_plain" s_find_plain
 fclaim:Fn K mg "find_claim" s_find_claim
 sway:Fn K mg "shows_way" s_shows_way
 lplain:Fn K mg "look_plain" s_look_plain
 lclaim:Fn K mg "look_claim" s_look_claim
 lookC:Fn K mg "look_at_claim" s_look_at_claim
 strg:Fn K mg "refuse_strangers" s_refuse_strangers
 unt:Fn K mg "untold_names" s_untold_names
 nall:Fn K mg "names_of_all" s_names_of_all
 tells:Fn K mg "tells_variable" s_tells_variable
 cop:Fn K mg "copied" s_copied
 asked:Fn K mg "_law_asked" s_l_asked
 class_:Fn K mg "_law_class" s_l_class
 wrong:Fn K mg "_law_wrong" s_l_wrong
 look:Fn K mg "_law_look" s_l_look
 init:Mt K C "__init__" "Net.__init__" s_Net_init
 place:Mt K C "place" "Net.place" s_Net_place
 tie:Mt K C "tie" "Net.tie" s_Net_tie
 cut:Mt K C "cut" "Net.cut" s_Net_cut
 alter:Mt K C "alter" "Net.alter" s_Net_alter
 reft:Mt K C "refuse_no_tie" "Net.refuse_no_tie" s_Net_refuse_no_tie
 places:Mt K C "places" "Net.places" s_Net_places
 ties:Mt K C "ties" "Net.ties" s_Net_ties
 twin:Mt K C "twin" "Net.twin" s_Net_twin
 binit:Mt K B "__init__" "Book.__init__" s_Book_init
 bplace:Mt K B "place" "Book.place" s_Book_place
 btie:Mt K B "tie" "Book.tie" s_Book_tie
 bcut:Mt K B "cut" "Book.cut" s_Book_cut
 balter:Mt K B "alter" "Book.alter" s_Book_alter
 bmend:Mt K B "mend_papers" "Book.mend_papers" s_Book_mend_papers
 bstate:Mt K B "state" "Book.state" s_Book_state
 bforget:Mt K B "forget" "Book.forget" s_Book_forget
 bref:Mt K B "refuse_no_claim" "Book.refuse_no_claim" s_Book_refuse_no_claim
 bnet:Mt K B "net" "Book.net" s_Book_net
 bclaims:Mt K B "claims" "Book.claims" s_Book_claims
 bclaim:Mt K B "claim" "Book.claim" s_Book_claim
 bverdict:Mt K B "verdict" "Book.verdict" s_Book_verdict
 bpaper:Mt K B "paper" "Book.paper" s_Book_paper
theorem Ai{P:Program}{w:World}{K:PySem.W.Frag}{mg:Str->Option Value}{base:Heap}{C B f:Addr}{fd:FuncData}(A:DK K mg C B)(F:bZ K "law" "law" s_law f fd):FnOk P w K mg base cY 27 f fd ["_law_script"] (lG K):=by
 have T:=A.T;have b:=A.tb;have c:=A.tw;have TS:=A.ts;have U:Az K mg:=⟨A.tells.ex,A.nall.ex,A.unt.ex⟩;obtain⟨ec,cN,Cn,cc,fI,c6,c9,gd,R,d,e,R2,G⟩:=A.errs;have made:cj P w K mg base 1 _ _ _:=A.made.can (λf fd F=>wL F T) λ_ _ _ _ _ _ us a=>match us,a with|[_,_],_=>rfl
 have name:cj P w K mg base 2 _ _ _:=A.name.can (λf fd F=>wJ F T made) λ_ _ _ _ _ _ us a=>match us,a with|[_],_=>rfl
 have whole:cj P w K mg base 1 _ _ _:=A.whole.can (λf fd F=>sI F T) λ_ _ _ _ _ _ us a=>match us,a with|[_],_=>rfl
 have rname:eU P w K mg base 3 _ _ _:=A.rname.canX (λf fd F=>l_ F T R name) λ_ _ _ _ _ _ us a=>match us,a with|[_],_=>rfl
 have rwidth:eU P w K mg base 2 _ _ _:=A.rwidth.canX (λf fd F=>kK F T R whole) λ_ _ _ _ _ _ us a=>match us,a with|[_],_=>rfl
 have rmore:eU P w K mg base 1 _ _ _:=A.rmore.canX (λf fd F=>ma F T R) λ_ _ _ _ _ _ us a=>match us,a with|[_,_],_=>rfl
 have init:om P w K mg base 1 C _ _:=A.init.canI A.mks A.kc (λf fd F=>wN F T) λ_ _ _ _ _ _ us a=>match us,a with|[_],_=>rfl
 have place:ba P w K mg base 4 C _ _ _:=A.place.canX (λf fd F=>qb F T R rname rmore) λ_ _ _ _ _ _ us a=>match us,a with|[_,_],_=>rfl
 have reft:ba P w K mg base 1 C _ _ _:=A.reft.canX (λf fd F=>nI F T R) λ_ _ _ _ _ _ us a=>match us,a with|[_,_],_=>rfl
 have cut:ba P w K mg base 2 C _ _ _:=A.cut.canX (λf fd F=>wP F T reft) λ_ _ _ _ _ _ us a=>match us,a with|[_,_],_=>rfl
 have alter:ba P w K mg base 3 C _ _ _:=A.alter.canX (λf fd F=>ql F T reft rwidth) λ_ _ _ _ _ _ us a=>match us,a with|[_,_,_,_],_=>rfl
 have tie:ba P w K mg base 4 C _ _ _:=A.tie.canX (λf fd F=>wH F T R rname rwidth rmore) λ_ _ _ _ _ _ us a=>match us,a with|[_,_,_,_,_,_],_=>rfl
 have places:dN P w K mg base 1 C _ _ _:=A.places.can (λf fd F=>p_ F T) λ_ _ _ _ _ _ us a=>match us,a with|[_],_=>rfl
 have ties:dN P w K mg base 1 C _ _ _:=A.ties.can (λf fd F=>wG F T) λ_ _ _ _ _ _ us a=>match us,a with|[_],_=>rfl
 have twin:dN P w K mg base 3 C _ _ _:=A.twin.can (λf fd F=>wF F T c.dict init) λ_ _ _ _ _ _ us a=>match us,a with|[_],_=>rfl
 have isPl:cj P w K mg base 2 _ _ _:=A.isPl.can (λf fd F=>nK F T places) λ_ _ _ _ _ _ us a=>match us,a with|[_,_],_=>rfl
 have byN:cj P w K mg base 2 _ _ _:=A.byN.can (λf fd F=>qf F T c ties) λ_ _ _ _ _ _ us a=>match us,a with|[_],_=>rfl
 have isT:cj P w K mg base 1 _ _ _:=A.isT.can (λf fd F=>sR F T) λ_ _ _ _ _ _ us a=>match us,a with|[_,_],_=>rfl
 have stops:cj P w K mg base 3 _ _ _:=A.stops.can (λf fd F=>sK F T isPl byN isT) λ_ _ _ _ _ _ us a=>match us,a with|[_,_,_],_=>rfl
 have wend:cj P w K mg base 4 _ _ _:=A.wend.can (λf fd F=>Af F T stops) λ_ _ _ _ _ _ us a=>match us,a with|[_,_,_],_=>rfl
 have steps:cj P w K mg base 2 _ _ _:=A.steps.can (λf fd F=>sL F T ties) λ_ _ _ _ _ _ us a=>match us,a with|[_,_],_=>rfl
 have by_:cj P w K mg base 1 _ _ _:=A.by_.can (λf fd F=>Bv F T) λ_ _ _ _ _ _ us a=>match us,a with|[_],_=>rfl
 have bfs:cj P w K mg base 2 _ _ _:=A.bfs.can (λf fd F=>Ag F T by_) λ_ _ _ _ _ _ us a=>match us,a with|[_,_],_=>rfl
 have membs:cj P w K mg base 3 _ _ _:=A.membs.can (λf fd F=>nJ F T steps bfs places) λ_ _ _ _ _ _ us a=>match us,a with|[_,_],_=>rfl
 have wpap:cj P w K mg base 4 _ _ _:=A.wpap.can (λf fd F=>p9 F membs) λ_ _ _ _ _ _ us a=>match us,a with|[_,_],_=>rfl
 have mpap:cj P w K mg base 4 _ _ _:=A.mpap.can (λf fd F=>qc F T TS membs steps bfs) λ_ _ _ _ _ _ us a=>match us,a with|[_,_,_],_=>rfl
 have fway:cj P w K mg base 5 _ _ _:=A.fway.can (λf fd F=>wO F mpap wpap) λ_ _ _ _ _ _ us a=>match us,a with|[_,_],_=>rfl
 have islow:cj P w K mg base 1 _ _ _:=A.islow.can (λf fd F=>sQ F) λ_ _ _ _ _ _ us a=>match us,a with|[_,_],_=>rfl
 have lower:cj P w K mg base 2 _ _ _:=A.lower.can (λf fd F=>sM F T islow) λ_ _ _ _ _ _ us a=>match us,a with|[_,_,_,_],_=>rfl
 have fring:cj P w K mg base 3 _ _ _:=A.fring.can (λf fd F=>sT F T c places ties lower) λ_ _ _ _ _ _ us a=>match us,a with|[_],_=>rfl
 have fplain:cj P w K mg base 6 _ _ _:=A.fplain.can (λf fd F=>nM F fway fring) λ_ _ _ _ _ _ us a=>match us,a with|[_,_],_=>rfl
 have fclaim:cj P w K mg base 7 _ _ _:=A.fclaim.can (λf fd F=>qe F (ik U) fplain) λ_ _ _ _ _ _ us a=>match us,a with|[_,_],_=>rfl
 have sway:cj P w K mg base 5 _ _ _:=A.sway.can (λf fd F=>wI F wend) λ_ _ _ _ _ _ us a=>match us,a with|[_,_,_],_=>rfl
 have lplain:cj P w K mg base 6 _ _ _:=A.lplain.can (λf fd F=>sO F sway) λ_ _ _ _ _ _ us a=>match us,a with|[_,_,_,_],_=>rfl
 have lclaim:cj P w K mg base 7 _ _ _:=A.lclaim.can (λf fd F=>qd F (ik U) lplain) λ_ _ _ _ _ _ us a=>match us,a with|[_,_,_,_],_=>rfl
 have strg:eU P w K mg base 22 _ _ _:=A.strg.canX (λf fd F=>Ac F T e (pG U T 10) places G) λ_ _ _ _ _ _ us a=>match us,a with|[_,_],_=>rfl
 have lookC:eU P w K mg base 23 _ _ _:=A.lookC.canX (λf fd F=>sN F strg) λ_ _ _ _ _ _ us a=>match us,a with|[_,_],_=>rfl
 have cop:cj P w K mg base 11 _ _ _:=pH A.cop.ex T 10;have binit:om P w K mg base 3 B _ _:=A.binit.canI A.mksB A.kcB (λf fd F=>sW F T b init) λ_ _ _ _ _ _ us a=>match us,a with|[_],_=>rfl
 have bmend:dN P w K mg base 8 B _ _ _:=A.bmend.can (λf fd F=>wK F T b lclaim) λ_ _ _ _ _ _ us a=>match us,a with|[_],_=>rfl
 have bplace:ba P w K mg base 9 B _ _ _:=A.bplace.canX (λf fd F=>qh F T b place bmend) λ_ _ _ _ _ _ us a=>match us,a with|[_,_],_=>rfl
 have btie:ba P w K mg base 9 B _ _ _:=A.btie.canX (λf fd F=>wS F T b tie bmend) λ_ _ _ _ _ _ us a=>match us,a with|[_,_,_,_,_,_],_=>rfl
 have bcut:ba P w K mg base 3 B _ _ _:=A.bcut.canX (λf fd F=>wV F T b cut) λ_ _ _ _ _ _ us a=>match us,a with|[_,_],_=>rfl
 have balter:ba P w K mg base 4 B _ _ _:=A.balter.canX (λf fd F=>qk F T b alter) λ_ _ _ _ _ _ us a=>match us,a with|[_,_,_,_],_=>rfl
 have bref:ba P w K mg base 1 B _ _ _:=A.bref.canX (λf fd F=>wT (C:=C) F b d) λ_ _ _ _ _ _ us a=>match us,a with|[_,_],_=>rfl
 have bstate:ba P w K mg base 24 B _ _ _:=A.bstate.canX (λf fd F=>qg F b R rname lookC cop fclaim) λ_ _ _ _ _ _ us a=>match us,a with|[_,_,_],_=>rfl
 have bforget:ba P w K mg base 2 B _ _ _:=A.bforget.canX (λf fd F=>nO F b bref) λ_ _ _ _ _ _ us a=>match us,a with|[_,_],_=>rfl
 have bnet:dN P w K mg base 4 B _ _ _:=A.bnet.can (λf fd F=>wU F T b twin) λ_ _ _ _ _ _ us a=>match us,a with|[_],_=>rfl
 have bclaims:dN P w K mg base 1 B _ _ _:=A.bclaims.can (λf fd F=>nP F T b) λ_ _ _ _ _ _ us a=>match us,a with|[_],_=>rfl
 have bclaim:ba P w K mg base 12 B _ _ _:=A.bclaim.canX (λf fd F=>qj F b bref cop) λ_ _ _ _ _ _ us a=>match us,a with|[_,_],_=>rfl
 have bverdict:ba P w K mg base 2 B _ _ _:=A.bverdict.canX (λf fd F=>md F b bref) λ_ _ _ _ _ _ us a=>match us,a with|[_,_],_=>rfl
 have bpaper:ba P w K mg base 12 B _ _ _:=A.bpaper.canX (λf fd F=>qi F b bref cop) λ_ _ _ _ _ _ us a=>match us,a with|[_,_],_=>rfl
 have asked:eU P w K mg base 25 _ _ _:=A.asked.canX (λf fd F=>sX F b bplace btie bcut balter bstate bforget bclaim bverdict bpaper) λ_ _ _ _ _ _ us a=>match us,a with|[_,_],_=>rfl
 have class_:cj P w K mg base 26 _ _ _:=A.class_.can (λf fd F=>sV F T R d e R2 asked) λ_ _ _ _ _ _ us a=>match us,a with|[_,_],_=>rfl
 have wrong:cj P w K mg base 1 _ _ _:=A.wrong.can (λf fd F=>sE F T) λ_ _ _ _ _ _ us a=>match us,a with|[_,_,_,_],_=>rfl
 have look:cj P w K mg base 13 _ _ _:=A.look.can (λf fd F=>Ae F T b bnet bclaims bclaim bverdict bpaper places ties) λ_ _ _ _ _ _ us a=>match us,a with|[_],_=>rfl
 exact sP F T b binit bplace btie bstate bforget bverdict bpaper look wrong class_
theorem Ay{l:PySem.W.OpenLaw}{w:World}{K:PySem.W.Frag}{h:Heap}{mg:Str->Option Value}{fa C B:Addr}{f0:Addr}{od0 an0:Option Addr}{sl0:Array (Option Value)}{oc0 kV0 dc0 pm0 vv ct0:Value}{f1:Addr}{od1 an1:Option Addr}{sl1:Array (Option Value)}{oc1 kV1 dc1 pm1 vw ct1:Value}{f2:Addr}{od2 an2:Option Addr}{sl2:Array (Option Value)}{oc2 kV2 dc2 pm2 vx ct2:Value}{f3:Addr}{od3 an3:Option Addr}{sl3:Array (Option Value)}{oc3 kV3 dc3 pm3 vy ct3:Value}{f4:Addr}{od4 an4:Option Addr}{sl4:Array (Option Value)}{oc4 kV4 dc4 pm4 vz ct4:Value}{f5:Addr}{od5 an5:Option Addr}{sl5:Array (Option Value)}{oc5 kV5 dc5 pm5 v0 ct5:Value}{f6:Addr}{od6 an6:Option Addr}{sl6:Array (Option Value)}{oc6 kV6 dc6 pm6 v1 ct6:Value}{f7:Addr}{od7 an7:Option Addr}{sl7:Array (Option Value)}{oc7 kV7 dc7 pm7 v2 ct7:Value}{f8:Addr}{od8 an8:Option Addr}{sl8:Array (Option Value)}{oc8 kV8 dc8 pm8 v3 ct8:Value}{f9:Addr}{od9 an9:Option Addr}{sl9:Array (Option Value)}{oc9 kV9 dc9 pm9 v4 ct9:Value}{y4:Addr}{od10 uh:Option Addr}{sl10:Array (Option Value)}{oc10 kV10 dc10 pm10 xe v6:Value}{y5:Addr}{od11 ui:Option Addr}{sl11:Array (Option Value)}{oc11 kV11 dc11 pm11 xf v7:Value}{y6:Addr}{od12 uj:Option Addr}{sl12:Array (Option Value)}{oc12 kV12 dc12 pm12 xg v8:Value}{y7:Addr}{od13 uk:Option Addr}{sl13:Array (Option Value)}{oc13 kV13 dc13 pm13 xj v9:Value}{y8:Addr}{od14 ul:Option Addr}{sl14:Array (Option Value)}{oc14 kV14 dc14 pm14 xk wa:Value}{y9:Addr}{od15 um:Option Addr}{sl15:Array (Option Value)}{oc15 kV15 dc15 pm15 xl wb:Value}{za:Addr}{od16 un:Option Addr}{sl16:Array (Option Value)}{oc16 kV16 dc16 pm16 xm wc:Value}{zb:Addr}{od17 uo:Option Addr}{sl17:Array (Option Value)}{oc17 kV17 dc17 pm17 xp wd:Value}{zc:Addr}{od18 up:Option Addr}{sl18:Array (Option Value)}{oc18 kV18 dc18 pm18 xq we:Value}{zd:Addr}{od19 uq:Option Addr}{sl19:Array (Option Value)}{oc19 kV19 dc19 pm19 xr wf:Value}{ze:Addr}{od20 ur:Option Addr}{sl20:Array (Option Value)}{oc20 kV20 dc20 pm20 xt wg:Value}{zf:Addr}{od21 us:Option Addr}{sl21:Array (Option Value)}{oc21 kV21 dc21 pm21 xu wh:Value}{zg:Addr}{od22 ut:Option Addr}{sl22:Array (Option Value)}{oc22 kV22 dc22 pm22 xv wi:Value}{zh:Addr}{od23 uu:Option Addr}{sl23:Array (Option Value)}{oc23 kV23 dc23 pm23 xw wj:Value}{zi:Addr}{od24 uv:Option Addr}{sl24:Array (Option Value)}{oc24 kV24 dc24 pm24 xx wk:Value}{zj:Addr}{od25 uw:Option Addr}{sl25:Array (Option Value)}{oc25 kV25 dc25 pm25 xy wl:Value}{zk:Addr}{od26 ux:Option Addr}{sl26:Array (Option Value)}{oc26 kV26 dc26 pm26 xz wm:Value}{zl:Addr}{od27 uy:Option Addr}{sl27:Array (Option Value)}{oc27 kV27 dc27 pm27 x7 wn:Value}{zm:Addr}{od28 uz:Option Addr}{sl28:Array (Option Value)}{oc28 kV28 dc28 pm28 x8 wo:Value}{zn:Addr}{od29 u0:Option Addr}{sl29:Array (Option Value)}{oc29 kV29 dc29 pm29 x9 wp:Value}{zo:Addr}{od30 u1:Option Addr}{sl30:Array (Option Value)}{oc30 kV30 dc30 pm30 ya wq:Value}{zp:Addr}{od31 u2:Option Addr}{sl31:Array (Option Value)}{oc31 kV31 dc31 pm31 yb wr:Value}{zq:Addr}{od32 u3:Option Addr}{sl32:Array (Option Value)}{oc32 kV32 dc32 pm32 yc ws:Value}{zr:Addr}{od33 u4:Option Addr}{sl33:Array (Option Value)}{oc33 kV33 dc33 pm33 yd wt:Value}{zs:Addr}{od34 u5:Option Addr}{sl34:Array (Option Value)}{oc34 kV34 dc34 pm34 ye wu:Value}{zt:Addr}{od35 u6:Option Addr}{sl35:Array (Option Value)}{oc35 kV35 dc35 pm35 yf wv:Value}{x:Addr}{od36 u7:Option Addr}{sl36:Array (Option Value)}{oc36 kV36 dc36 pm36 yg ww:Value}{y:Addr}{od37 u8:Option Addr}{sl37:Array (Option Value)}{oc37 kV37 dc37 pm37 yh wx:Value}{z:Addr}{od38 u9:Option Addr}{sl38:Array (Option Value)}{oc38 kV38 dc38 pm38 yi wy:Value}{D:Addr}{od39 va:Option Addr}{sl39:Array (Option Value)}{oc39 kV39 dc39 pm39 yj wz:Value}{E:Addr}{od40 vb:Option Addr}{sl40:Array (Option Value)}{oc40 kV40 dc40 pm40 yk w0:Value}{F:Addr}{od41 vc:Option Addr}{sl41:Array (Option Value)}{oc41 kV41 dc41 pm41 yl w1:Value}{H:Addr}{od42 vd:Option Addr}{sl42:Array (Option Value)}{oc42 kV42 dc42 pm42 ym w2:Value}{I:Addr}{od43 ve:Option Addr}{sl43:Array (Option Value)}{oc43 kV43 dc43 pm43 yn w3:Value}{J:Addr}{od44 vf:Option Addr}{sl44:Array (Option Value)}{oc44 kV44 dc44 pm44 yo w4:Value}{L:Addr}{od45 vg:Option Addr}{sl45:Array (Option Value)}{oc45 kV45 dc45 pm45 yp w5:Value}{M:Addr}{od46 vh:Option Addr}{sl46:Array (Option Value)}{oc46 kV46 dc46 pm46 yq w6:Value}{N:Addr}{od47 vi:Option Addr}{sl47:Array (Option Value)}{oc47 kV47 dc47 pm47 yr w7:Value}{O:Addr}{od48 vj:Option Addr}{sl48:Array (Option Value)}{oc48 kV48 dc48 pm48 ys w8:Value}{P:Addr}{od49 vk:Option Addr}{sl49:Array (Option Value)}{oc49 kV49 dc49 pm49 yt w9:Value}{Q:Addr}{od50 vl:Option Addr}{sl50:Array (Option Value)}{oc50 kV50 dc50 pm50 yu ct50:Value}{R:Addr}{od51 vm:Option Addr}{sl51:Array (Option Value)}{oc51 kV51 dc51 pm51 yv ct51:Value}{S:Addr}{od52 vn:Option Addr}{sl52:Array (Option Value)}{oc52 kV52 dc52 pm52 yw ct52:Value}{U:Addr}{od53 vo:Option Addr}{sl53:Array (Option Value)}{oc53 kV53 dc53 pm53 yx ct53:Value}{V:Addr}{od54 vp:Option Addr}{sl54:Array (Option Value)}{oc54 kV54 dc54 pm54 yy ct54:Value}{W:Addr}{od55 vq:Option Addr}{sl55:Array (Option Value)}{oc55 kV55 dc55 pm55 yz ct55:Value}{Y:Addr}{od56 vr:Option Addr}{sl56:Array (Option Value)}{oc56 kV56 dc56 pm56 y0 ct56:Value}{Z:Addr}{od57 vs:Option Addr}{sl57:Array (Option Value)}{oc57 kV57 dc57 pm57 y1 ct57:Value}{xa:Addr}{od58 vt:Option Addr}{sl58:Array (Option Value)}{oc58 kV58 dc58 pm58 y2 ct58:Value}{fL:Addr}{odL vu:Option Addr}{slL:Array (Option Value)}{ocL kVL dcL pmL y3 ctL:Value}{cc:Addr}{b:Addr}{c:Addr}{d:Addr}{g:Addr}{i:Addr}{j:Addr}{k:Addr}{a:Addr}{u:Addr}{d1:Addr}{fI:Addr}{odI anI:Option Addr}{slI:Array (Option Value)}{ocI kVI dcI pmI v5 ctI:Value}{vS:Value}{vN:Value}{vP:Value}{vM:Value}
  (X:K.In h)(G:h.Ns mainGlobals mg)(hfa:mg "law"=some (.ref fa))
  (aC:PySem.W.nsIn K mainGlobals "Net"=some (some (.ref C)))
  (aB:PySem.W.nsIn K mainGlobals "Book"=some (some (.ref B)))
  (a0:PySem.W.nsIn K mainGlobals "is_made_of"=some (some (.ref f0)))
  (l0:K.lookup f0=some ⟨oc0,od0,.func (PySem.W.fnOf "is_made_of" "is_made_of" (aq s_is_made_of) (ao s_is_made_of) (af s_is_made_of) .none kV0 dc0 pm0 an0 vv ct0),sl0⟩)(c0:PySem.W.codeIn K vv "is_made_of"=true)(k0:PySem.W.keepIn K (.ref f0)=true)
  (a1:PySem.W.nsIn K mainGlobals "is_name"=some (some (.ref f1)))
  (l1:K.lookup f1=some ⟨oc1,od1,.func (PySem.W.fnOf "is_name" "is_name" (aq s_is_name) (ao s_is_name) (af s_is_name) .none kV1 dc1 pm1 an1 vw ct1),sl1⟩)(c1:PySem.W.codeIn K vw "is_name"=true)(k1:PySem.W.keepIn K (.ref f1)=true)
  (a2:PySem.W.nsIn K mainGlobals "is_whole"=some (some (.ref f2)))
  (l2:K.lookup f2=some ⟨oc2,od2,.func (PySem.W.fnOf "is_whole" "is_whole" (aq s_is_whole) (ao s_is_whole) (af s_is_whole) .none kV2 dc2 pm2 an2 vx ct2),sl2⟩)(c2:PySem.W.codeIn K vx "is_whole"=true)(k2:PySem.W.keepIn K (.ref f2)=true)
  (a3:PySem.W.nsIn K mainGlobals "refuse_no_name"=some (some (.ref f3)))
  (l3:K.lookup f3=some ⟨oc3,od3,.func (PySem.W.fnOf "refuse_no_name" "refuse_no_name" (aq s_refuse_no_name) (ao s_refuse_no_name) (af s_refuse_no_name) .none kV3 dc3 pm3 an3 vy ct3),sl3⟩)(c3:PySem.W.codeIn K vy "refuse_no_name"=true)(k3:PySem.W.keepIn K (.ref f3)=true)
  (a4:PySem.W.nsIn K mainGlobals "refuse_no_width"=some (some (.ref f4)))
  (l4:K.lookup f4=some ⟨oc4,od4,.func (PySem.W.fnOf "refuse_no_width" "refuse_no_width" (aq s_refuse_no_width) (ao s_refuse_no_width) (af s_refuse_no_width) .none kV4 dc4 pm4 an4 vz ct4),sl4⟩)(c4:PySem.W.codeIn K vz "refuse_no_width"=true)(k4:PySem.W.keepIn K (.ref f4)=true)
  (a5:PySem.W.nsIn K mainGlobals "refuse_more"=some (some (.ref f5)))
  (l5:K.lookup f5=some ⟨oc5,od5,.func (PySem.W.fnOf "refuse_more" "refuse_more" (aq s_refuse_more) (ao s_refuse_more) (af s_refuse_more) .none kV5 dc5 pm5 an5 v0 ct5),sl5⟩)(c5:PySem.W.codeIn K v0 "refuse_more"=true)(k5:PySem.W.keepIn K (.ref f5)=true)
  (a6:PySem.W.nsIn K mainGlobals "is_place"=some (some (.ref f6)))
  (l6:K.lookup f6=some ⟨oc6,od6,.func (PySem.W.fnOf "is_place" "is_place" (aq s_is_place) (ao s_is_place) (af s_is_place) .none kV6 dc6 pm6 an6 v1 ct6),sl6⟩)(c6:PySem.W.codeIn K v1 "is_place"=true)(k6:PySem.W.keepIn K (.ref f6)=true)
  (a7:PySem.W.nsIn K mainGlobals "ties_by_name"=some (some (.ref f7)))
  (l7:K.lookup f7=some ⟨oc7,od7,.func (PySem.W.fnOf "ties_by_name" "ties_by_name" (aq s_ties_by_name) (ao s_ties_by_name) (af s_ties_by_name) .none kV7 dc7 pm7 an7 v2 ct7),sl7⟩)(c7:PySem.W.codeIn K v2 "ties_by_name"=true)(k7:PySem.W.keepIn K (.ref f7)=true)
  (a8:PySem.W.nsIn K mainGlobals "is_tie"=some (some (.ref f8)))
  (l8:K.lookup f8=some ⟨oc8,od8,.func (PySem.W.fnOf "is_tie" "is_tie" (aq s_is_tie) (ao s_is_tie) (af s_is_tie) .none kV8 dc8 pm8 an8 v3 ct8),sl8⟩)(c8:PySem.W.codeIn K v3 "is_tie"=true)(k8:PySem.W.keepIn K (.ref f8)=true)
  (a9:PySem.W.nsIn K mainGlobals "walk_stops"=some (some (.ref f9)))
  (l9:K.lookup f9=some ⟨oc9,od9,.func (PySem.W.fnOf "walk_stops" "walk_stops" (aq s_walk_stops) (ao s_walk_stops) (af s_walk_stops) .none kV9 dc9 pm9 an9 v4 ct9),sl9⟩)(c9:PySem.W.codeIn K v4 "walk_stops"=true)(k9:PySem.W.keepIn K (.ref f9)=true)
  (a10:PySem.W.nsIn K mainGlobals "walk_end"=some (some (.ref y4)))
  (l10:K.lookup y4=some ⟨oc10,od10,.func (PySem.W.fnOf "walk_end" "walk_end" (aq s_walk_end) (ao s_walk_end) (af s_walk_end) .none kV10 dc10 pm10 uh xe v6),sl10⟩)(c10:PySem.W.codeIn K xe "walk_end"=true)(k10:PySem.W.keepIn K (.ref y4)=true)
  (a11:PySem.W.nsIn K mainGlobals "steps_of"=some (some (.ref y5)))
  (l11:K.lookup y5=some ⟨oc11,od11,.func (PySem.W.fnOf "steps_of" "steps_of" (aq s_steps_of) (ao s_steps_of) (af s_steps_of) .none kV11 dc11 pm11 ui xf v7),sl11⟩)(c11:PySem.W.codeIn K xf "steps_of"=true)(k11:PySem.W.keepIn K (.ref y5)=true)
  (a12:PySem.W.nsIn K mainGlobals "steps_by_begin"=some (some (.ref y6)))
  (l12:K.lookup y6=some ⟨oc12,od12,.func (PySem.W.fnOf "steps_by_begin" "steps_by_begin" (aq s_steps_by_begin) (ao s_steps_by_begin) (af s_steps_by_begin) .none kV12 dc12 pm12 uj xg v8),sl12⟩)(c12:PySem.W.codeIn K xg "steps_by_begin"=true)(k12:PySem.W.keepIn K (.ref y6)=true)
  (a13:PySem.W.nsIn K mainGlobals "steps_to_places"=some (some (.ref y7)))
  (l13:K.lookup y7=some ⟨oc13,od13,.func (PySem.W.fnOf "steps_to_places" "steps_to_places" (aq s_steps_to_places) (ao s_steps_to_places) (af s_steps_to_places) .none kV13 dc13 pm13 uk xj v9),sl13⟩)(c13:PySem.W.codeIn K xj "steps_to_places"=true)(k13:PySem.W.keepIn K (.ref y7)=true)
  (a14:PySem.W.nsIn K mainGlobals "members_of"=some (some (.ref y8)))
  (l14:K.lookup y8=some ⟨oc14,od14,.func (PySem.W.fnOf "members_of" "members_of" (aq s_members_of) (ao s_members_of) (af s_members_of) .none kV14 dc14 pm14 ul xk wa),sl14⟩)(c14:PySem.W.codeIn K xk "members_of"=true)(k14:PySem.W.keepIn K (.ref y8)=true)
  (a15:PySem.W.nsIn K mainGlobals "within_paper"=some (some (.ref y9)))
  (l15:K.lookup y9=some ⟨oc15,od15,.func (PySem.W.fnOf "within_paper" "within_paper" (aq s_within_paper) (ao s_within_paper) (af s_within_paper) .none kV15 dc15 pm15 um xl wb),sl15⟩)(c15:PySem.W.codeIn K xl "within_paper"=true)(k15:PySem.W.keepIn K (.ref y9)=true)
  (a16:PySem.W.nsIn K mainGlobals "member_paper"=some (some (.ref za)))
  (l16:K.lookup za=some ⟨oc16,od16,.func (PySem.W.fnOf "member_paper" "member_paper" (aq s_member_paper) (ao s_member_paper) (af s_member_paper) .none kV16 dc16 pm16 un xm wc),sl16⟩)(c16:PySem.W.codeIn K xm "member_paper"=true)(k16:PySem.W.keepIn K (.ref za)=true)
  (a17:PySem.W.nsIn K mainGlobals "find_way"=some (some (.ref zb)))
  (l17:K.lookup zb=some ⟨oc17,od17,.func (PySem.W.fnOf "find_way" "find_way" (aq s_find_way) (ao s_find_way) (af s_find_way) .none kV17 dc17 pm17 uo xp wd),sl17⟩)(c17:PySem.W.codeIn K xp "find_way"=true)(k17:PySem.W.keepIn K (.ref zb)=true)
  (a18:PySem.W.nsIn K mainGlobals "is_lower"=some (some (.ref zc)))
  (l18:K.lookup zc=some ⟨oc18,od18,.func (PySem.W.fnOf "is_lower" "is_lower" (aq s_is_lower) (ao s_is_lower) (af s_is_lower) .none kV18 dc18 pm18 up xq we),sl18⟩)(c18:PySem.W.codeIn K xq "is_lower"=true)(k18:PySem.W.keepIn K (.ref zc)=true)
  (a19:PySem.W.nsIn K mainGlobals "lower_prices"=some (some (.ref zd)))
  (l19:K.lookup zd=some ⟨oc19,od19,.func (PySem.W.fnOf "lower_prices" "lower_prices" (aq s_lower_prices) (ao s_lower_prices) (af s_lower_prices) .none kV19 dc19 pm19 uq xr wf),sl19⟩)(c19:PySem.W.codeIn K xr "lower_prices"=true)(k19:PySem.W.keepIn K (.ref zd)=true)
  (a20:PySem.W.nsIn K mainGlobals "find_ring"=some (some (.ref ze)))
  (l20:K.lookup ze=some ⟨oc20,od20,.func (PySem.W.fnOf "find_ring" "find_ring" (aq s_find_ring) (ao s_find_ring) (af s_find_ring) .none kV20 dc20 pm20 ur xt wg),sl20⟩)(c20:PySem.W.codeIn K xt "find_ring"=true)(k20:PySem.W.keepIn K (.ref ze)=true)
  (a21:PySem.W.nsIn K mainGlobals "find_plain"=some (some (.ref zf)))
  (l21:K.lookup zf=some ⟨oc21,od21,.func (PySem.W.fnOf "find_plain" "find_plain" (aq s_find_plain) (ao s_find_plain) (af s_find_plain) .none kV21 dc21 pm21 us xu wh),sl21⟩)(c21:PySem.W.codeIn K xu "find_plain"=true)(k21:PySem.W.keepIn K (.ref zf)=true)
  (a22:PySem.W.nsIn K mainGlobals "find_claim"=some (some (.ref zg)))
  (l22:K.lookup zg=some ⟨oc22,od22,.func (PySem.W.fnOf "find_claim" "find_claim" (aq s_find_claim) (ao s_find_claim) (af s_find_claim) .none kV22 dc22 pm22 ut xv wi),sl22⟩)(c22:PySem.W.codeIn K xv "find_claim"=true)(k22:PySem.W.keepIn K (.ref zg)=true)
  (a23:PySem.W.nsIn K mainGlobals "shows_way"=some (some (.ref zh)))
  (l23:K.lookup zh=some ⟨oc23,od23,.func (PySem.W.fnOf "shows_way" "shows_way" (aq s_shows_way) (ao s_shows_way) (af s_shows_way) .none kV23 dc23 pm23 uu xw wj),sl23⟩)(c23:PySem.W.codeIn K xw "shows_way"=true)(k23:PySem.W.keepIn K (.ref zh)=true)
  (a24:PySem.W.nsIn K mainGlobals "look_plain"=some (some (.ref zi)))
  (l24:K.lookup zi=some ⟨oc24,od24,.func (PySem.W.fnOf "look_plain" "look_plain" (aq s_look_plain) (ao s_look_plain) (af s_look_plain) .none kV24 dc24 pm24 uv xx wk),sl24⟩)(c24:PySem.W.codeIn K xx "look_plain"=true)(k24:PySem.W.keepIn K (.ref zi)=true)
  (a25:PySem.W.nsIn K mainGlobals "look_claim"=some (some (.ref zj)))
  (l25:K.lookup zj=some ⟨oc25,od25,.func (PySem.W.fnOf "look_claim" "look_claim" (aq s_look_claim) (ao s_look_claim) (af s_look_claim) .none kV25 dc25 pm25 uw xy wl),sl25⟩)(c25:PySem.W.codeIn K xy "look_claim"=true)(k25:PySem.W.keepIn K (.ref zj)=true)
  (a26:PySem.W.nsIn K mainGlobals "look_at_claim"=some (some (.ref zk)))
  (l26:K.lookup zk=some ⟨oc26,od26,.func (PySem.W.fnOf "look_at_claim" "look_at_claim" (aq s_look_at_claim) (ao s_look_at_claim) (af s_look_at_claim) .none kV26 dc26 pm26 ux xz wm),sl26⟩)(c26:PySem.W.codeIn K xz "look_at_claim"=true)(k26:PySem.W.keepIn K (.ref zk)=true)
  (a27:PySem.W.nsIn K mainGlobals "refuse_strangers"=some (some (.ref zl)))
  (l27:K.lookup zl=some ⟨oc27,od27,.func (PySem.W.fnOf "refuse_strangers" "refuse_strangers" (aq s_refuse_strangers) (ao s_refuse_strangers) (af s_refuse_strangers) .none kV27 dc27 pm27 uy x7 wn),sl27⟩)(c27:PySem.W.codeIn K x7 "refuse_strangers"=true)(k27:PySem.W.keepIn K (.ref zl)=true)
  (a28:PySem.W.nsIn K mainGlobals "untold_names"=some (some (.ref zm)))
  (l28:K.lookup zm=some ⟨oc28,od28,.func (PySem.W.fnOf "untold_names" "untold_names" (aq s_untold_names) (ao s_untold_names) (af s_untold_names) .none kV28 dc28 pm28 uz x8 wo),sl28⟩)(c28:PySem.W.codeIn K x8 "untold_names"=true)(k28:PySem.W.keepIn K (.ref zm)=true)
  (a29:PySem.W.nsIn K mainGlobals "names_of_all"=some (some (.ref zn)))
  (l29:K.lookup zn=some ⟨oc29,od29,.func (PySem.W.fnOf "names_of_all" "names_of_all" (aq s_names_of_all) (ao s_names_of_all) (af s_names_of_all) .none kV29 dc29 pm29 u0 x9 wp),sl29⟩)(c29:PySem.W.codeIn K x9 "names_of_all"=true)(k29:PySem.W.keepIn K (.ref zn)=true)
  (a30:PySem.W.nsIn K mainGlobals "tells_variable"=some (some (.ref zo)))
  (l30:K.lookup zo=some ⟨oc30,od30,.func (PySem.W.fnOf "tells_variable" "tells_variable" (aq s_tells_variable) (ao s_tells_variable) (af s_tells_variable) .none kV30 dc30 pm30 u1 ya wq),sl30⟩)(c30:PySem.W.codeIn K ya "tells_variable"=true)(k30:PySem.W.keepIn K (.ref zo)=true)
  (a31:PySem.W.nsIn K mainGlobals "copied"=some (some (.ref zp)))
  (l31:K.lookup zp=some ⟨oc31,od31,.func (PySem.W.fnOf "copied" "copied" (aq s_copied) (ao s_copied) (af s_copied) .none kV31 dc31 pm31 u2 yb wr),sl31⟩)(c31:PySem.W.codeIn K yb "copied"=true)(k31:PySem.W.keepIn K (.ref zp)=true)
  (a32:PySem.W.nsIn K mainGlobals "_law_asked"=some (some (.ref zq)))
  (l32:K.lookup zq=some ⟨oc32,od32,.func (PySem.W.fnOf "_law_asked" "_law_asked" (aq s_l_asked) (ao s_l_asked) (af s_l_asked) .none kV32 dc32 pm32 u3 yc ws),sl32⟩)(c32:PySem.W.codeIn K yc "_law_asked"=true)(k32:PySem.W.keepIn K (.ref zq)=true)
  (a33:PySem.W.nsIn K mainGlobals "_law_class"=some (some (.ref zr)))
  (l33:K.lookup zr=some ⟨oc33,od33,.func (PySem.W.fnOf "_law_class" "_law_class" (aq s_l_class) (ao s_l_class) (af s_l_class) .none kV33 dc33 pm33 u4 yd wt),sl33⟩)(c33:PySem.W.codeIn K yd "_law_class"=true)(k33:PySem.W.keepIn K (.ref zr)=true)
  (a34:PySem.W.nsIn K mainGlobals "_law_wrong"=some (some (.ref zs)))
  (l34:K.lookup zs=some ⟨oc34,od34,.func (PySem.W.fnOf "_law_wrong" "_law_wrong" (aq s_l_wrong) (ao s_l_wrong) (af s_l_wrong) .none kV34 dc34 pm34 u5 ye wu),sl34⟩)(c34:PySem.W.codeIn K ye "_law_wrong"=true)(k34:PySem.W.keepIn K (.ref zs)=true)
  (a35:PySem.W.nsIn K mainGlobals "_law_look"=some (some (.ref zt)))
  (l35:K.lookup zt=some ⟨oc35,od35,.func (PySem.W.fnOf "_law_look" "_law_look" (aq s_l_look) (ao s_l_look) (af s_l_look) .none kV35 dc35 pm35 u6 yf wv),sl35⟩)(c35:PySem.W.codeIn K yf "_law_look"=true)(k35:PySem.W.keepIn K (.ref zt)=true)
  (a36:PySem.W.findIn K (.ref C) "__init__"=some (some (.ref x)))(i36:PySem.W.isFn K (.ref x)=true)
  (l36:K.lookup x=some ⟨oc36,od36,.func (PySem.W.fnOf "__init__" "Net.__init__" (aq s_Net_init) (ao s_Net_init) (af s_Net_init) .none kV36 dc36 pm36 u7 yg ww),sl36⟩)(c36:PySem.W.codeIn K yg "Net.__init__"=true)(k36:PySem.W.keepIn K (.ref x)=true)
  (a37:PySem.W.findIn K (.ref C) "place"=some (some (.ref y)))(i37:PySem.W.isFn K (.ref y)=true)
  (l37:K.lookup y=some ⟨oc37,od37,.func (PySem.W.fnOf "place" "Net.place" (aq s_Net_place) (ao s_Net_place) (af s_Net_place) .none kV37 dc37 pm37 u8 yh wx),sl37⟩)(c37:PySem.W.codeIn K yh "Net.place"=true)(k37:PySem.W.keepIn K (.ref y)=true)
  (a38:PySem.W.findIn K (.ref C) "tie"=some (some (.ref z)))(i38:PySem.W.isFn K (.ref z)=true)
  (l38:K.lookup z=some ⟨oc38,od38,.func (PySem.W.fnOf "tie" "Net.tie" (aq s_Net_tie) (ao s_Net_tie) (af s_Net_tie) .none kV38 dc38 pm38 u9 yi wy),sl38⟩)(c38:PySem.W.codeIn K yi "Net.tie"=true)(k38:PySem.W.keepIn K (.ref z)=true)
  (a39:PySem.W.findIn K (.ref C) "cut"=some (some (.ref D)))(i39:PySem.W.isFn K (.ref D)=true)
  (l39:K.lookup D=some ⟨oc39,od39,.func (PySem.W.fnOf "cut" "Net.cut" (aq s_Net_cut) (ao s_Net_cut) (af s_Net_cut) .none kV39 dc39 pm39 va yj wz),sl39⟩)(c39:PySem.W.codeIn K yj "Net.cut"=true)(k39:PySem.W.keepIn K (.ref D)=true)
  (a40:PySem.W.findIn K (.ref C) "alter"=some (some (.ref E)))(i40:PySem.W.isFn K (.ref E)=true)
  (l40:K.lookup E=some ⟨oc40,od40,.func (PySem.W.fnOf "alter" "Net.alter" (aq s_Net_alter) (ao s_Net_alter) (af s_Net_alter) .none kV40 dc40 pm40 vb yk w0),sl40⟩)(c40:PySem.W.codeIn K yk "Net.alter"=true)(k40:PySem.W.keepIn K (.ref E)=true)
  (a41:PySem.W.findIn K (.ref C) "refuse_no_tie"=some (some (.ref F)))(i41:PySem.W.isFn K (.ref F)=true)
  (l41:K.lookup F=some ⟨oc41,od41,.func (PySem.W.fnOf "refuse_no_tie" "Net.refuse_no_tie" (aq s_Net_refuse_no_tie) (ao s_Net_refuse_no_tie) (af s_Net_refuse_no_tie) .none kV41 dc41 pm41 vc yl w1),sl41⟩)(c41:PySem.W.codeIn K yl "Net.refuse_no_tie"=true)(k41:PySem.W.keepIn K (.ref F)=true)
  (a42:PySem.W.findIn K (.ref C) "places"=some (some (.ref H)))(i42:PySem.W.isFn K (.ref H)=true)
  (l42:K.lookup H=some ⟨oc42,od42,.func (PySem.W.fnOf "places" "Net.places" (aq s_Net_places) (ao s_Net_places) (af s_Net_places) .none kV42 dc42 pm42 vd ym w2),sl42⟩)(c42:PySem.W.codeIn K ym "Net.places"=true)(k42:PySem.W.keepIn K (.ref H)=true)
  (a43:PySem.W.findIn K (.ref C) "ties"=some (some (.ref I)))(i43:PySem.W.isFn K (.ref I)=true)
  (l43:K.lookup I=some ⟨oc43,od43,.func (PySem.W.fnOf "ties" "Net.ties" (aq s_Net_ties) (ao s_Net_ties) (af s_Net_ties) .none kV43 dc43 pm43 ve yn w3),sl43⟩)(c43:PySem.W.codeIn K yn "Net.ties"=true)(k43:PySem.W.keepIn K (.ref I)=true)
  (a44:PySem.W.findIn K (.ref C) "twin"=some (some (.ref J)))(i44:PySem.W.isFn K (.ref J)=true)
  (l44:K.lookup J=some ⟨oc44,od44,.func (PySem.W.fnOf "twin" "Net.twin" (aq s_Net_twin) (ao s_Net_twin) (af s_Net_twin) .none kV44 dc44 pm44 vf yo w4),sl44⟩)(c44:PySem.W.codeIn K yo "Net.twin"=true)(k44:PySem.W.keepIn K (.ref J)=true)
  (a45:PySem.W.findIn K (.ref B) "__init__"=some (some (.ref L)))(i45:PySem.W.isFn K (.ref L)=true)
  (l45:K.lookup L=some ⟨oc45,od45,.func (PySem.W.fnOf "__init__" "Book.__init__" (aq s_Book_init) (ao s_Book_init) (af s_Book_init) .none kV45 dc45 pm45 vg yp w5),sl45⟩)(c45:PySem.W.codeIn K yp "Book.__init__"=true)(k45:PySem.W.keepIn K (.ref L)=true)
  (a46:PySem.W.findIn K (.ref B) "place"=some (some (.ref M)))(i46:PySem.W.isFn K (.ref M)=true)
  (l46:K.lookup M=some ⟨oc46,od46,.func (PySem.W.fnOf "place" "Book.place" (aq s_Book_place) (ao s_Book_place) (af s_Book_place) .none kV46 dc46 pm46 vh yq w6),sl46⟩)(c46:PySem.W.codeIn K yq "Book.place"=true)(k46:PySem.W.keepIn K (.ref M)=true)
  (a47:PySem.W.findIn K (.ref B) "tie"=some (some (.ref N)))(i47:PySem.W.isFn K (.ref N)=true)
  (l47:K.lookup N=some ⟨oc47,od47,.func (PySem.W.fnOf "tie" "Book.tie" (aq s_Book_tie) (ao s_Book_tie) (af s_Book_tie) .none kV47 dc47 pm47 vi yr w7),sl47⟩)(c47:PySem.W.codeIn K yr "Book.tie"=true)(k47:PySem.W.keepIn K (.ref N)=true)
  (a48:PySem.W.findIn K (.ref B) "cut"=some (some (.ref O)))(i48:PySem.W.isFn K (.ref O)=true)
  (l48:K.lookup O=some ⟨oc48,od48,.func (PySem.W.fnOf "cut" "Book.cut" (aq s_Book_cut) (ao s_Book_cut) (af s_Book_cut) .none kV48 dc48 pm48 vj ys w8),sl48⟩)(c48:PySem.W.codeIn K ys "Book.cut"=true)(k48:PySem.W.keepIn K (.ref O)=true)
  (a49:PySem.W.findIn K (.ref B) "alter"=some (some (.ref P)))(i49:PySem.W.isFn K (.ref P)=true)
  (l49:K.lookup P=some ⟨oc49,od49,.func (PySem.W.fnOf "alter" "Book.alter" (aq s_Book_alter) (ao s_Book_alter) (af s_Book_alter) .none kV49 dc49 pm49 vk yt w9),sl49⟩)(c49:PySem.W.codeIn K yt "Book.alter"=true)(k49:PySem.W.keepIn K (.ref P)=true)
  (a50:PySem.W.findIn K (.ref B) "mend_papers"=some (some (.ref Q)))(i50:PySem.W.isFn K (.ref Q)=true)
  (l50:K.lookup Q=some ⟨oc50,od50,.func (PySem.W.fnOf "mend_papers" "Book.mend_papers" (aq s_Book_mend_papers) (ao s_Book_mend_papers) (af s_Book_mend_papers) .none kV50 dc50 pm50 vl yu ct50),sl50⟩)(c50:PySem.W.codeIn K yu "Book.mend_papers"=true)(k50:PySem.W.keepIn K (.ref Q)=true)
  (a51:PySem.W.findIn K (.ref B) "state"=some (some (.ref R)))(i51:PySem.W.isFn K (.ref R)=true)
  (l51:K.lookup R=some ⟨oc51,od51,.func (PySem.W.fnOf "state" "Book.state" (aq s_Book_state) (ao s_Book_state) (af s_Book_state) .none kV51 dc51 pm51 vm yv ct51),sl51⟩)(c51:PySem.W.codeIn K yv "Book.state"=true)(k51:PySem.W.keepIn K (.ref R)=true)
  (a52:PySem.W.findIn K (.ref B) "forget"=some (some (.ref S)))(i52:PySem.W.isFn K (.ref S)=true)
  (l52:K.lookup S=some ⟨oc52,od52,.func (PySem.W.fnOf "forget" "Book.forget" (aq s_Book_forget) (ao s_Book_forget) (af s_Book_forget) .none kV52 dc52 pm52 vn yw ct52),sl52⟩)(c52:PySem.W.codeIn K yw "Book.forget"=true)(k52:PySem.W.keepIn K (.ref S)=true)
  (a53:PySem.W.findIn K (.ref B) "refuse_no_claim"=some (some (.ref U)))(i53:PySem.W.isFn K (.ref U)=true)
  (l53:K.lookup U=some ⟨oc53,od53,.func (PySem.W.fnOf "refuse_no_claim" "Book.refuse_no_claim" (aq s_Book_refuse_no_claim) (ao s_Book_refuse_no_claim) (af s_Book_refuse_no_claim) .none kV53 dc53 pm53 vo yx ct53),sl53⟩)(c53:PySem.W.codeIn K yx "Book.refuse_no_claim"=true)(k53:PySem.W.keepIn K (.ref U)=true)
  (a54:PySem.W.findIn K (.ref B) "net"=some (some (.ref V)))(i54:PySem.W.isFn K (.ref V)=true)
  (l54:K.lookup V=some ⟨oc54,od54,.func (PySem.W.fnOf "net" "Book.net" (aq s_Book_net) (ao s_Book_net) (af s_Book_net) .none kV54 dc54 pm54 vp yy ct54),sl54⟩)(c54:PySem.W.codeIn K yy "Book.net"=true)(k54:PySem.W.keepIn K (.ref V)=true)
  (a55:PySem.W.findIn K (.ref B) "claims"=some (some (.ref W)))(i55:PySem.W.isFn K (.ref W)=true)
  (l55:K.lookup W=some ⟨oc55,od55,.func (PySem.W.fnOf "claims" "Book.claims" (aq s_Book_claims) (ao s_Book_claims) (af s_Book_claims) .none kV55 dc55 pm55 vq yz ct55),sl55⟩)(c55:PySem.W.codeIn K yz "Book.claims"=true)(k55:PySem.W.keepIn K (.ref W)=true)
  (a56:PySem.W.findIn K (.ref B) "claim"=some (some (.ref Y)))(i56:PySem.W.isFn K (.ref Y)=true)
  (l56:K.lookup Y=some ⟨oc56,od56,.func (PySem.W.fnOf "claim" "Book.claim" (aq s_Book_claim) (ao s_Book_claim) (af s_Book_claim) .none kV56 dc56 pm56 vr y0 ct56),sl56⟩)(c56:PySem.W.codeIn K y0 "Book.claim"=true)(k56:PySem.W.keepIn K (.ref Y)=true)
  (a57:PySem.W.findIn K (.ref B) "verdict"=some (some (.ref Z)))(i57:PySem.W.isFn K (.ref Z)=true)
  (l57:K.lookup Z=some ⟨oc57,od57,.func (PySem.W.fnOf "verdict" "Book.verdict" (aq s_Book_verdict) (ao s_Book_verdict) (af s_Book_verdict) .none kV57 dc57 pm57 vs y1 ct57),sl57⟩)(c57:PySem.W.codeIn K y1 "Book.verdict"=true)(k57:PySem.W.keepIn K (.ref Z)=true)
  (a58:PySem.W.findIn K (.ref B) "paper"=some (some (.ref xa)))(i58:PySem.W.isFn K (.ref xa)=true)
  (l58:K.lookup xa=some ⟨oc58,od58,.func (PySem.W.fnOf "paper" "Book.paper" (aq s_Book_paper) (ao s_Book_paper) (af s_Book_paper) .none kV58 dc58 pm58 vt y2 ct58),sl58⟩)(c58:PySem.W.codeIn K y2 "Book.paper"=true)(k58:PySem.W.keepIn K (.ref xa)=true)
  (aL:PySem.W.nsIn K mainGlobals "law"=some (some (.ref fL)))(lL:K.lookup fL=some ⟨ocL,odL,.func (PySem.W.fnOf "law" "law" (aq s_law) (ao s_law) (af s_law) .none kVL dcL pmL vu y3 ctL),slL⟩)(cL:PySem.W.codeIn K y3 "law"=true)(kL:PySem.W.keepIn K (.ref fL)=true)
  (pg:PySem.W.plainGet K C Str.empty=true)(hd:PySem.W.hasDictIn K C=true)(po:PySem.W.plainOver K C=true)(sa:PySem.W.findIn K (.ref C) "__setattr__"=some (some (.builtin "object.__setattr__")))(mk:PySem.W.makesIn K C=true)(kc:PySem.W.keepIn K (.ref C)=true)
  (nS:PySem.W.findIn K (.ref C) "standing"=some none)(nL:PySem.W.findIn K (.ref C) "laid"=some none)
  (pgB:PySem.W.plainGet K B Str.empty=true)(hdB:PySem.W.hasDictIn K B=true)(poB:PySem.W.plainOver K B=true)(saB:PySem.W.findIn K (.ref B) "__setattr__"=some (some (.builtin "object.__setattr__")))(mkB:PySem.W.makesIn K B=true)(kcB:PySem.W.keepIn K (.ref B)=true)
  (nSB:PySem.W.findIn K (.ref B) "own_net"=some none)(nLB:PySem.W.findIn K (.ref B) "stated"=some none)
  (ub:PySem.W.nsIn K mainGlobals "all"=some none)
  (m:PySem.W.nsIn K mainGlobals "isinstance"=some none)
  (uf:PySem.W.nsIn K mainGlobals "str"=some none)
  (uc:PySem.W.nsIn K mainGlobals "int"=some none)
  (xb:PySem.W.nsIn K mainGlobals "bool"=some none)
  (xd:PySem.W.nsIn K mainGlobals "list"=some none)
  (t:PySem.W.nsIn K mainGlobals "tuple"=some none)
  (ud:PySem.W.nsIn K mainGlobals "len"=some none)
  (q:PySem.W.nsIn K mainGlobals "range"=some none)
  (ua:PySem.W.nsIn K mainGlobals "abs"=some none)
  (xc:PySem.W.nsIn K mainGlobals "dict"=some none)
  (ug:PySem.W.nsIn K mainGlobals "sum"=some none)
  (ue:PySem.W.nsIn K mainGlobals "set"=some none)
  (p:PySem.W.nsIn K mainGlobals "reversed"=some none)
  (m0:PySem.W.nsIn K mainGlobals "NoName"=some (some (.ref b)))
  (m1:PySem.W.nsIn K mainGlobals "Twice"=some (some (.ref c)))
  (m2:PySem.W.nsIn K mainGlobals "SamePlace"=some (some (.ref d)))
  (m3:PySem.W.nsIn K mainGlobals "NoWidth"=some (some (.ref g)))
  (m4:PySem.W.nsIn K mainGlobals "NoTie"=some (some (.ref i)))
  (m5:PySem.W.nsIn K mainGlobals "TooMany"=some (some (.ref j)))
  (m6:PySem.W.nsIn K mainGlobals "NoClaim"=some (some (.ref k)))
  (m7:PySem.W.nsIn K mainGlobals "NoPlace"=some (some (.ref a)))
  (md0:PySem.W.nsIn K mainGlobals "NoText"=some (some (.ref u)))
  (md1:PySem.W.nsIn K mainGlobals "NoLine"=some (some (.ref d1)))
  (mcc:PySem.W.nsIn K mainGlobals "CourtError"=some (some (.ref cc)))
  (mve:PySem.W.nsIn K mainGlobals "ValueError"=some none)
  (n:PySem.W.specialIn K (.builtin "object.__class__") "__get__"=some (some (.builtin "getset_descriptor.__get__")))
  (o:PySem.W.takesIn K (.builtin "object.__class__")=some true)
  (x0:PySem.W.excIn K b [.type "ValueError",.type "Exception",.type "BaseException",.type "object"] "ValueError.__new__"=true)
  (xm0:PySem.W.exmOne K (.ref b) (.ref cc)=some true)
  (kv0:PySem.W.kitOne K (.ref b) (.type "ValueError")=some true)
  (k0_0:PySem.W.kitOne K (.ref b) (.ref b)=some true)
  (k0_1:PySem.W.kitOne K (.ref b) (.ref c)=some false)
  (k0_2:PySem.W.kitOne K (.ref b) (.ref d)=some false)
  (k0_3:PySem.W.kitOne K (.ref b) (.ref g)=some false)
  (k0_4:PySem.W.kitOne K (.ref b) (.ref i)=some false)
  (k0_5:PySem.W.kitOne K (.ref b) (.ref j)=some false)
  (k0_6:PySem.W.kitOne K (.ref b) (.ref k)=some false)
  (k0_7:PySem.W.kitOne K (.ref b) (.ref a)=some false)
  (zu:PySem.W.kitOne K (.ref b) (.ref u)=some false)
  (zv:PySem.W.kitOne K (.ref b) (.ref d1)=some false)
  (ga0:PySem.W.findIn K (.ref b) "__getattribute__"=some (some (.builtin "BaseException.__getattribute__")))
  (gt0:PySem.W.findIn K (.ref b) "__getattr__"=some none)
  (cl0:PySem.W.findIn K (.ref b) "__class__"=some (some (.builtin "object.__class__")))
  (mo0:PySem.W.mroIn K b (.type "object")=some true)
  (mb0:PySem.W.mroIn K b (.type "BaseException")=some true)
  (x1:PySem.W.excIn K c [.type "ValueError",.type "Exception",.type "BaseException",.type "object"] "ValueError.__new__"=true)
  (xm1:PySem.W.exmOne K (.ref c) (.ref cc)=some true)
  (kv1:PySem.W.kitOne K (.ref c) (.type "ValueError")=some true)
  (k1_0:PySem.W.kitOne K (.ref c) (.ref b)=some false)
  (k1_1:PySem.W.kitOne K (.ref c) (.ref c)=some true)
  (k1_2:PySem.W.kitOne K (.ref c) (.ref d)=some false)
  (k1_3:PySem.W.kitOne K (.ref c) (.ref g)=some false)
  (k1_4:PySem.W.kitOne K (.ref c) (.ref i)=some false)
  (k1_5:PySem.W.kitOne K (.ref c) (.ref j)=some false)
  (k1_6:PySem.W.kitOne K (.ref c) (.ref k)=some false)
  (k1_7:PySem.W.kitOne K (.ref c) (.ref a)=some false)
  (zw:PySem.W.kitOne K (.ref c) (.ref u)=some false)
  (zx:PySem.W.kitOne K (.ref c) (.ref d1)=some false)
  (ga1:PySem.W.findIn K (.ref c) "__getattribute__"=some (some (.builtin "BaseException.__getattribute__")))
  (gt1:PySem.W.findIn K (.ref c) "__getattr__"=some none)
  (cl1:PySem.W.findIn K (.ref c) "__class__"=some (some (.builtin "object.__class__")))
  (mo1:PySem.W.mroIn K c (.type "object")=some true)
  (mb1:PySem.W.mroIn K c (.type "BaseException")=some true)
  (x2:PySem.W.excIn K d [.type "ValueError",.type "Exception",.type "BaseException",.type "object"] "ValueError.__new__"=true)
  (xm2:PySem.W.exmOne K (.ref d) (.ref cc)=some true)
  (kv2:PySem.W.kitOne K (.ref d) (.type "ValueError")=some true)
  (k2_0:PySem.W.kitOne K (.ref d) (.ref b)=some false)
  (k2_1:PySem.W.kitOne K (.ref d) (.ref c)=some false)
  (k2_2:PySem.W.kitOne K (.ref d) (.ref d)=some true)
  (k2_3:PySem.W.kitOne K (.ref d) (.ref g)=some false)
  (k2_4:PySem.W.kitOne K (.ref d) (.ref i)=some false)
  (k2_5:PySem.W.kitOne K (.ref d) (.ref j)=some false)
  (k2_6:PySem.W.kitOne K (.ref d) (.ref k)=some false)
  (k2_7:PySem.W.kitOne K (.ref d) (.ref a)=some false)
  (zy:PySem.W.kitOne K (.ref d) (.ref u)=some false)
  (zz:PySem.W.kitOne K (.ref d) (.ref d1)=some false)
  (ga2:PySem.W.findIn K (.ref d) "__getattribute__"=some (some (.builtin "BaseException.__getattribute__")))
  (gt2:PySem.W.findIn K (.ref d) "__getattr__"=some none)
  (cl2:PySem.W.findIn K (.ref d) "__class__"=some (some (.builtin "object.__class__")))
  (mo2:PySem.W.mroIn K d (.type "object")=some true)
  (mb2:PySem.W.mroIn K d (.type "BaseException")=some true)
  (x3:PySem.W.excIn K g [.type "ValueError",.type "Exception",.type "BaseException",.type "object"] "ValueError.__new__"=true)
  (xm3:PySem.W.exmOne K (.ref g) (.ref cc)=some true)
  (kv3:PySem.W.kitOne K (.ref g) (.type "ValueError")=some true)
  (k3_0:PySem.W.kitOne K (.ref g) (.ref b)=some false)
  (k3_1:PySem.W.kitOne K (.ref g) (.ref c)=some false)
  (k3_2:PySem.W.kitOne K (.ref g) (.ref d)=some false)
  (k3_3:PySem.W.kitOne K (.ref g) (.ref g)=some true)
  (k3_4:PySem.W.kitOne K (.ref g) (.ref i)=some false)
  (k3_5:PySem.W.kitOne K (.ref g) (.ref j)=some false)
  (k3_6:PySem.W.kitOne K (.ref g) (.ref k)=some false)
  (k3_7:PySem.W.kitOne K (.ref g) (.ref a)=some false)
  (z0:PySem.W.kitOne K (.ref g) (.ref u)=some false)
  (z1:PySem.W.kitOne K (.ref g) (.ref d1)=some false)
  (ga3:PySem.W.findIn K (.ref g) "__getattribute__"=some (some (.builtin "BaseException.__getattribute__")))
  (gt3:PySem.W.findIn K (.ref g) "__getattr__"=some none)
  (cl3:PySem.W.findIn K (.ref g) "__class__"=some (some (.builtin "object.__class__")))
  (mo3:PySem.W.mroIn K g (.type "object")=some true)
  (mb3:PySem.W.mroIn K g (.type "BaseException")=some true)
  (x4:PySem.W.excIn K i [.type "ValueError",.type "Exception",.type "BaseException",.type "object"] "ValueError.__new__"=true)
  (xm4:PySem.W.exmOne K (.ref i) (.ref cc)=some true)
  (kv4:PySem.W.kitOne K (.ref i) (.type "ValueError")=some true)
  (k4_0:PySem.W.kitOne K (.ref i) (.ref b)=some false)
  (k4_1:PySem.W.kitOne K (.ref i) (.ref c)=some false)
  (k4_2:PySem.W.kitOne K (.ref i) (.ref d)=some false)
  (k4_3:PySem.W.kitOne K (.ref i) (.ref g)=some false)
  (k4_4:PySem.W.kitOne K (.ref i) (.ref i)=some true)
  (k4_5:PySem.W.kitOne K (.ref i) (.ref j)=some false)
  (k4_6:PySem.W.kitOne K (.ref i) (.ref k)=some false)
  (k4_7:PySem.W.kitOne K (.ref i) (.ref a)=some false)
  (z2:PySem.W.kitOne K (.ref i) (.ref u)=some false)
  (z3:PySem.W.kitOne K (.ref i) (.ref d1)=some false)
  (ga4:PySem.W.findIn K (.ref i) "__getattribute__"=some (some (.builtin "BaseException.__getattribute__")))
  (gt4:PySem.W.findIn K (.ref i) "__getattr__"=some none)
  (cl4:PySem.W.findIn K (.ref i) "__class__"=some (some (.builtin "object.__class__")))
  (mo4:PySem.W.mroIn K i (.type "object")=some true)
  (mb4:PySem.W.mroIn K i (.type "BaseException")=some true)
  (x5:PySem.W.excIn K j [.type "ValueError",.type "Exception",.type "BaseException",.type "object"] "ValueError.__new__"=true)
  (xm5:PySem.W.exmOne K (.ref j) (.ref cc)=some true)
  (kv5:PySem.W.kitOne K (.ref j) (.type "ValueError")=some true)
  (k5_0:PySem.W.kitOne K (.ref j) (.ref b)=some false)
  (k5_1:PySem.W.kitOne K (.ref j) (.ref c)=some false)
  (k5_2:PySem.W.kitOne K (.ref j) (.ref d)=some false)
  (k5_3:PySem.W.kitOne K (.ref j) (.ref g)=some false)
  (k5_4:PySem.W.kitOne K (.ref j) (.ref i)=some false)
  (k5_5:PySem.W.kitOne K (.ref j) (.ref j)=some true)
  (k5_6:PySem.W.kitOne K (.ref j) (.ref k)=some false)
  (k5_7:PySem.W.kitOne K (.ref j) (.ref a)=some false)
  (z4:PySem.W.kitOne K (.ref j) (.ref u)=some false)
  (z5:PySem.W.kitOne K (.ref j) (.ref d1)=some false)
  (ga5:PySem.W.findIn K (.ref j) "__getattribute__"=some (some (.builtin "BaseException.__getattribute__")))
  (gt5:PySem.W.findIn K (.ref j) "__getattr__"=some none)
  (cl5:PySem.W.findIn K (.ref j) "__class__"=some (some (.builtin "object.__class__")))
  (mo5:PySem.W.mroIn K j (.type "object")=some true)
  (mb5:PySem.W.mroIn K j (.type "BaseException")=some true)
  (x6:PySem.W.excIn K k [.type "ValueError",.type "Exception",.type "BaseException",.type "object"] "ValueError.__new__"=true)
  (xm6:PySem.W.exmOne K (.ref k) (.ref cc)=some true)
  (kv6:PySem.W.kitOne K (.ref k) (.type "ValueError")=some true)
  (k6_0:PySem.W.kitOne K (.ref k) (.ref b)=some false)
  (k6_1:PySem.W.kitOne K (.ref k) (.ref c)=some false)
  (k6_2:PySem.W.kitOne K (.ref k) (.ref d)=some false)
  (k6_3:PySem.W.kitOne K (.ref k) (.ref g)=some false)
  (k6_4:PySem.W.kitOne K (.ref k) (.ref i)=some false)
  (k6_5:PySem.W.kitOne K (.ref k) (.ref j)=some false)
  (k6_6:PySem.W.kitOne K (.ref k) (.ref k)=some true)
  (k6_7:PySem.W.kitOne K (.ref k) (.ref a)=some false)
  (z6:PySem.W.kitOne K (.ref k) (.ref u)=some false)
  (z7:PySem.W.kitOne K (.ref k) (.ref d1)=some false)
  (ga6:PySem.W.findIn K (.ref k) "__getattribute__"=some (some (.builtin "BaseException.__getattribute__")))
  (gt6:PySem.W.findIn K (.ref k) "__getattr__"=some none)
  (cl6:PySem.W.findIn K (.ref k) "__class__"=some (some (.builtin "object.__class__")))
  (mo6:PySem.W.mroIn K k (.type "object")=some true)
  (mb6:PySem.W.mroIn K k (.type "BaseException")=some true)
  (xm7:PySem.W.exmOne K (.ref a) (.ref cc)=some true)
  (kv7:PySem.W.kitOne K (.ref a) (.type "ValueError")=some true)
  (k7_0:PySem.W.kitOne K (.ref a) (.ref b)=some false)
  (k7_1:PySem.W.kitOne K (.ref a) (.ref c)=some false)
  (k7_2:PySem.W.kitOne K (.ref a) (.ref d)=some false)
  (k7_3:PySem.W.kitOne K (.ref a) (.ref g)=some false)
  (k7_4:PySem.W.kitOne K (.ref a) (.ref i)=some false)
  (k7_5:PySem.W.kitOne K (.ref a) (.ref j)=some false)
  (k7_6:PySem.W.kitOne K (.ref a) (.ref k)=some false)
  (k7_7:PySem.W.kitOne K (.ref a) (.ref a)=some true)
  (z8:PySem.W.kitOne K (.ref a) (.ref u)=some false)
  (z9:PySem.W.kitOne K (.ref a) (.ref d1)=some false)
  (ga7:PySem.W.findIn K (.ref a) "__getattribute__"=some (some (.builtin "BaseException.__getattribute__")))
  (gt7:PySem.W.findIn K (.ref a) "__getattr__"=some none)
  (cl7:PySem.W.findIn K (.ref a) "__class__"=some (some (.builtin "object.__class__")))
  (mo7:PySem.W.mroIn K a (.type "object")=some true)
  (mb7:PySem.W.mroIn K a (.type "BaseException")=some true)
  (ini:PySem.W.findIn K (.ref a) "__init__"=some (some (.ref fI)))
  (xi:L2.kf K a [.type "ValueError",.type "Exception",.type "BaseException",.type "object"] "ValueError.__new__" fI=true)
  (fnI:PySem.W.isFn K (.ref fI)=true)
  (lI:K.lookup fI=some ⟨ocI,odI,.func (PySem.W.fnOf "__init__" "NoPlace.__init__" (aq s_NoPlace_init) (ao s_NoPlace_init) (af s_NoPlace_init) .none kVI dcI pmI anI v5 ctI),slI⟩)
  (cI:PySem.W.codeIn K v5 "NoPlace.__init__"=true)
  (kI:PySem.W.keepIn K (.ref fI)=true)
  (bga:PySem.W.specialIn K (.ref cc) "__getattribute__"=some (some (.builtin "type.__getattribute__")))
  (brd:PySem.W.readsIn K cc (.type "type")=true)
  (bfc:PySem.W.findCls K (.ref cc) (.type "type") "__init__"=some (.val (.builtin "ValueError.__init__")))
  (bhi:PySem.W.handedIn (.builtin "ValueError.__init__")=true)
  (xo:(PySem.W.clsIn K a).any (λcd=>L2.fq [.type "ValueError",.type "Exception",.type "BaseException",.type "object"] cd.mro&&cd.hasDict)=true)
  (xs:PySem.W.findIn K (.ref a) "__setattr__"=some (some (.builtin "object.__setattr__")))
  (xn:PySem.W.findIn K (.ref a) "name"=some none)
  (xh:PySem.W.hasDictIn K a=true)
  (gS:PySem.W.nsIn K mainGlobals "SMALL_LETTERS"=some (some vS))(rS:aN (.str AO) vS)
  (gN:PySem.W.nsIn K mainGlobals "LONGEST_NAME"=some (some vN))(rN:aN (.int 12) vN)
  (gP:PySem.W.nsIn K mainGlobals "MOST_PLACES"=some (some vP))(rP:aN (.int 20) vP)
  (gM:PySem.W.nsIn K mainGlobals "MOST_TIES"=some (some vM))(rM:aN (.int 40) vM):
  ∃fd:FuncData,(∀(s:Shared)(v:Value),BindsTo s fd ⟨[v],[]⟩ [("_law_script",v)])/\∀base:Heap,K.In base->base.Ns mainGlobals mg->FnOk l.prog w K mg base cY 27 fa fd ["_law_script"] (lG K):=by
 have e:=hfa.symm.trans (PySem.W.mg_of X G aL);cases e;have T:de K mg C:={cl:=⟨pg,hd,po,sa⟩,nS:=nS,nL:=nL,mgC:=PySem.W.mg_of X G aC,all:=PySem.W.mg_none_of X G ub,isi:=PySem.W.mg_none_of X G m,str:=PySem.W.mg_none_of X G uf,int:=PySem.W.mg_none_of X G uc,bool:=PySem.W.mg_none_of X G xb,list:=PySem.W.mg_none_of X G xd,tuple:=PySem.W.mg_none_of X G t,len:=PySem.W.mg_none_of X G ud,range:=PySem.W.mg_none_of X G q,abs:=PySem.W.mg_none_of X G ua,small:=⟨vS,PySem.W.mg_of X G gS,rS⟩,longest:=⟨vN,PySem.W.mg_of X G gN,rN⟩,mostP:=⟨vP,PySem.W.mg_of X G gP,rP⟩,mostT:=⟨vM,PySem.W.mg_of X G gM,rM⟩,kIB:=CQ K};have A:DK K mg C B:={T:=T,mks:=mk,kc:=kc,tb:=⟨⟨pgB,hdB,poB,saB⟩,nSB,nLB,PySem.W.mg_of X G aB⟩,mksB:=mkB,kcB:=kcB,tw:=⟨PySem.W.mg_none_of X G xc,PySem.W.mg_none_of X G ug⟩,ts:=⟨PySem.W.mg_none_of X G ue,PySem.W.mg_none_of X G p⟩,errs:=⟨λe=>match e with|.noName=>b|.twice=>c|.same=>d|.noWidth=>g|.noTie=>i|.tooMany=>j,k,a,cc,fI,u,d1,_,⟨PySem.W.mg_of X G m0,PySem.W.mg_of X G m1,PySem.W.mg_of X G m2,PySem.W.mg_of X G m3,PySem.W.mg_of X G m4,PySem.W.mg_of X G m5,λe=>match e with|.noName=>x0|.twice=>x1|.same=>x2|.noWidth=>x3|.noTie=>x4|.tooMany=>x5⟩,⟨PySem.W.mg_of X G m6,x6⟩,⟨PySem.W.mg_of X G m7,PySem.W.mg_of X G mcc,xi,fnI,⟨bga,brd,bfc,bhi⟩,⟨xo,mo7,xs,xn⟩⟩,⟨PySem.W.mg_of X G md0,PySem.W.mg_of X G md1,PySem.W.mg_none_of X G mve,λr=>match r with|.err .noName=>⟨ga0,gt0,cl0,n,o,mo0,mb0⟩|.err .twice=>⟨ga1,gt1,cl1,n,o,mo1,mb1⟩|.err .same=>⟨ga2,gt2,cl2,n,o,mo2,mb2⟩|.err .noWidth=>⟨ga3,gt3,cl3,n,o,mo3,mb3⟩|.err .noTie=>⟨ga4,gt4,cl4,n,o,mo4,mb4⟩|.err .tooMany=>⟨ga5,gt5,cl5,n,o,mo5,mb5⟩|.claim=>⟨ga6,gt6,cl6,n,o,mo6,mb6⟩|.place _=>⟨ga7,gt7,cl7,n,o,mo7,mb7⟩,λr f=>match r,f with|.err .noName,.noName=>k0_0|.err .noName,.twice=>k0_1|.err .noName,.same=>k0_2|.err .noName,.noWidth=>k0_3|.err .noName,.noTie=>k0_4|.err .noName,.tooMany=>k0_5|.err .twice,.noName=>k1_0|.err .twice,.twice=>k1_1|.err .twice,.same=>k1_2|.err .twice,.noWidth=>k1_3|.err .twice,.noTie=>k1_4|.err .twice,.tooMany=>k1_5|.err .same,.noName=>k2_0|.err .same,.twice=>k2_1|.err .same,.same=>k2_2|.err .same,.noWidth=>k2_3|.err .same,.noTie=>k2_4|.err .same,.tooMany=>k2_5|.err .noWidth,.noName=>k3_0|.err .noWidth,.twice=>k3_1|.err .noWidth,.same=>k3_2|.err .noWidth,.noWidth=>k3_3|.err .noWidth,.noTie=>k3_4|.err .noWidth,.tooMany=>k3_5|.err .noTie,.noName=>k4_0|.err .noTie,.twice=>k4_1|.err .noTie,.same=>k4_2|.err .noTie,.noWidth=>k4_3|.err .noTie,.noTie=>k4_4|.err .noTie,.tooMany=>k4_5|.err .tooMany,.noName=>k5_0|.err .tooMany,.twice=>k5_1|.err .tooMany,.same=>k5_2|.err .tooMany,.noWidth=>k5_3|.err .tooMany,.noTie=>k5_4|.err .tooMany,.tooMany=>k5_5|.claim,.noName=>k6_0|.claim,.twice=>k6_1|.claim,.same=>k6_2|.claim,.noWidth=>k6_3|.claim,.noTie=>k6_4|.claim,.tooMany=>k6_5|.place _,.noName=>k7_0|.place _,.twice=>k7_1|.place _,.same=>k7_2|.place _,.noWidth=>k7_3|.place _,.noTie=>k7_4|.place _,.tooMany=>k7_5,λr=>match r with|.err .noName=>k0_6|.err .twice=>k1_6|.err .same=>k2_6|.err .noWidth=>k3_6|.err .noTie=>k4_6|.err .tooMany=>k5_6|.claim=>k6_6|.place _=>k7_6,λr=>match r with|.err .noName=>k0_7|.err .twice=>k1_7|.err .same=>k2_7|.err .noWidth=>k3_7|.err .noTie=>k4_7|.err .tooMany=>k5_7|.claim=>k6_7|.place _=>k7_7,λr=>match r with|.err .noName=>zu|.err .twice=>zw|.err .same=>zy|.err .noWidth=>z0|.err .noTie=>z2|.err .tooMany=>z4|.claim=>z6|.place _=>z8,λr=>match r with|.err .noName=>zv|.err .twice=>zx|.err .same=>zz|.err .noWidth=>z1|.err .noTie=>z3|.err .tooMany=>z5|.claim=>z7|.place _=>z9,λr=>match r with|.err .noName=>kv0|.err .twice=>kv1|.err .same=>kv2|.err .noWidth=>kv3|.err .noTie=>kv4|.err .tooMany=>kv5|.claim=>kv6|.place _=>kv7,λr=>match r with|.err .noName=>xm0|.err .twice=>xm1|.err .same=>xm2|.err .noWidth=>xm3|.err .noTie=>xm4|.err .tooMany=>xm5|.claim=>xm6|.place _=>xm7,xh⟩,kT lI cI kI⟩,made:=bw X G a0 l0 c0 k0,name:=bw X G a1 l1 c1 k1,whole:=bw X G a2 l2 c2 k2,rname:=bw X G a3 l3 c3 k3,rwidth:=bw X G a4 l4 c4 k4,rmore:=bw X G a5 l5 c5 k5,isPl:=bw X G a6 l6 c6 k6,byN:=bw X G a7 l7 c7 k7,isT:=bw X G a8 l8 c8 k8,stops:=bw X G a9 l9 c9 k9,wend:=bw X G a10 l10 c10 k10,steps:=bw X G a11 l11 c11 k11,by_:=bw X G a12 l12 c12 k12,bfs:=bw X G a13 l13 c13 k13,membs:=bw X G a14 l14 c14 k14,wpap:=bw X G a15 l15 c15 k15,mpap:=bw X G a16 l16 c16 k16,fway:=bw X G a17 l17 c17 k17,islow:=bw X G a18 l18 c18 k18,lower:=bw X G a19 l19 c19 k19,fring:=bw X G a20 l20 c20 k20,fplain:=bw X G a21 l21 c21 k21,fclaim:=bw X G a22 l22 c22 k22,sway:=bw X G a23 l23 c23 k23,lplain:=bw X G a24 l24 c24 k24,lclaim:=bw X G a25 l25 c25 k25,lookC:=bw X G a26 l26 c26 k26,strg:=bw X G a27 l27 c27 k27,unt:=bw X G a28 l28 c28 k28,nall:=bw X G a29 l29 c29 k29,tells:=bw X G a30 l30 c30 k30,cop:=bw X G a31 l31 c31 k31,asked:=bw X G a32 l32 c32 k32,class_:=bw X G a33 l33 c33 k33,wrong:=bw X G a34 l34 c34 k34,look:=bw X G a35 l35 c35 k35,init:=cq a36 i36 l36 c36 k36,place:=cq a37 i37 l37 c37 k37,tie:=cq a38 i38 l38 c38 k38,cut:=cq a39 i39 l39 c39 k39,alter:=cq a40 i40 l40 c40 k40,reft:=cq a41 i41 l41 c41 k41,places:=cq a42 i42 l42 c42 k42,ties:=cq a43 i43 l43 c43 k43,twin:=cq a44 i44 l44 c44 k44,binit:=cq a45 i45 l45 c45 k45,bplace:=cq a46 i46 l46 c46 k46,btie:=cq a47 i47 l47 c47 k47,bcut:=cq a48 i48 l48 c48 k48,balter:=cq a49 i49 l49 c49 k49,bmend:=cq a50 i50 l50 c50 k50,bstate:=cq a51 i51 l51 c51 k51,bforget:=cq a52 i52 l52 c52 k52,bref:=cq a53 i53 l53 c53 k53,bnet:=cq a54 i54 l54 c54 k54,bclaims:=cq a55 i55 l55 c55 k55,bclaim:=cq a56 i56 l56 c56 k56,bverdict:=cq a57 i57 l57 c57 k57,bpaper:=cq a58 i58 l58 c58 k58};exact⟨PySem.W.fnOf "law" "law" (aq s_law) (ao s_law) (af s_law) .none kVL dcL pmL vu y3 ctL,λs v=>.of_eq rfl,λbase _ _=>Ai A (kT lL cL kL)⟩
theorem AU{l:PySem.W.OpenLaw}{q:Program}{b:List Str}{i:(Str->Option Value)->Heap->Prop}{e:World->Heap->Prop}{d:DefRec}{K:Params->PySem.W.Frag}(hn:l.most=some 63)(c:d.params.defaults=[])
  (m:∀(w:World)(h:Heap),e w h->(K w.params).In h)
  (F:∀(w:World)(mg:Str->Option Value)(g:Addr)(h:Heap),(K w.params).In h->h.Ns mainGlobals mg->mg d.name=some (.ref g)->
   ∃fd:FuncData,(∀(s:Shared)(u:Value),BindsTo s fd ⟨[u],[]⟩ [("_law_script",u)])/\∀base:Heap,(K w.params).In base->base.Ns mainGlobals mg->FnOk l.prog w (K w.params) mg base cY 27 g fd ["_law_script"] (lG (K w.params))):
  PySem.W.WalkO q b i e l.row.toRowW d [] (λf vs=>PySem.call f vs):=
 L2.uK (n:=63) (k:=27) (x:="_law_script") (CX:=λ_=>cY) (sp:=λw=>lG (K w.params)) hn Qd c ⟨rfl,Qd,Qd,rfl⟩ m F (λ_ _ a ns o _ j=>⟨a,ns,rfl,j,o,λ_=>rfl⟩) λ_ _ _ _ _ z=>z
end Net
def PySem.W.Fast.tw4973082347007133240:Nat:=0
def PySem.W.Fast.tw12207640377310578584:Nat:=0
def PySem.W.Fast.tw9266323258883246927:Nat:=0
def PySem.W.Fast.tw11252892454325184431:Nat:=0
def PySem.W.Fast.tw12433014784514563568:Nat:=0
def PySem.W.Fast.tw6398798713191753706:Nat:=0
def PySem.W.Fast.tw11106360550496378823:Nat:=0
def PySem.W.Fast.tw12133565946886610435:Nat:=0
def PySem.W.Fast.tw10041832439930273831:Nat:=0
def PySem.W.Fast.tw2768135600697012788:Nat:=0
def PySem.W.Fast.tw12742877688952271374:Nat:=0
def PySem.W.Fast.tw8041957191235844079:Nat:=0
def PySem.W.Fast.tw6564822574270525376:Nat:=0
def PySem.W.Fast.tw5005148399863793503:Nat:=0
def PySem.W.Fast.tw15903821825545029404:Nat:=0
def PySem.W.Fast.tw11461083835537365059:Nat:=0
def PySem.W.Fast.tw5866448537497925665:Nat:=0
def PySem.W.Fast.tw16122185091459426208:Nat:=0
def PySem.W.Fast.tw17069971684552063161:Nat:=0
def PySem.W.Fast.tw15104240316558810807:Nat:=0
def PySem.W.Fast.tw4867108973409020187:Nat:=0
def PySem.W.Fast.tw4704967173814623048:Nat:=0
def PySem.W.Fast.tw1397699233722023631:Nat:=0
def PySem.W.Fast.tw1962445923533101789:Nat:=0
def PySem.W.Fast.tw12593028689207858537:Nat:=0
def PySem.W.Fast.tw1936413829791739392:Nat:=0
def PySem.W.Fast.tw9065485375357659409:Nat:=0
def PySem.W.Fast.tw14694063921014053034:Nat:=0
def PySem.W.Fast.tw9027755169397837752:Nat:=0
def PySem.W.Fast.tw15731096948995221182:Nat:=0
def PySem.W.Fast.tw14365820893626734674:Nat:=0
def PySem.W.Fast.tw17364876796714544963:Nat:=0
def PySem.W.Fast.tw5789796253643418276:Nat:=0
def PySem.W.Fast.tw16872861915006974499:Nat:=0
def PySem.W.Fast.tw15449150039479659208:Nat:=0
def PySem.W.Fast.tw13247020481447952053:Nat:=0
def PySem.W.Fast.tw4955860328308522378:Nat:=0
def PySem.W.Fast.tw9358529052508845610:Nat:=0
def PySem.W.Fast.tw8862495110702811432:Nat:=0
def PySem.W.Fast.tw7474815441915455500:Nat:=0
def PySem.W.Fast.tw13348362620691662338:Nat:=0
def PySem.W.Fast.tw11022195430295235251:Nat:=0
def PySem.W.Fast.tw4848789851077835312:Nat:=0
def PySem.W.Fast.tw9416566625398810231:Nat:=0
def PySem.W.Fast.tw12777401250429358117:Nat:=0
def PySem.W.Fast.tw7314966402332231487:Nat:=0
def PySem.W.Fast.tw4733723100661373492:Nat:=0
def PySem.W.Fast.tw6295627888622289966:Nat:=0
def PySem.W.Fast.tw3067449900966164226:Nat:=0
def PySem.W.Fast.tw7356079764928791795:Nat:=0
def PySem.W.Fast.tw12003107377090292589:Nat:=0
def PySem.W.Fast.tw2013547877038747003:Nat:=0
def PySem.W.Fast.tw17775060344808910824:Nat:=0
def PySem.W.Fast.tw9719535478798969658:Nat:=0
def PySem.W.Fast.tw5480698662476135846:Nat:=0
def PySem.W.Fast.tw6204665921469724832:Nat:=0
def PySem.W.Fast.tw7940953245401244366:Nat:=0
def PySem.W.Fast.tw4802896768156116023:Nat:=0
def PySem.W.Fast.tw3429460702468059104:Nat:=0
def PySem.W.Fast.tw13059374108131410522:Nat:=0
def PySem.W.Fast.tw4588670650783146188:Nat:=0
def PySem.W.Fast.tw13982616670110764393:Nat:=0
def PySem.W.Fast.tw15463886345508721213:Nat:=0
def PySem.W.Fast.tw11267675761298911463:Nat:=0
def PySem.W.Fast.tw15892841154320066504:Nat:=0
def PySem.W.Fast.tw2760309653928694929:Nat:=0
def PySem.W.Fast.tw11927014349921280039:Nat:=0
def PySem.W.Fast.tw4855779429639017511:Nat:=0
def PySem.W.Fast.tw8738163951724448310:Nat:=0
def PySem.W.Fast.tw549820975693839642:Nat:=0
def PySem.W.Fast.tw1372394404997622903:Nat:=0
def PySem.W.Fast.tw8674883659350221470:Nat:=0
def PySem.W.Fast.tw5056546176807285420:Nat:=0
def PySem.W.Fast.tw4840331676007972726:Nat:=0
def PySem.W.Fast.tw8003114715674186455:Nat:=0
def PySem.W.Fast.tw14055628831301562832:Nat:=0
def PySem.W.Fast.tw13810971403367939365:Nat:=0
def PySem.W.Fast.tw12304219423052777448:Nat:=0
def PySem.W.Fast.tw5036092546868234264:Nat:=0
def PySem.W.Fast.tw4732801326326929230:Nat:=0
def PySem.W.Fast.tw11001339122462572783:Nat:=0
def PySem.W.Fast.tw262874786819504009:Nat:=0
def PySem.W.Fast.tw17162677018007999974:Nat:=0
def PySem.W.Fast.tw15102684060655704160:Nat:=0
def PySem.W.Fast.tw4305737188198431674:Nat:=0
def PySem.W.Fast.tw7569525425944967556:Nat:=0
def PySem.W.Fast.tw3686196457508088365:Nat:=0
def PySem.W.Fast.tw6833766141315615935:Nat:=0
def PySem.W.Fast.tw3004616860686186908:Nat:=0
def PySem.W.Fast.tw1795971050746311150:Nat:=0
def PySem.W.Fast.tw7511736645156595222:Nat:=0
def PySem.W.Fast.tw13597032534391333254:Nat:=0
def PySem.W.Fast.tw17153817339794077778:Nat:=0
def PySem.W.Fast.tw14633791125330474918:Nat:=0
def PySem.W.Fast.tw18369158591069121435:Nat:=0
def PySem.W.Fast.tw8725743143202048601:Nat:=0
def PySem.W.Fast.tw17911037484829066987:Nat:=0
def PySem.W.Fast.tw188306602794378431:Nat:=0
def PySem.W.Fast.tw5527887481493719414:Nat:=0
def PySem.W.Fast.tw4867348619313812915:Nat:=0
def PySem.W.Fast.tw10942246268944387467:Nat:=0
def PySem.W.Fast.tw15416612125016360536:Nat:=0
def PySem.W.Fast.tw4016998681600388685:Nat:=0
def PySem.W.Fast.tw2112345059022338378:Nat:=0
def PySem.W.Fast.tw1309271426852191844:Nat:=0
def PySem.W.Fast.tw14054860122218797346:Nat:=0
def PySem.W.Fast.tw11593340700435608681:Nat:=0
def PySem.W.Fast.tw3120439922816698198:Nat:=0
def PySem.W.Fast.tw17654218256134755673:Nat:=0
def PySem.W.Fast.tw10103380318085765642:Nat:=0
def PySem.W.Fast.tw1149015299916506185:Nat:=0
def PySem.W.Fast.tw3820431371403998054:Nat:=0
def PySem.W.Fast.tw16388699576081170093:Nat:=0
def PySem.W.Fast.tw397008127152307055:Nat:=0
def PySem.W.Fast.tw9193162459733127054:Nat:=0
def PySem.W.Fast.tw14912652365559655696:Nat:=0
def PySem.W.Fast.tw12792012883618958852:Nat:=0
def PySem.W.Fast.tw16413210900839812609:Nat:=0
def PySem.W.Fast.tw10570838272955994089:Nat:=0
def PySem.W.Fast.tw7578644694384220633:Nat:=0
def PySem.W.Fast.tw521698523239942507:Nat:=0
def PySem.W.Fast.tw14233568671845753167:Nat:=0
def PySem.W.Fast.tw4422964460981845153:Nat:=0
def PySem.W.Fast.tw5998707106854613699:Nat:=0
def PySem.W.Fast.tw4634314773761336710:Nat:=0
def PySem.W.Fast.tw10615413169509219250:Nat:=0
def PySem.W.Fast.tw7099574791965914709:Nat:=0
def PySem.W.Fast.tw3612943143007817618:Nat:=0
def PySem.W.Fast.tw13474956510929229336:Nat:=0
def PySem.W.Fast.tw13892960388388090752:Nat:=0
def PySem.W.Fast.tw11709549573194115759:Nat:=0
def PySem.W.Fast.tw4592409810493669344:Nat:=0
def PySem.W.Fast.tw15793450460379393838:Nat:=0
def PySem.W.Fast.tw8077573580741731783:Nat:=0
def PySem.W.Fast.tw1414050655760770139:Nat:=0
def PySem.W.Fast.tw1452423489947628757:Nat:=0
def PySem.W.Fast.tw4167558101536545381:Nat:=0
def PySem.W.Fast.tw9887738547652234485:Nat:=0
def PySem.W.Fast.tw6645033881184723189:Nat:=0
def PySem.W.Fast.tw13262917400125853525:Nat:=0
def PySem.W.Fast.tw4467636713244968682:Nat:=0
def PySem.W.Fast.tw2677281236111897320:Nat:=0
def PySem.W.Fast.tw1803908407945680674:Nat:=0
def PySem.W.Fast.tw7763149041990893331:Nat:=0
def PySem.W.Fast.tw7296540523629008246:Nat:=0
def PySem.W.Fast.tw6135437315261170491:Nat:=0
def PySem.W.Fast.tw10753787933047825128:Nat:=0
def PySem.W.Fast.tw16208330661969686369:Nat:=0
def PySem.W.Fast.tw15697672839868664643:Nat:=0
def PySem.W.Fast.tw2610070338164167252:Nat:=0
def PySem.W.Fast.tw2904998822760248404:Nat:=0
def PySem.W.Fast.tw16236499632638213693:Nat:=0
def PySem.W.Fast.tw189680160950120772:Nat:=0
def PySem.W.Fast.tw6829968782502245361:Nat:=0
def PySem.W.Fast.tw5990215761813131118:Nat:=0
def PySem.W.Fast.tw11527999704102987509:Nat:=0
def PySem.W.Fast.tw8648816362409056397:Nat:=0
def PySem.W.Fast.tw8704425489344662311:Nat:=0
def PySem.W.Fast.tw16965134936094774825:Nat:=0
def PySem.W.Fast.tw4493403044472245857:Nat:=0
def PySem.W.Fast.tw14769867002752827635:Nat:=0
def PySem.W.Fast.tw13025444485715743472:Nat:=0
def PySem.W.Fast.tw13524091544209792281:Nat:=0
def PySem.W.Fast.tw12608626665018816880:Nat:=0
def PySem.W.Fast.tw1409851212667071785:Nat:=0
def PySem.W.Fast.tw12789724882018252124:Nat:=0
def PySem.W.Fast.tw13129901300177130606:Nat:=0
def PySem.W.Fast.tw9164176694387361773:Nat:=0
def PySem.W.Fast.tw5014195897076958501:Nat:=0
def PySem.W.Fast.tw13175934346150963192:Nat:=0
def PySem.W.Fast.tw8060821254693422783:Nat:=0
def PySem.W.Fast.tw2807683706757132968:Nat:=0
def PySem.W.Fast.tw16681791880672242050:Nat:=0
def PySem.W.Fast.tw8825468469332278279:Nat:=0
def PySem.W.Fast.tw16641700932714536488:Nat:=0
def PySem.W.Fast.tw8496668623807574646:Nat:=0
def PySem.W.Fast.tw3894268518929454366:Nat:=0
def PySem.W.Fast.tw8827502803551691533:Nat:=0
def PySem.W.Fast.tw8047338386854769736:Nat:=0
def PySem.W.Fast.tw14774120377511240745:Nat:=0
def PySem.W.Fast.tw13217988127428317795:Nat:=0
def PySem.W.Fast.tw6746016961430273001:Nat:=0
def PySem.W.Fast.tw3516609510116023020:Nat:=0
def PySem.W.Fast.tw14997822606963886908:Nat:=0
def PySem.W.Fast.tw2451646548144585898:Nat:=0
def PySem.W.Fast.tw16727756762224427450:Nat:=0
def PySem.W.Fast.tw11438614273606006706:Nat:=0
def PySem.W.Fast.tw2717329818013628692:Nat:=0
def PySem.W.Fast.tw1916286933714558101:Nat:=0
def PySem.W.Fast.tw7697184259913550242:Nat:=0
def PySem.W.Fast.tw4299135277388226961:Nat:=0
def PySem.W.Fast.tw6023191931608284678:Nat:=0
def PySem.W.Fast.tw7870157872768179173:Nat:=0
def PySem.W.Fast.tw13992539067735021917:Nat:=0
def PySem.W.Fast.tw2038210167871141496:Nat:=0
def PySem.W.Fast.tw6723595520614037653:Nat:=0
def PySem.W.Fast.tw13358062850869957016:Nat:=0
def PySem.W.Fast.tw5880625744233646473:Nat:=0
def PySem.W.Fast.tw874514439572289109:Nat:=0
def PySem.W.Fast.tw10613509114421075835:Nat:=0
def PySem.W.Fast.tw11959219494667874048:Nat:=0
def PySem.W.Fast.tw3407106716087243441:Nat:=0
def PySem.W.Fast.tw14663055955062139977:Nat:=0
def PySem.W.Fast.tw7532705723537340244:Nat:=0
def PySem.W.Fast.tw2942339189790968772:Nat:=0
def PySem.W.Fast.tw8588528872494462949:Nat:=0
def PySem.W.Fast.tw11862546403980436892:Nat:=0
def PySem.W.Fast.tw12943371515866598771:Nat:=0
def PySem.W.Fast.tw14945394605572026492:Nat:=0
def PySem.W.Fast.tw18091480519257403036:Nat:=0
def PySem.W.Fast.tw14553356024080582889:Nat:=0
def PySem.W.Fast.tw1680368019448573081:Nat:=0
def PySem.W.Fast.tw16133736835725913900:Nat:=0
def PySem.W.Fast.tw4379411743694160524:Nat:=0
def PySem.W.Fast.tw15181179724073138416:Nat:=0
def PySem.W.Fast.tw7344432866163126417:Nat:=0
def PySem.W.Fast.tw17352498571281129647:Nat:=0
def PySem.W.Fast.tw17566267495213580916:Nat:=0
def PySem.W.Fast.tw11517726880883733713:Nat:=0
def PySem.W.Fast.tw6157181566977205556:Nat:=0
def PySem.W.Fast.tw9592299006316217563:Nat:=0
def PySem.W.Fast.tw14631480547074271352:Nat:=0
def PySem.W.Fast.tw17775163108884305494:Nat:=0
def PySem.W.Fast.tw8777765162850119124:Nat:=0
def PySem.W.Fast.tw15369677635934377446:Nat:=0
def PySem.W.Fast.tw4742766025356952610:Nat:=0
def PySem.W.Fast.tw3583120394942503914:Nat:=0
def PySem.W.Fast.tw3799995443399523528:Nat:=0
def PySem.W.Fast.tw8790927370270508382:Nat:=0
def PySem.W.Fast.tw6578874598349676019:Nat:=0
def PySem.W.Fast.tw14162485495304008848:Nat:=0
def PySem.W.Fast.tw5524897725513623828:Nat:=0
def PySem.W.Fast.tw5772058324932191896:Nat:=0
def PySem.W.Fast.tw1689651285395796050:Nat:=0
def PySem.W.Fast.tw221156257055287618:Nat:=0
def PySem.W.Fast.tw777505055858918626:Nat:=0
def PySem.W.Fast.tw12145260604768457222:Nat:=0
def PySem.W.Fast.tw18170220502502162157:Nat:=0
def PySem.W.Fast.tw9730581713300968909:Nat:=0
def PySem.W.Fast.tw12328944376968739781:Nat:=0
def PySem.W.Fast.tw9174388536913404328:Nat:=0
def PySem.W.Fast.tw2437421769108902221:Nat:=0
def PySem.W.Fast.tw18121587121206607078:Nat:=0
def PySem.W.Fast.tw10684424631061877312:Nat:=0
def PySem.W.Fast.tw15671135532489635258:Nat:=0
def PySem.W.Fast.tw12996817401914733735:Nat:=0
def PySem.W.Fast.tw9205383990533141514:Nat:=0
def PySem.W.Fast.tw1668813513304426023:Nat:=0
def PySem.W.Fast.tw18251762474973342527:Nat:=0
def PySem.W.Fast.tw17665859950273653263:Nat:=0
def PySem.W.Fast.tw11746705608868075937:Nat:=0
def PySem.W.Fast.tw780535363350748426:Nat:=0
def PySem.W.Fast.tw3454604481264462190:Nat:=0
def PySem.W.Fast.tw298042820544689730:Nat:=0
def PySem.W.Fast.tw13135474053905897104:Nat:=0
def PySem.W.Fast.tw7701322354916177563:Nat:=0
def PySem.W.Fast.tw75410677825085218:Nat:=0
def PySem.W.Fast.tw104503284825109304:Nat:=0
def PySem.W.Fast.tw18156927622635005242:Nat:=0
def PySem.W.Fast.tw10905794115924096748:Nat:=0
def PySem.W.Fast.tw16347517886869651736:Nat:=0
def PySem.W.Fast.tw6674103689264240623:Nat:=0
def PySem.W.Fast.tw971129492358598736:Nat:=0
def PySem.W.Fast.tw5185149907762367701:Nat:=0
def PySem.W.Fast.tw2141581095291725908:Nat:=0
def PySem.W.Fast.tw3961609026161768047:Nat:=0
def PySem.W.Fast.tw8262432668077076821:Nat:=0
def PySem.W.Fast.tw11091888971925201704:Nat:=0
def PySem.W.Fast.tw18428019725365932032:Nat:=0
def PySem.W.Fast.tw4412217642847109877:Nat:=0
def PySem.W.Fast.tw12155233350946063689:Nat:=0
def PySem.W.Fast.tw7309136764095289808:Nat:=0
def PySem.W.Fast.tw2316008653478272142:Nat:=0
def PySem.W.Fast.tw17020836278750187697:Nat:=0
def PySem.W.Fast.tw5455648270334206095:Nat:=0
def PySem.W.Fast.tw17479484523100950977:Nat:=0
def PySem.W.Fast.tw18411081428627996563:Nat:=0
def PySem.W.Fast.tw1005766779200066700:Nat:=0
def PySem.W.Fast.tw2723601442125558282:Nat:=0
def PySem.W.Fast.tw18053113792020950973:Nat:=0
def PySem.W.Fast.tw14424873251463542531:Nat:=0
def PySem.W.Fast.tw5501158595166546110:Nat:=0
def PySem.W.Fast.tw10729427215572807881:Nat:=0
def PySem.W.Fast.tw8315900352476420918:Nat:=0
def PySem.W.Fast.tw7326993388415861648:Nat:=0
def PySem.W.Fast.tw5781210581192358823:Nat:=0
def PySem.W.Fast.tw569551186352132382:Nat:=0
def PySem.W.Fast.tw16158811260401102506:Nat:=0
def PySem.W.Fast.tw12571781220678054925:Nat:=0
def PySem.W.Fast.tw18280635034457094062:Nat:=0
def PySem.W.Fast.tw17193064390936380236:Nat:=0
def PySem.W.Fast.tw15428467999979080580:Nat:=0
def PySem.W.Fast.tw2512408675435347416:Nat:=0
def PySem.W.Fast.tw10736640307348914949:Nat:=0
def PySem.W.Fast.tw17507506482614597030:Nat:=0
def PySem.W.Fast.tw13122379260138096718:Nat:=0
def PySem.W.Fast.tw17551353630524719847:Nat:=0
def PySem.W.Fast.tw9693270937506971213:Nat:=0
def PySem.W.Fast.tw10206089321457375574:Nat:=0
def PySem.W.Fast.tw18384400596599330847:Nat:=0
def PySem.W.Fast.tw6275456831102820305:Nat:=0
def PySem.W.Fast.tw637017752324377094:Nat:=0
def PySem.W.Fast.tw3373283574367429647:Nat:=0
def PySem.W.Fast.tw2913863905898159698:Nat:=0
def PySem.W.Fast.tw4622063967419483172:Nat:=0
def PySem.W.Fast.tw11534950638259608651:Nat:=0
def PySem.W.Fast.tw13831715891770852958:Nat:=0
def PySem.W.Fast.tw627426673652421440:Nat:=0
def PySem.W.Fast.tw4953503810875129332:Nat:=0
def PySem.W.Fast.tw2779212486732346747:Nat:=0
def PySem.W.Fast.tw1433030831611953750:Nat:=0
def PySem.W.Fast.tw5988799039943438301:Nat:=0
def PySem.W.Fast.tw13401176360388922836:Nat:=0
def PySem.W.Fast.tw17559796285318567634:Nat:=0
def PySem.W.Fast.tw2566323783400659417:Nat:=0
def PySem.W.Fast.tw963421239633118306:Nat:=0
def PySem.W.Fast.tw37479538710856533:Nat:=0
def PySem.W.Fast.tw15440865071401681209:Nat:=0
def PySem.W.Fast.tw5011767919042462259:Nat:=0
def PySem.W.Fast.tw204089775821529700:Nat:=0
def PySem.W.Fast.tw17250114234149431208:Nat:=0
def PySem.W.Fast.tw10653251822607699769:Nat:=0
def PySem.W.Fast.tw12804923315112890648:Nat:=0
def PySem.W.Fast.tw18426619288394074260:Nat:=0
def PySem.W.Fast.tw2931495638280000479:Nat:=0
def PySem.W.Fast.tw413716142795356215:Nat:=0
def PySem.W.Fast.tw12393259062018045303:Nat:=0
def PySem.W.Fast.tw875166364277190345:Nat:=0
def PySem.W.Fast.tw12627224421223388238:Nat:=0
def PySem.W.Fast.tw16876560028359816794:Nat:=0
def PySem.W.Fast.tw8282884616822908294:Nat:=0
def PySem.W.Fast.tw8408265950447079924:Nat:=0
def PySem.W.Fast.tw7497224584808546431:Nat:=0
def PySem.W.Fast.tw10610035703300335328:Nat:=0
def PySem.W.Fast.tw7064884527904145018:Nat:=0
def PySem.W.Fast.tw16051967138306229222:Nat:=0
def PySem.W.Fast.tw16444623570187278274:Nat:=0
def PySem.W.Fast.tw7764752312246593052:Nat:=0
def PySem.W.Fast.tw14964469996481747434:Nat:=0
def PySem.W.Fast.tw4811107911216791908:Nat:=0
def PySem.W.Fast.tw17166436795389847550:Nat:=0
def PySem.W.Fast.tw15742957222131143105:Nat:=0
def PySem.W.Fast.tw18059316285338373484:Nat:=0
def PySem.W.Fast.tw17085953771757402337:Nat:=0
def PySem.W.Fast.tw11514289440446791298:Nat:=0
def PySem.W.Fast.tw7473167718568329306:Nat:=0
def PySem.W.Fast.tw16319567218361262507:Nat:=0
def PySem.W.Fast.tw12420488774995970172:Nat:=0
def PySem.W.Fast.tw4733709698007559788:Nat:=0
def PySem.W.Fast.tw16357583973237420114:Nat:=0
def PySem.W.Fast.tw9100109353805281107:Nat:=0
def PySem.W.Fast.tw4561213422391093137:Nat:=0
def PySem.W.Fast.tw13504118836410624089:Nat:=0
def PySem.W.Fast.tw10102513209859776236:Nat:=0
def PySem.W.Fast.tw8237567975181193297:Nat:=0
def PySem.W.Fast.tw3452966399229266243:Nat:=0
def PySem.W.Fast.tw16876143759902475758:Nat:=0
def PySem.W.Fast.tw7716283281915521717:Nat:=0
def PySem.W.Fast.tw5433828340235636804:Nat:=0
def PySem.W.Fast.tw13613214445814412778:Nat:=0
def PySem.W.Fast.tw7581126363065114428:Nat:=0
def PySem.W.Fast.tw13616056789609881606:Nat:=0
def PySem.W.Fast.tw12778779555378041045:Nat:=0
def PySem.W.Fast.tw17117718209772847603:Nat:=0
def PySem.W.Fast.tw2150338275233283680:Nat:=0
def PySem.W.Fast.tw8201608573123736569:Nat:=0
def PySem.W.Fast.tw6402504005742696832:Nat:=0
def PySem.W.Fast.tw16503159041535987964:Nat:=0
def PySem.W.Fast.tw15862013098920071754:Nat:=0
def PySem.W.Fast.tw11711532248301436498:Nat:=0
def PySem.W.Fast.tw12481419599750243516:Nat:=0
def PySem.W.Fast.tw13431563555263814867:Nat:=0
def PySem.W.Fast.tw12819873610483884906:Nat:=0
def PySem.W.Fast.tw3319970528200414870:Nat:=0
def PySem.W.Fast.tw17359501442900798566:Nat:=0
def PySem.W.Fast.tw3609936196112203482:Nat:=0
def PySem.W.Fast.tw17909607059860405783:Nat:=0
def PySem.W.Fast.tw7304387108917453816:Nat:=0
def PySem.W.Fast.tw6942785922563011752:Nat:=0
def PySem.W.Fast.tw4255113574487828039:Nat:=0
def PySem.W.Fast.tw5056272994769116544:Nat:=0
def PySem.W.Fast.tw8652170353109066059:Nat:=0
def PySem.W.Fast.tw13535208369411461568:Nat:=0
def PySem.W.Fast.tw4256845422665868735:Nat:=0
def PySem.W.Fast.tw17702106187394739823:Nat:=0
def PySem.W.Fast.tw14119040367002260706:Nat:=0
def PySem.W.Fast.tw7907257144386235481:Nat:=0
def PySem.W.Fast.tw18405453471302634324:Nat:=0
def PySem.W.Fast.tw18363608663183462486:Nat:=0
def PySem.W.Fast.tw16611341304192009332:Nat:=0
def PySem.W.Fast.tw11415731478506376599:Nat:=0
def PySem.W.Fast.tw12176869851015703060:Nat:=0
def PySem.W.Fast.tw11670625336022501229:Nat:=0
def PySem.W.Fast.tw8540125825583708864:Nat:=0
def PySem.W.Fast.tw7355290391547919583:Nat:=0
def PySem.W.Fast.tw3011905127680079698:Nat:=0
def PySem.W.Fast.tw15719545798569862072:Nat:=0
def PySem.W.Fast.tw16294517226956307929:Nat:=0
def PySem.W.Fast.tw796557044399036363:Nat:=0
def PySem.W.Fast.tw10327761796615559486:Nat:=0
def PySem.W.Fast.tw6924152591874306631:Nat:=0
def PySem.W.Fast.tw14716064269775268383:Nat:=0
def PySem.W.Fast.tw5583809308230757555:Nat:=0
def PySem.W.Fast.tw10615883020322277399:Nat:=0
def PySem.W.Fast.tw2999270904985771588:Nat:=0
def PySem.W.Fast.tw11224341587563905186:Nat:=0
def PySem.W.Fast.tw1087317977059516671:Nat:=0
def PySem.W.Fast.tw3555411955445417338:Nat:=0
def PySem.W.Fast.tw5399188819523868972:Nat:=0
def PySem.W.Fast.tw193919733724426404:Nat:=0
def PySem.W.Fast.tw129765451893536425:Nat:=0
def PySem.W.Fast.tw11862612341749546645:Nat:=0
def PySem.W.Fast.tw13210913084818451032:Nat:=0
def PySem.W.Fast.tw10285871214353856541:Nat:=0
def PySem.W.Fast.tw4757107478986922194:Nat:=0
def PySem.W.Fast.tw2411789523352850773:Nat:=0
def PySem.W.Fast.tw1916515813652127923:Nat:=0
def PySem.W.Fast.tw16661537735422229786:Nat:=0
def PySem.W.Fast.tw7701884854703542703:Nat:=0
def PySem.W.Fast.tw9993027543645955772:Nat:=0
def PySem.W.Fast.tw12627463731821774955:Nat:=0
def PySem.W.Fast.tw3659077174648468295:Nat:=0
def PySem.W.Fast.tw699942122133888154:Nat:=0
def PySem.W.Fast.tw9879219108275946254:Nat:=0
def PySem.W.Fast.tw6774678566534638622:Nat:=0
def PySem.W.Fast.tw15418089560011620868:Nat:=0
def PySem.W.Fast.tw10852530247147171307:Nat:=0
def PySem.W.Fast.tw6535542799223223856:Nat:=0
def PySem.W.Fast.tw11551521120118333021:Nat:=0
def PySem.W.Fast.tw17789146878802522512:Nat:=0
def PySem.W.Fast.tw1050867175832044109:Nat:=0
def PySem.W.Fast.tw15501036727399592092:Nat:=0
def PySem.W.Fast.tw8677872915914680897:Nat:=0
def PySem.W.Fast.tw8200429619358752674:Nat:=0
def PySem.W.Fast.tw7337632369027702089:Nat:=0
def PySem.W.Fast.tw7060956071567856873:Nat:=0
def PySem.W.Fast.tw7039861099948410194:Nat:=0
def PySem.W.Fast.tw15456480452475181113:Nat:=0
def PySem.W.Fast.tw11962201153345418447:Nat:=0
def PySem.W.Fast.tw9718504553739731078:Nat:=0
def PySem.W.Fast.tw17431614379356852365:Nat:=0
def PySem.W.Fast.tw7335545629472948886:Nat:=0
def PySem.W.Fast.tw13320681533430828598:Nat:=0
def PySem.W.Fast.tw8389223105392024381:Nat:=0
def PySem.W.Fast.tw14349534244717462867:Nat:=0
def PySem.W.Fast.tw4011217407344398864:Nat:=0
def PySem.W.Fast.tw7168766943826935419:Nat:=0
def PySem.W.Fast.tw11837451676798431113:Nat:=0
def PySem.W.Fast.tw1885010469901377593:Nat:=0
def PySem.W.Fast.tw18011686380959993204:Nat:=0
def PySem.W.Fast.tw4327856712171755937:Nat:=0
def PySem.W.Fast.tw13265258701515108278:Nat:=0
def PySem.W.Fast.tw5901174061495325910:Nat:=0
def PySem.W.Fast.tw17796275339388960573:Nat:=0
def PySem.W.Fast.tw1880085573975975514:Nat:=0
def PySem.W.Fast.tw7367798807775839405:Nat:=0
def PySem.W.Fast.tw16788448757497009788:Nat:=0
def PySem.W.Fast.tw4021374540585439081:Nat:=0
def PySem.W.Fast.tw6711687142909091815:Nat:=0
def PySem.W.Fast.tw2038776931421238904:Nat:=0
def PySem.W.Fast.tw14025743029563379522:Nat:=0
def PySem.W.Fast.tw421252030255966441:Nat:=0
def PySem.W.Fast.tw4672685599954789305:Nat:=0
def PySem.W.Fast.tw12396605061702182537:Nat:=0
def PySem.W.Fast.tw4063520580506837893:Nat:=0
def PySem.W.Fast.tw10985759838824981200:Nat:=0
def PySem.W.Fast.tw12582329885437321871:Nat:=0
def PySem.W.Fast.tw9675062474436684147:Nat:=0
def PySem.W.Fast.tw17270541320213088241:Nat:=0
def PySem.W.Fast.tw16532293888785235123:Nat:=0
def PySem.W.Fast.tw14946794505308590269:Nat:=0
def PySem.W.Fast.tw9713170182557487920:Nat:=0
def PySem.W.Fast.tw17477380819299198748:Nat:=0
def PySem.W.Fast.tw2550310546799385394:Nat:=0
def PySem.W.Fast.tw10575219168261674551:Nat:=0
def PySem.W.Fast.tw4054791341865148205:Nat:=0
def PySem.W.Fast.tw8424090114187404133:Nat:=0
def PySem.W.Fast.tw15186090383921025822:Nat:=0
def PySem.W.Fast.tw8387623833725552802:Nat:=0
def PySem.W.Fast.tw2644788065684076373:Nat:=0
def PySem.W.Fast.tw10699206437882314159:Nat:=0
def PySem.W.Fast.tw10226983605663346736:Nat:=0
def PySem.W.Fast.tw8593442550238810128:Nat:=0
def PySem.W.Fast.tw15120249451095577215:Nat:=0
def PySem.W.Fast.tw4863927468626741335:Nat:=0
def PySem.W.Fast.tw14428362605799870137:Nat:=0
def PySem.W.Fast.tw15604274391217872737:Nat:=0
def PySem.W.Fast.tw10997760131518641972:Nat:=0
def PySem.W.Fast.tw8399828397131986292:Nat:=0
def PySem.W.Fast.tw17586882573587178246:Nat:=0
def PySem.W.Fast.tw5390935841270456036:Nat:=0
def PySem.W.Fast.tw2204087062231664922:Nat:=0
def PySem.W.Fast.tw16766587239886941334:Nat:=0
def PySem.W.Fast.tw15442616238001146835:Nat:=0
def PySem.W.Fast.tw15355966246477477786:Nat:=0
def PySem.W.Fast.tw968178333338917776:Nat:=0
def PySem.W.Fast.tw8153357170894223899:Nat:=0
def PySem.W.Fast.tw7716758012543724410:Nat:=0
def PySem.W.Fast.tw10246965685257672403:Nat:=0
def PySem.W.Fast.tw11065768595704826441:Nat:=0
def PySem.W.Fast.tw18392697854610388171:Nat:=0
def PySem.W.Fast.tw1215650170059166966:Nat:=0
def PySem.W.Fast.tw636565159108320735:Nat:=0
def PySem.W.Fast.tw2139693411585584281:Nat:=0
def PySem.W.Fast.tw12628485666603891387:Nat:=0
def PySem.W.Fast.tw4237287385514505418:Nat:=0
def PySem.W.Fast.tw1441305806220115073:Nat:=0
def PySem.W.Fast.tw16590024116744479501:Nat:=0
def PySem.W.Fast.tw15478091716837666941:Nat:=0
def PySem.W.Fast.tw11760299173279635340:Nat:=0
def PySem.W.Fast.tw6503490944149345441:Nat:=0
def PySem.W.Fast.tw8754960032964674377:Nat:=0
def PySem.W.Fast.tw16791057619661587403:Nat:=0
def PySem.W.Fast.tw7188316940680519092:Nat:=0
def PySem.W.Fast.tw11761827151189716472:Nat:=0
def PySem.W.Fast.tw2596034969793664233:Nat:=0
def PySem.W.Fast.tw7376407742240401556:Nat:=0
def PySem.W.Fast.tw589916378520528290:Nat:=0
def PySem.W.Fast.tw17484137085518866868:Nat:=0
def PySem.W.Fast.tw17090055292558427946:Nat:=0
def PySem.W.Fast.tw11053465093411909946:Nat:=0
def PySem.W.Fast.tw3848682341378466040:Nat:=0
def PySem.W.Fast.tw14214114865834907614:Nat:=0
def PySem.W.Fast.tw5289786824214467823:Nat:=0
def PySem.W.Fast.tw11289109341594366528:Nat:=0
def PySem.W.Fast.tw15108702102187988192:Nat:=0
def PySem.W.Fast.tw7264199088999187913:Nat:=0
def PySem.W.Fast.tw17595587592494848141:Nat:=0
def PySem.W.Fast.tw1048508264495856216:Nat:=0
def PySem.W.Fast.tw18233421112260543800:Nat:=0
def PySem.W.Fast.tw10867840511407538568:Nat:=0
def PySem.W.Fast.tw16386718854496499391:Nat:=0
def PySem.W.Fast.tw4821039671336166517:Nat:=0
def PySem.W.Fast.tw14857207445640684257:Nat:=0
def PySem.W.Fast.tw7374726829050965492:Nat:=0
def PySem.W.Fast.tw5509076767826190426:Nat:=0
def PySem.W.Fast.tw1720409273767265325:Nat:=0
def PySem.W.Fast.tw6507282715195709879:Nat:=0
def PySem.W.Fast.tw8841594354521212949:Nat:=0
def PySem.W.Fast.tw5275342322310191939:Nat:=0
def PySem.W.Fast.tw10327761785469199531:Nat:=0
def PySem.W.Fast.tw3977030821847454122:Nat:=0
def PySem.W.Fast.tw13455541846400417800:Nat:=0
def PySem.W.Fast.tw9499782696993968708:Nat:=0
def PySem.W.Fast.tw5740419790434372674:Nat:=0
def PySem.W.Fast.tw5306236815859252058:Nat:=0
def PySem.W.Fast.tw8506089122812320564:Nat:=0
def PySem.W.Fast.tw9081812055526948487:Nat:=0
def PySem.W.Fast.tw1516615668762614946:Nat:=0
def PySem.W.Fast.tw7373699881472093896:Nat:=0
def PySem.W.Fast.tw3003606581412756941:Nat:=0
def PySem.W.Fast.tw10986781910631366454:Nat:=0
def PySem.W.Fast.tw13282591551389713018:Nat:=0
def PySem.W.Fast.tw6427880595048085404:Nat:=0
def PySem.W.Fast.tw14350702202292768337:Nat:=0
def PySem.W.Fast.tw11783999198863066342:Nat:=0
def PySem.W.Fast.tw128718171835782022:Nat:=0
def PySem.W.Fast.tw4981365744311490281:Nat:=0
def PySem.W.Fast.tw3864406840623122193:Nat:=0
def PySem.W.Fast.tw9618071221914657570:Nat:=0
def PySem.W.Fast.tw2958032034238981801:Nat:=0
def PySem.W.Fast.tw3408548042216399975:Nat:=0
def PySem.W.Fast.tw7913766753287751092:Nat:=0
def PySem.W.Fast.tw14576970426927380233:Nat:=0
def PySem.W.Fast.tw29941486757749091:Nat:=0
def PySem.W.Fast.tw7756053323849862390:Nat:=0
def PySem.W.Fast.tw2596857487489217687:Nat:=0
def PySem.W.Fast.tw7053523562235549262:Nat:=0
def PySem.W.Fast.tw9712261689862289664:Nat:=0
def PySem.W.Fast.tw1384744076898187726:Nat:=0
def PySem.W.Fast.tw5170977826778778506:Nat:=0
def PySem.W.Fast.tw1802387018127827930:Nat:=0
def PySem.W.Fast.tw14892227671533680637:Nat:=0
def PySem.W.Fast.tw16595532497170628968:Nat:=0
def PySem.W.Fast.tw16652408986361390766:Nat:=0
def PySem.W.Fast.tw5560092955883252214:Nat:=0
def PySem.W.Fast.tw2886967186392558879:Nat:=0
def PySem.W.Fast.tw5952857345174761759:Nat:=0
def PySem.W.Fast.tw4123074578317674381:Nat:=0
def PySem.W.Fast.tw2403977037365901071:Nat:=0
def PySem.W.Fast.tw13658257610944355839:Nat:=0
def PySem.W.Fast.tw16820218144232227352:Nat:=0
def PySem.W.Fast.tw8504345470437428812:Nat:=0
def PySem.W.Fast.tw11683935910355457481:Nat:=0
def PySem.W.Fast.tw15400438515186023057:Nat:=0
def PySem.W.Fast.tw17452048839447679439:Nat:=0
def PySem.W.Fast.tw10312009313630355893:Nat:=0
def PySem.W.Fast.tw11417105361063053543:Nat:=0
def PySem.W.Fast.tw2106509998555428822:Nat:=0
def PySem.W.Fast.tw14903893635381893960:Nat:=0
def PySem.W.Fast.tw1653660174879265799:Nat:=0
def PySem.W.Fast.tw14868665010259630679:Nat:=0
def PySem.W.Fast.tw8187859771831690150:Nat:=0
def PySem.W.Fast.tw10851599122094563934:Nat:=0
def PySem.W.Fast.tw6083029185778597090:Nat:=0
def PySem.W.Fast.tw916706226543549675:Nat:=0
def PySem.W.Fast.tw3184149347643147164:Nat:=0
def PySem.W.Fast.tw15070888837423422160:Nat:=0
def PySem.W.Fast.tw11111003997432501863:Nat:=0
def PySem.W.Fast.tw16475958353722579876:Nat:=0
def PySem.W.Fast.tw2026194896447622714:Nat:=0
def PySem.W.Fast.tw223170469512499642:Nat:=0
def PySem.W.Fast.tw9486740245811921846:Nat:=0
def PySem.W.Fast.tw15588589757731951294:Nat:=0
def PySem.W.Fast.tw6503459550654973215:Nat:=0
def PySem.W.Fast.tw1052319942992340802:Nat:=0
def PySem.W.Fast.tw16997102869862081145:Nat:=0
def PySem.W.Fast.tw17566919231650230046:Nat:=0
def PySem.W.Fast.tw3541786765947699970:Nat:=0
def PySem.W.Fast.tw4841424015989629520:Nat:=0
def PySem.W.Fast.tw512397251050004468:Nat:=0
def PySem.W.Fast.tw2745134805789823368:Nat:=0
def PySem.W.Fast.tw9622891096721891696:Nat:=0
def PySem.W.Fast.tw9710949911624715119:Nat:=0
def PySem.W.Fast.tw14035313531033824318:Nat:=0
def PySem.W.Fast.tw649553602715486124:Nat:=0
def PySem.W.Fast.tw41034523288236979:Nat:=0
def PySem.W.Fast.tw14158719893462202721:Nat:=0
def PySem.W.Fast.tw11099146501488978695:Nat:=0
def PySem.W.Fast.tw5085122166971791420:Nat:=0
def PySem.W.Fast.tw8386761368617845778:Nat:=0
def PySem.W.Fast.tw5582825922264237635:Nat:=0
def PySem.W.Fast.tw11171076259582739142:Nat:=0
def PySem.W.Fast.tw16384259279471014921:Nat:=0
def PySem.W.Fast.tw884866943223586121:Nat:=0
def PySem.W.Fast.tw15960332243273121423:Nat:=0
def PySem.W.Fast.tw3275683339010425984:Nat:=0
def PySem.W.Fast.tw17784810640733622135:Nat:=0
def PySem.W.Fast.tw12835624207566343350:Nat:=0
def PySem.W.Fast.tw14777753173983139840:Nat:=0
def PySem.W.Fast.tw11549793607062781441:Nat:=0
def PySem.W.Fast.tw17373370957888186444:Nat:=0
def PySem.W.Fast.tw4282978904754222675:Nat:=0
def PySem.W.Fast.tw8159106743500466307:Nat:=0
def PySem.W.Fast.tw8014118235057181460:Nat:=0
def PySem.W.Fast.tw11757202559446185379:Nat:=0
def PySem.W.Fast.tw2785916919800760872:Nat:=0
def PySem.W.Fast.tw5326565704321042497:Nat:=0
def PySem.W.Fast.tw13194158572184472254:Nat:=0
def PySem.W.Fast.tw14839301392756404974:Nat:=0
def PySem.W.Fast.tw18145123536735019079:Nat:=0
def PySem.W.Fast.tw9046665183667562519:Nat:=0
def PySem.W.Fast.tw17120721635138313120:Nat:=0
def PySem.W.Fast.tw2451542716031606100:Nat:=0
def PySem.W.Fast.tw1731827329136775752:Nat:=0
def PySem.W.Fast.tw2227636567502167406:Nat:=0
def PySem.W.Fast.tw16347142133559018683:Nat:=0
def PySem.W.Fast.tw12499569966453127739:Nat:=0
def PySem.W.Fast.tw6729072549152159711:Nat:=0
def PySem.W.Fast.tw14558204604628525507:Nat:=0
def PySem.W.Fast.tw13594907499210160059:Nat:=0
def PySem.W.Fast.tw8174436181703341222:Nat:=0
def PySem.W.Fast.tw2928465358028371557:Nat:=0
def PySem.W.Fast.tw4406057503085558428:Nat:=0
def PySem.W.Fast.tw3224278246885043453:Nat:=0
def PySem.W.Fast.tw13360145114629648757:Nat:=0
def PySem.W.Fast.tw8604479246201849301:Nat:=0
def PySem.W.Fast.tw1247064831354319465:Nat:=0
def PySem.W.Fast.tw14578937828712076212:Nat:=0
def PySem.W.Fast.tw2081116880443064228:Nat:=0
def PySem.W.Fast.tw3052872888346521972:Nat:=0
def PySem.W.Fast.tw3049403174145259:Nat:=0
def PySem.W.Fast.tw14191620074708192889:Nat:=0
def PySem.W.Fast.tw17881527929427709820:Nat:=0
def PySem.W.Fast.tw10917874987336790797:Nat:=0
def PySem.W.Fast.tw12546571008828788632:Nat:=0
def PySem.W.Fast.tw1668562101014167448:Nat:=0
def PySem.W.Fast.tw1226831038900597594:Nat:=0
def PySem.W.Fast.tw17925417138740130635:Nat:=0
def PySem.W.Fast.tw4493177551259285953:Nat:=0
def PySem.W.Fast.tw10198232701018277434:Nat:=0
def PySem.W.Fast.tw5942755838772833133:Nat:=0
def PySem.W.Fast.tw8060052880645899838:Nat:=0
def PySem.W.Fast.tw3981211580031829316:Nat:=0
def PySem.W.Fast.tw17871795703899768327:Nat:=0
def PySem.W.Fast.tw9667076168838891656:Nat:=0
def PySem.W.Fast.tw4018755353233267798:Nat:=0
def PySem.W.Fast.tw7427298038743943798:Nat:=0
def PySem.W.Fast.tw7577103818530398717:Nat:=0
def PySem.W.Fast.tw4103709331356343048:Nat:=0
def PySem.W.Fast.tw8736460745290082243:Nat:=0
def PySem.W.Fast.tw17258847511172533631:Nat:=0
def PySem.W.Fast.tw14792128705038821672:Nat:=0
def PySem.W.Fast.tw2788204380788127968:Nat:=0
def PySem.W.Fast.tw12325394118788760726:Nat:=0
def PySem.W.Fast.tw10947066918232137066:Nat:=0
def PySem.W.Fast.tw8384960547442865286:Nat:=0
def PySem.W.Fast.tw3361079572368133163:Nat:=0
def PySem.W.Fast.tw13602844941554228258:Nat:=0
def PySem.W.Fast.tw5060131941414028558:Nat:=0
def PySem.W.Fast.tw5733774085247657597:Nat:=0
def PySem.W.Fast.tw8348879225582271105:Nat:=0
def PySem.W.Fast.tw10478564283987907889:Nat:=0
def PySem.W.Fast.tw6884572183540531003:Nat:=0
def PySem.W.Fast.tw593499867762161290:Nat:=0
def PySem.W.Fast.tw4257534988956265818:Nat:=0
def PySem.W.Fast.tw16409346962028564830:Nat:=0
def PySem.W.Fast.tw4888973413931056616:Nat:=0
def PySem.W.Fast.tw11432008902917800771:Nat:=0
def PySem.W.Fast.tw778660986246143695:Nat:=0
def PySem.W.Fast.tw11637054224767831028:Nat:=0
def PySem.W.Fast.tw15424722832522705930:Nat:=0
def PySem.W.Fast.tw17559574490220519089:Nat:=0
def PySem.W.Fast.tw1629159441782305662:Nat:=0
def PySem.W.Fast.tw17848995367994894182:Nat:=0
def PySem.W.Fast.tw13101843719248947338:Nat:=0
def PySem.W.Fast.tw3846569035602886963:Nat:=0
def PySem.W.Fast.tw3516125345710902909:Nat:=0
def PySem.W.Fast.tw3561892225775845178:Nat:=0
def PySem.W.Fast.tw17937511946745895683:Nat:=0
def PySem.W.Fast.tw5988583730675660664:Nat:=0
def PySem.W.Fast.tw2443274648638628727:Nat:=0
def PySem.W.Fast.tw7914321726946091844:Nat:=0
def PySem.W.Fast.tw12624320975265801105:Nat:=0
def PySem.W.Fast.tw1158644372876686396:Nat:=0
def PySem.W.Fast.tw921278687451162193:Nat:=0
def PySem.W.Fast.tw10787845230101821107:Nat:=0
def PySem.W.Fast.tw13242539216897014739:Nat:=0
def PySem.W.Fast.tw720663697253089796:Nat:=0
def PySem.W.Fast.tw1903702489968924939:Nat:=0
def PySem.W.Fast.tw12565023780029135467:Nat:=0
def PySem.W.Fast.tw3556068144173431889:Nat:=0
def PySem.W.Fast.tw1881673625157163089:Nat:=0
def PySem.W.Fast.tw13407987317137913430:Nat:=0
def PySem.W.Fast.tw17925255328863138459:Nat:=0
def PySem.W.Fast.tw10490302540300140471:Nat:=0
def PySem.W.Fast.tw1977367477892495204:Nat:=0
def PySem.W.Fast.tw1417736519096021656:Nat:=0
def PySem.W.Fast.tw1334842347016766815:Nat:=0
def PySem.W.Fast.tw195085982501658028:Nat:=0
def PySem.W.Fast.tw7469083802667408367:Nat:=0
def PySem.W.Fast.tw15091021798020884623:Nat:=0
def PySem.W.Fast.tw149794692789099974:Nat:=0
def PySem.W.Fast.tw7716090014119994969:Nat:=0
def PySem.W.Fast.tw825742437481896852:Nat:=0
def PySem.W.Fast.tw4876486089383168852:Nat:=0
def PySem.W.Fast.tw17927850239295870691:Nat:=0
def PySem.W.Fast.tw11063995554028809124:Nat:=0
def PySem.W.Fast.tw5697251738899693063:Nat:=0
def PySem.W.Fast.tw9302034128018610716:Nat:=0
def PySem.W.Fast.tw17531737598665308643:Nat:=0
def PySem.W.Fast.tw14692821589002315470:Nat:=0
def PySem.W.Fast.tw17788850670786193497:Nat:=0
def PySem.W.Fast.tw9730795158102593075:Nat:=0
def PySem.W.Fast.tw2642231347522911423:Nat:=0
def PySem.W.Fast.tw16747727108468599386:Nat:=0
def PySem.W.Fast.tw14580854595556467668:Nat:=0
def PySem.W.Fast.tw7634054430579105657:Nat:=0
def PySem.W.Fast.tw3679767629780837702:Nat:=0
def PySem.W.Fast.tw13781296744923000398:Nat:=0
def PySem.W.Fast.tw5167648341370930745:Nat:=0
def PySem.W.Fast.tw12864270436837880396:Nat:=0
def PySem.W.Fast.tw6516808862070853916:Nat:=0
def PySem.W.Fast.tw1980661070974148677:Nat:=0
def PySem.W.Fast.tw3221375059003406327:Nat:=0
def PySem.W.Fast.tw11326805569141190460:Nat:=0
def PySem.W.Fast.tw7324263848775433489:Nat:=0
def PySem.W.Fast.tw16950596957498000807:Nat:=0
def PySem.W.Fast.tw16038410315999887100:Nat:=0
def PySem.W.Fast.tw13592034931052456811:Nat:=0
def PySem.W.Fast.tw9616807397368962209:Nat:=0
def PySem.W.Fast.tw9830628658221616561:Nat:=0
def PySem.W.Fast.tw9265671166670437451:Nat:=0
def PySem.W.Fast.tw2592713735208712971:Nat:=0
def PySem.W.Fast.tw10698443257189268991:Nat:=0
def PySem.W.Fast.tw12307671520066559778:Nat:=0
def PySem.W.Fast.tw6711849737468667136:Nat:=0
def PySem.W.Fast.tw3249019145298397962:Nat:=0
def PySem.W.Fast.tw872619234423969359:Nat:=0
def PySem.W.Fast.tw12881726723465430207:Nat:=0
def PySem.W.Fast.tw7669421235495728688:Nat:=0
def PySem.W.Fast.tw17868461389202128299:Nat:=0
def PySem.W.Fast.tw3274335945333307965:Nat:=0
def PySem.W.Fast.tw17813636790966671828:Nat:=0
def PySem.W.Fast.tw7756961403382095510:Nat:=0
def PySem.W.Fast.tw2432883601189886968:Nat:=0
def PySem.W.Fast.tw1215460341740071923:Nat:=0
def PySem.W.Fast.tw14791487018858593108:Nat:=0
def PySem.W.Fast.tw10297756332238380074:Nat:=0
def PySem.W.Fast.tw13893508435319740423:Nat:=0
def PySem.W.Fast.tw304558408493612104:Nat:=0
def PySem.W.Fast.tw13418253219741574155:Nat:=0
def PySem.W.Fast.tw17159881085320028585:Nat:=0
def PySem.W.Fast.tw17605316935082878399:Nat:=0
def PySem.W.Fast.tw12315841273305813408:Nat:=0
def PySem.W.Fast.tw16017262440707478668:Nat:=0
def PySem.W.Fast.tw14329924588151173213:Nat:=0
def PySem.W.Fast.tw9254495015104290114:Nat:=0
def PySem.W.Fast.tw3597142536177647248:Nat:=0
def PySem.W.Fast.tw8787829976257264645:Nat:=0
def PySem.W.Fast.tw8063335154390705407:Nat:=0
def PySem.W.Fast.tw2289756635524621429:Nat:=0
def PySem.W.Fast.tw15335133000400864675:Nat:=0
def PySem.W.Fast.tw14207196042406949077:Nat:=0
def PySem.W.Fast.tw6658561290507515765:Nat:=0
def PySem.W.Fast.tw519398372531262290:Nat:=0
def PySem.W.Fast.tw580600356995878933:Nat:=0
def PySem.W.Fast.tw14146283725810527349:Nat:=0
def PySem.W.Fast.tw9528544587234193197:Nat:=0
def PySem.W.Fast.tw16014534884860775787:Nat:=0
def PySem.W.Fast.tw14056930778868701855:Nat:=0
def PySem.W.Fast.tw14525089448312684438:Nat:=0
def PySem.W.Fast.tw3906127125797106946:Nat:=0
def PySem.W.Fast.tw11465949416040821182:Nat:=0
def PySem.W.Fast.tw2576094336432758103:Nat:=0
def PySem.W.Fast.tw925226042641607160:Nat:=0
def PySem.W.Fast.tw4655724989186093429:Nat:=0
def PySem.W.Fast.tw6284341478429401189:Nat:=0
def PySem.W.Fast.tw1153303149046284341:Nat:=0
def PySem.W.Fast.tw11783531782530621330:Nat:=0
def PySem.W.Fast.tw15382455946552737060:Nat:=0
def PySem.W.Fast.tw9644698616288618559:Nat:=0
def PySem.W.Fast.tw473976539784002133:Nat:=0
def PySem.W.Fast.tw13548738951317003348:Nat:=0
def PySem.W.Fast.tw18377041122205551867:Nat:=0
def PySem.W.Fast.tw17125069663368780349:Nat:=0
def PySem.W.Fast.tw3733656613597049668:Nat:=0
def PySem.W.Fast.tw1031631355730889293:Nat:=0
def PySem.W.Fast.tw14426233119821982628:Nat:=0
def PySem.W.Fast.tw2612925321689010273:Nat:=0
def PySem.W.Fast.tw14323494043925339947:Nat:=0
def PySem.W.Fast.tw3999610732373355819:Nat:=0
def PySem.W.Fast.tw17297538828178229666:Nat:=0
def PySem.W.Fast.tw16097605372953015773:Nat:=0
def PySem.W.Fast.tw9638244574764262403:Nat:=0
def PySem.W.Fast.tw6235154240876161902:Nat:=0
def PySem.W.Fast.tw10517166204561417172:Nat:=0
def PySem.W.Fast.tw12519332714225465333:Nat:=0
def PySem.W.Fast.tw3054033484864544814:Nat:=0
def PySem.W.Fast.tw8876976030447720875:Nat:=0
def PySem.W.Fast.tw15642985757930816564:Nat:=0
def PySem.W.Fast.tw1784863154011189217:Nat:=0
def PySem.W.Fast.tw4655899950993631445:Nat:=0
def PySem.W.Fast.tw3538009969566814607:Nat:=0
def PySem.W.Fast.tw12799621648936572482:Nat:=0
def PySem.W.Fast.tw17248159477289237407:Nat:=0
def PySem.W.Fast.tw12407993151961794702:Nat:=0
def PySem.W.Fast.tw1694545250733381453:Nat:=0
def PySem.W.Fast.tw11300842923676609215:Nat:=0
def PySem.W.Fast.tw3989628666650250516:Nat:=0
def PySem.W.Fast.tw17626308982307114827:Nat:=0
def PySem.W.Fast.tw2198844565540567965:Nat:=0
def PySem.W.Fast.tw2186609105050503906:Nat:=0
def PySem.W.Fast.tw6814340608929532622:Nat:=0
def PySem.W.Fast.tw3765501065714149259:Nat:=0
def PySem.W.Fast.tw6797116825203807570:Nat:=0
def PySem.W.Fast.tw13719463147401102131:Nat:=0
def PySem.W.Fast.tw17177570052164634516:Nat:=0
def PySem.W.Fast.tw10816326931122020869:Nat:=0
def PySem.W.Fast.tw7866496905362438630:Nat:=0
def PySem.W.Fast.tw7244302080054625261:Nat:=0
def PySem.W.Fast.tw15913140958053617001:Nat:=0
def PySem.W.Fast.tw5100513555689418721:Nat:=0
def PySem.W.Fast.tw4733106223782950001:Nat:=0
def PySem.W.Fast.tw2646310740544445498:Nat:=0
def PySem.W.Fast.tw5682718934019845692:Nat:=0
def PySem.W.Fast.tw3197067858184772197:Nat:=0
def PySem.W.Fast.tw4751429733768443969:Nat:=0
def PySem.W.Fast.tw14136973827952394860:Nat:=0
def PySem.W.Fast.tw775441429478441110:Nat:=0
def PySem.W.Fast.tw12426121454013244166:Nat:=0
def PySem.W.Fast.tw13580989514098483413:Nat:=0
def PySem.W.Fast.tw378674250488360160:Nat:=0
def PySem.W.Fast.tw1248895440207422293:Nat:=0
def PySem.W.Fast.tw5012846362939835526:Nat:=0
def PySem.W.Fast.tw1001003861168437055:Nat:=0
def PySem.W.Fast.tw8934269568390853137:Nat:=0
def PySem.W.Fast.tw5170887262089908151:Nat:=0
def PySem.W.Fast.tw11535767841012029968:Nat:=0
def PySem.W.Fast.tw16267406544030619619:Nat:=0
def PySem.W.Fast.tw3998893794992649052:Nat:=0
def PySem.W.Fast.tw6561642521770749066:Nat:=0
def PySem.W.Fast.tw7872301171525308611:Nat:=0
def PySem.W.Fast.tw3753034857494702476:Nat:=0
def PySem.W.Fast.tw3413000679340398086:Nat:=0
def PySem.W.Fast.tw9109469594664521593:Nat:=0
def PySem.W.Fast.tw9727952953413519395:Nat:=0
def PySem.W.Fast.tw18089411404010622929:Nat:=0
def PySem.W.Fast.tw2117771593662795412:Nat:=0
def PySem.W.Fast.tw17645299437363519148:Nat:=0
def PySem.W.Fast.tw427042476982440753:Nat:=0
def PySem.W.Fast.tw7968879332098357419:Nat:=0
def PySem.W.Fast.tw4230585489338356201:Nat:=0
def PySem.W.Fast.tw871861970181793527:Nat:=0
def PySem.W.Fast.tw8455100307042640663:Nat:=0
def PySem.W.Fast.tw15592859638640300380:Nat:=0
def PySem.W.Fast.tw10166752090243135655:Nat:=0
def PySem.W.Fast.tw9541457296184994546:Nat:=0
def PySem.W.Fast.tw15730711777669504784:Nat:=0
def PySem.W.Fast.tw9026831672857061814:Nat:=0
def PySem.W.Fast.tw16026970202700136633:Nat:=0
def PySem.W.Fast.tw14079025145023549569:Nat:=0
def PySem.W.Fast.tw5390840963582360799:Nat:=0
def PySem.W.Fast.tw944130596366336033:Nat:=0
def PySem.W.Fast.tw10545785050214111647:Nat:=0
def PySem.W.Fast.tw2660249651732644279:Nat:=0
def PySem.W.Fast.tw16562668579803514137:Nat:=0
def PySem.W.Fast.tw8979453615796669496:Nat:=0
def PySem.W.Fast.tw3531889264226740130:Nat:=0
def PySem.W.Fast.tw5375613422119146225:Nat:=0
def PySem.W.Fast.tw12794078831660497467:Nat:=0
def PySem.W.Fast.tw12041908129455036811:Nat:=0
def PySem.W.Fast.tw8856500510630325200:Nat:=0
def PySem.W.Fast.tw6494231812077658800:Nat:=0
def PySem.W.Fast.tw5954545696623832900:Nat:=0
def PySem.W.Fast.tw1944517440332453751:Nat:=0
def PySem.W.Fast.tw7664328340736412646:Nat:=0
def PySem.W.Fast.tw68136403610860141:Nat:=0
def PySem.W.Fast.tw10117242416783538381:Nat:=0
def PySem.W.Fast.tw18293160618021925451:Nat:=0
def PySem.W.Fast.tw9165091113243643643:Nat:=0
def PySem.W.Fast.tw4820006774628635637:Nat:=0
def PySem.W.Fast.tw687922851889672935:Nat:=0
def PySem.W.Fast.tw3816997339528231450:Nat:=0
def PySem.W.Fast.tw10563680026273781228:Nat:=0
def PySem.W.Fast.tw1937204091361453132:Nat:=0
def PySem.W.Fast.tw6408851040679910921:Nat:=0
def PySem.W.Fast.tw15691113854069642381:Nat:=0
def PySem.W.Fast.tw17492893117351984699:Nat:=0
def PySem.W.Fast.tw16874279241252268517:Nat:=0
def PySem.W.Fast.tw7958530445131681790:Nat:=0
def PySem.W.Fast.tw4559596482147827023:Nat:=0
def PySem.W.Fast.tw13560863265666201417:Nat:=0
def PySem.W.Fast.tw17205074051588534705:Nat:=0
def PySem.W.Fast.tw1942583950740868506:Nat:=0
def PySem.W.Fast.tw8727051359497208438:Nat:=0
def PySem.W.Fast.tw13512536652207436206:Nat:=0
def PySem.W.Fast.tw14188678571500824777:Nat:=0
def PySem.W.Fast.tw4770594480500120063:Nat:=0
def PySem.W.Fast.tw1453759789201255477:Nat:=0
def PySem.W.Fast.tw175622031031846353:Nat:=0
def PySem.W.Fast.tw1872520640715927894:Nat:=0
def PySem.W.Fast.tw6238404340619595529:Nat:=0
def PySem.W.Fast.tw15618814970529227979:Nat:=0
def PySem.W.Fast.tw2368328798628498661:Nat:=0
def PySem.W.Fast.tw264359669441801406:Nat:=0
def PySem.W.Fast.tw11269920030624879327:Nat:=0
def PySem.W.Fast.tw10427650499401114960:Nat:=0
def PySem.W.Fast.tw10152321839301692113:Nat:=0
def PySem.W.Fast.tw2461193939778656957:Nat:=0
def PySem.W.Fast.tw1913850730731790953:Nat:=0
def PySem.W.Fast.tw4814546342110984100:Nat:=0
def PySem.W.Fast.tw17868342506207505648:Nat:=0
def PySem.W.Fast.tw6764825300688028303:Nat:=0
def PySem.W.Fast.tw15860409598173510099:Nat:=0
def PySem.W.Fast.tw10304767881956756914:Nat:=0
def PySem.W.Fast.tw18225424527405453230:Nat:=0
def PySem.W.Fast.tw763140484201542291:Nat:=0
def PySem.W.Fast.tw4750467378429914191:Nat:=0
def PySem.W.Fast.tw14762367257654945103:Nat:=0
def PySem.W.Fast.tw4770905371141484542:Nat:=0
def PySem.W.Fast.tw4908483190552654059:Nat:=0
def PySem.W.Fast.tw10021596826746736396:Nat:=0
def PySem.W.Fast.tw8166903307474754028:Nat:=0
def PySem.W.Fast.tw17490407220539593168:Nat:=0
def PySem.W.Fast.tw8588153515567828799:Nat:=0
def PySem.W.Fast.tw17502551448728268940:Nat:=0
def PySem.W.Fast.tw16380030222465446015:Nat:=0
def PySem.W.Fast.tw16820312705173718096:Nat:=0
def PySem.W.Fast.tw2388332962738190437:Nat:=0
def PySem.W.Fast.tw17414767376903333858:Nat:=0
def PySem.W.Fast.tw14719891435265506153:Nat:=0
def PySem.W.Fast.tw15910645183175584009:Nat:=0
def PySem.W.Fast.tw12262579753545123070:Nat:=0
def PySem.W.Fast.tw6045207975518210127:Nat:=0
def PySem.W.Fast.tw8995917387782850519:Nat:=0
def PySem.W.Fast.tw9020655502788421001:Nat:=0
def PySem.W.Fast.tw10391527670140424223:Nat:=0
def PySem.W.Fast.tw11036582800023081888:Nat:=0
def PySem.W.Fast.tw2611068912125969945:Nat:=0
def PySem.W.Fast.tw7205456264907485305:Nat:=0
def PySem.W.Fast.tw5601357039692591335:Nat:=0
def PySem.W.Fast.tw15911569114560136836:Nat:=0
def PySem.W.Fast.tw10572424806475233092:Nat:=0
def PySem.W.Fast.tw4981283322156334935:Nat:=0
def PySem.W.Fast.tw17836424517381513209:Nat:=0
def PySem.W.Fast.tw9241280370495497471:Nat:=0
def PySem.W.Fast.tw17011874635405326384:Nat:=0
def PySem.W.Fast.tw17857341671235074380:Nat:=0
def PySem.W.Fast.tw8295321454475865659:Nat:=0
def PySem.W.Fast.tw9194382571966133285:Nat:=0
def PySem.W.Fast.tw9123999000637242160:Nat:=0
def PySem.W.Fast.tw9250635506658827122:Nat:=0
def PySem.W.Fast.tw8191171846949439768:Nat:=0
def PySem.W.Fast.tw35061520382114047:Nat:=0
def PySem.W.Fast.tw16487075183140651852:Nat:=0
def PySem.W.Fast.tw2943771704214398977:Nat:=0
def PySem.W.Fast.tw17419864449257944282:Nat:=0
def PySem.W.Fast.tw10583846948248910497:Nat:=0
def PySem.W.Fast.tw9129134254886752022:Nat:=0
def PySem.W.Fast.tw7316799925685733471:Nat:=0
def PySem.W.Fast.tw9669377761539477460:Nat:=0
def PySem.W.Fast.tw14232691205183296736:Nat:=0
def PySem.W.Fast.tw2172510198974271123:Nat:=0
def PySem.W.Fast.tw3529228115119343977:Nat:=0
def PySem.W.Fast.tw16421455869728201421:Nat:=0
def PySem.W.Fast.tw7906317694714224992:Nat:=0
def PySem.W.Fast.tw11571409736334158660:Nat:=0
def PySem.W.Fast.tw15545557640455591371:Nat:=0
def PySem.W.Fast.tw7897861566727009029:Nat:=0
def PySem.W.Fast.tw13110456606969304970:Nat:=0
def PySem.W.Fast.tw9534540930815741225:Nat:=0
def PySem.W.Fast.tw8137745087339552959:Nat:=0
def PySem.W.Fast.tw206528959882035456:Nat:=0
def PySem.W.Fast.tw14427417327313228253:Nat:=0
def PySem.W.Fast.tw6881319756018545267:Nat:=0
def PySem.W.Fast.tw4316030159773287631:Nat:=0
def PySem.W.Fast.tw14741392184576197011:Nat:=0
def PySem.W.Fast.tw13238596145808209077:Nat:=0
def PySem.W.Fast.tw13088841769866196250:Nat:=0
def PySem.W.Fast.tw4412256408018953040:Nat:=0
def PySem.W.Fast.tw1417442898856282409:Nat:=0
def PySem.W.Fast.tw15855415612661559482:Nat:=0
def PySem.W.Fast.tw5527888038328608343:Nat:=0
def PySem.W.Fast.tw3254198013221177256:Nat:=0
def PySem.W.Fast.tw16482613749578536887:Nat:=0
def PySem.W.Fast.tw17183065568491536128:Nat:=0
def PySem.W.Fast.tw15201595814883268415:Nat:=0
def PySem.W.Fast.tw7380066604631265573:Nat:=0
def PySem.W.Fast.tw15322733280324698615:Nat:=0
def PySem.W.Fast.tw11136136943219645558:Nat:=0
def PySem.W.Fast.tw5768642814985754978:Nat:=0
def PySem.W.Fast.tw12266231988268336505:Nat:=0
def PySem.W.Fast.tw2573332843727943033:Nat:=0
def PySem.W.Fast.tw14628393998949840179:Nat:=0
def PySem.W.Fast.tw9572218102533740238:Nat:=0
def PySem.W.Fast.tw4697276626429315358:Nat:=0
def PySem.W.Fast.tw11507833746460640327:Nat:=0
def PySem.W.Fast.tw17510812473187254121:Nat:=0
def PySem.W.Fast.tw6981993619524593134:Nat:=0
def PySem.W.Fast.tw6597138155880312639:Nat:=0
def PySem.W.Fast.tw7563003031687929252:Nat:=0
def PySem.W.Fast.tw16999903197618532494:Nat:=0
def PySem.W.Fast.tw13348554159668100415:Nat:=0
def PySem.W.Fast.tw15823894855888834290:Nat:=0
def PySem.W.Fast.tw10101691190640212109:Nat:=0
def PySem.W.Fast.tw7064148515719229672:Nat:=0
def PySem.W.Fast.tw9456570573250163329:Nat:=0
def PySem.W.Fast.tw9143730077049963337:Nat:=0
def PySem.W.Fast.tw2610370961754927180:Nat:=0
def PySem.W.Fast.tw1381175745698667457:Nat:=0
def PySem.W.Fast.tw15925793509955027281:Nat:=0
def PySem.W.Fast.tw14886696291314723862:Nat:=0
def PySem.W.Fast.tw5890074558949462046:Nat:=0
def PySem.W.Fast.tw12453240950894029520:Nat:=0
def PySem.W.Fast.tw13297547247369973072:Nat:=0
def PySem.W.Fast.tw12266080074632096384:Nat:=0
def PySem.W.Fast.tw15669078576971270519:Nat:=0
def PySem.W.Fast.tw15137967668340374755:Nat:=0
def PySem.W.Fast.tw16096418415920257513:Nat:=0
def PySem.W.Fast.tw17722902338747595150:Nat:=0
def PySem.W.Fast.tw2015650601826249009:Nat:=0
def PySem.W.Fast.tw6402626367094078253:Nat:=0
def PySem.W.Fast.tw247436417872535463:Nat:=0
def PySem.W.Fast.tw17667243242378393429:Nat:=0
def PySem.W.Fast.tw17258122215734448624:Nat:=0
def PySem.W.Fast.tw4224710717626683998:Nat:=0
def PySem.W.Fast.tw3093147238113990603:Nat:=0
def PySem.W.Fast.tw14544813562071671521:Nat:=0
def PySem.W.Fast.tw3061684971386666069:Nat:=0
def PySem.W.Fast.tw232889242240872623:Nat:=0
def PySem.W.Fast.tw17986915559060626703:Nat:=0
def PySem.W.Fast.tw5689944779521970293:Nat:=0
def PySem.W.Fast.tw17056761890439257307:Nat:=0
def PySem.W.Fast.tw1552905115000258392:Nat:=0
def PySem.W.Fast.tw10811352400381978315:Nat:=0
def PySem.W.Fast.tw6467102891217403103:Nat:=0
def PySem.W.Fast.tw1375359943170168784:Nat:=0
def PySem.W.Fast.tw1138423890705513435:Nat:=0
def PySem.W.Fast.tw12923327966497180434:Nat:=0
def PySem.W.Fast.tw3652682861091215252:Nat:=0
def PySem.W.Fast.tw11719904623121338088:Nat:=0
def PySem.W.Fast.tw7208307544090227635:Nat:=0
def PySem.W.Fast.tw9315203236497890827:Nat:=0
def PySem.W.Fast.tw420321904902269841:Nat:=0
def PySem.W.Fast.tw14597150542257014926:Nat:=0
def PySem.W.Fast.tw7292735820765849971:Nat:=0
def PySem.W.Fast.tw7702309613300730827:Nat:=0
def PySem.W.Fast.tw13963486722389718519:Nat:=0
def PySem.W.Fast.tw18057793559834793616:Nat:=0
def PySem.W.Fast.tw753191557902487727:Nat:=0
def PySem.W.Fast.tw11766718295968798165:Nat:=0
def PySem.W.Fast.tw17176953235206422704:Nat:=0
def PySem.W.Fast.tw5079285814299716789:Nat:=0
def PySem.W.Fast.tw6626791279505373614:Nat:=0
def PySem.W.Fast.tw17345590582158715759:Nat:=0
def PySem.W.Fast.tw12089531581833307191:Nat:=0
def PySem.W.Fast.tw4984290913886046694:Nat:=0
def PySem.W.Fast.tw15613638884759014648:Nat:=0
def PySem.W.Fast.tw18365893053114949064:Nat:=0
def PySem.W.Fast.tw17793629611917389679:Nat:=0
def PySem.W.Fast.tw5132305495965276521:Nat:=0
def PySem.W.Fast.tw3875684951693464772:Nat:=0
def PySem.W.Fast.tw14198775841310428170:Nat:=0
def PySem.W.Fast.tw12566475564293762291:Nat:=0
open PySem PySem.W PyProof.Rows
set_option maxRecDepth 100000 in
set_option maxHeartbeats 0 in
theorem PySem.Challenge.cw_netcourt_k92_books_refuse_holds : PySem.Challenge.rw_netcourt_k92_books_refuse.Holds := by
 w_on;o_law;k_head;(case hw=>w_witness2)
 k_fill
 first|refine Net.AU (l:=PySem.Challenge.rw_netcourt_k92_books_refuse) rfl rfl (λw h Y=>PySem.W.kIn_of Y) ?F|refine Net.AU (l:=PySem.Challenge.rw_netcourt_k92_books_refuse) rfl rfl (λw h Y=>PySem.W.km_in_of Y) ?F
 case F=>
  intro w mg fa h KX G hmg;refine' Net.Ay KX G hmg ?aC ?aB ?a0 ?l0 ?c0 ?k0 ?a1 ?l1 ?c1 ?k1 ?a2 ?l2 ?c2 ?k2 ?a3 ?l3 ?c3 ?k3 ?a4 ?l4 ?c4 ?k4 ?a5 ?l5 ?c5 ?k5 ?a6 ?l6 ?c6 ?k6 ?a7 ?l7 ?c7 ?k7 ?a8 ?l8 ?c8 ?k8 ?a9 ?l9 ?c9 ?k9 ?a10 ?l10 ?c10 ?k10 ?a11 ?l11 ?c11 ?k11 ?a12 ?l12 ?c12 ?k12 ?a13 ?l13 ?c13 ?k13 ?a14 ?l14 ?c14 ?k14 ?a15 ?l15 ?c15 ?k15 ?a16 ?l16 ?c16 ?k16 ?a17 ?l17 ?c17 ?k17 ?a18 ?l18 ?c18 ?k18 ?a19 ?l19 ?c19 ?k19 ?a20 ?l20 ?c20 ?k20 ?a21 ?l21 ?c21 ?k21 ?a22 ?l22 ?c22 ?k22 ?a23 ?l23 ?c23 ?k23 ?a24 ?l24 ?c24 ?k24 ?a25 ?l25 ?c25 ?k25 ?a26 ?l26 ?c26 ?k26 ?a27 ?l27 ?c27 ?k27 ?a28 ?l28 ?c28 ?k28 ?a29 ?l29 ?c29 ?k29 ?a30 ?l30 ?c30 ?k30 ?a31 ?l31 ?c31 ?k31 ?a32 ?l32 ?c32 ?k32 ?a33 ?l33 ?c33 ?k33 ?a34 ?l34 ?c34 ?k34 ?a35 ?l35 ?c35 ?k35 ?a36 ?i36 ?l36 ?c36 ?k36 ?a37 ?i37 ?l37 ?c37 ?k37 ?a38 ?i38 ?l38 ?c38 ?k38 ?a39 ?i39 ?l39 ?c39 ?k39 ?a40 ?i40 ?l40 ?c40 ?k40 ?a41 ?i41 ?l41 ?c41 ?k41 ?a42 ?i42 ?l42 ?c42 ?k42 ?a43 ?i43 ?l43 ?c43 ?k43 ?a44 ?i44 ?l44 ?c44 ?k44 ?a45 ?i45 ?l45 ?c45 ?k45 ?a46 ?i46 ?l46 ?c46 ?k46 ?a47 ?i47 ?l47 ?c47 ?k47 ?a48 ?i48 ?l48 ?c48 ?k48 ?a49 ?i49 ?l49 ?c49 ?k49 ?a50 ?i50 ?l50 ?c50 ?k50 ?a51 ?i51 ?l51 ?c51 ?k51 ?a52 ?i52 ?l52 ?c52 ?k52 ?a53 ?i53 ?l53 ?c53 ?k53 ?a54 ?i54 ?l54 ?c54 ?k54 ?a55 ?i55 ?l55 ?c55 ?k55 ?a56 ?i56 ?l56 ?c56 ?k56 ?a57 ?i57 ?l57 ?c57 ?k57 ?a58 ?i58 ?l58 ?c58 ?k58 ?aL ?lL ?cL ?kL ?pg ?hd ?po ?sa ?mk ?kc ?nS ?nL ?pgB ?hdB ?poB ?saB ?mkB ?kcB ?nSB ?nLB ?z_all ?z_isinstance ?z_str ?z_int ?z_bool ?z_list ?z_tuple ?z_len ?z_range ?z_abs ?z_dict ?z_sum ?z_set ?z_reversed ?m0 ?m1 ?m2 ?m3 ?m4 ?m5 ?m6 ?m7 ?md0 ?md1 ?mcc ?mve ?hn0 ?tk0 ?x0 ?xm0 ?kv0 ?k0_0 ?k0_1 ?k0_2 ?k0_3 ?k0_4 ?k0_5 ?k0_6 ?k0_7 ?kd0_0 ?kd0_1 ?ga0 ?gt0 ?cl0 ?mo0 ?mb0 ?x1 ?xm1 ?kv1 ?k1_0 ?k1_1 ?k1_2 ?k1_3 ?k1_4 ?k1_5 ?k1_6 ?k1_7 ?kd1_0 ?kd1_1 ?ga1 ?gt1 ?cl1 ?mo1 ?mb1 ?x2 ?xm2 ?kv2 ?k2_0 ?k2_1 ?k2_2 ?k2_3 ?k2_4 ?k2_5 ?k2_6 ?k2_7 ?kd2_0 ?kd2_1 ?ga2 ?gt2 ?cl2 ?mo2 ?mb2 ?x3 ?xm3 ?kv3 ?k3_0 ?k3_1 ?k3_2 ?k3_3 ?k3_4 ?k3_5 ?k3_6 ?k3_7 ?kd3_0 ?kd3_1 ?ga3 ?gt3 ?cl3 ?mo3 ?mb3 ?x4 ?xm4 ?kv4 ?k4_0 ?k4_1 ?k4_2 ?k4_3 ?k4_4 ?k4_5 ?k4_6 ?k4_7 ?kd4_0 ?kd4_1 ?ga4 ?gt4 ?cl4 ?mo4 ?mb4 ?x5 ?xm5 ?kv5 ?k5_0 ?k5_1 ?k5_2 ?k5_3 ?k5_4 ?k5_5 ?k5_6 ?k5_7 ?kd5_0 ?kd5_1 ?ga5 ?gt5 ?cl5 ?mo5 ?mb5 ?x6 ?xm6 ?kv6 ?k6_0 ?k6_1 ?k6_2 ?k6_3 ?k6_4 ?k6_5 ?k6_6 ?k6_7 ?kd6_0 ?kd6_1 ?ga6 ?gt6 ?cl6 ?mo6 ?mb6 ?xm7 ?kv7 ?k7_0 ?k7_1 ?k7_2 ?k7_3 ?k7_4 ?k7_5 ?k7_6 ?k7_7 ?kd7_0 ?kd7_1 ?ga7 ?gt7 ?cl7 ?mo7 ?mb7 ?ini ?xi ?fnI ?lI ?cI ?kI ?bga ?brd ?bfc ?bhi ?xo ?xs ?xn ?xh ?gS ?rS ?gN ?rN ?gP ?rP ?gM ?rM
  (case aC=>k_is)
  (case aB=>k_is)
  (case a0=>k_is)
  (case l0=>k_is)
  (case c0=>k_is)
  (case k0=>k_is)
  (case a1=>k_is)
  (case l1=>k_is)
  (case c1=>k_is)
  (case k1=>k_is)
  (case a2=>k_is)
  (case l2=>k_is)
  (case c2=>k_is)
  (case k2=>k_is)
  (case a3=>k_is)
  (case l3=>k_is)
  (case c3=>k_is)
  (case k3=>k_is)
  (case a4=>k_is)
  (case l4=>k_is)
  (case c4=>k_is)
  (case k4=>k_is)
  (case a5=>k_is)
  (case l5=>k_is)
  (case c5=>k_is)
  (case k5=>k_is)
  (case a6=>k_is)
  (case l6=>k_is)
  (case c6=>k_is)
  (case k6=>k_is)
  (case a7=>k_is)
  (case l7=>k_is)
  (case c7=>k_is)
  (case k7=>k_is)
  (case a8=>k_is)
  (case l8=>k_is)
  (case c8=>k_is)
  (case k8=>k_is)
  (case a9=>k_is)
  (case l9=>k_is)
  (case c9=>k_is)
  (case k9=>k_is)
  (case a10=>k_is)
  (case l10=>k_is)
  (case c10=>k_is)
  (case k10=>k_is)
  (case a11=>k_is)
  (case l11=>k_is)
  (case c11=>k_is)
  (case k11=>k_is)
  (case a12=>k_is)
  (case l12=>k_is)
  (case c12=>k_is)
  (case k12=>k_is)
  (case a13=>k_is)
  (case l13=>k_is)
  (case c13=>k_is)
  (case k13=>k_is)
  (case a14=>k_is)
  (case l14=>k_is)
  (case c14=>k_is)
  (case k14=>k_is)
  (case a15=>k_is)
  (case l15=>k_is)
  (case c15=>k_is)
  (case k15=>k_is)
  (case a16=>k_is)
  (case l16=>k_is)
  (case c16=>k_is)
  (case k16=>k_is)
  (case a17=>k_is)
  (case l17=>k_is)
  (case c17=>k_is)
  (case k17=>k_is)
  (case a18=>k_is)
  (case l18=>k_is)
  (case c18=>k_is)
  (case k18=>k_is)
  (case a19=>k_is)
  (case l19=>k_is)
  (case c19=>k_is)
  (case k19=>k_is)
  (case a20=>k_is)
  (case l20=>k_is)
  (case c20=>k_is)
  (case k20=>k_is)
  (case a21=>k_is)
  (case l21=>k_is)
  (case c21=>k_is)
  (case k21=>k_is)
  (case a22=>k_is)
  (case l22=>k_is)
  (case c22=>k_is)
  (case k22=>k_is)
  (case a23=>k_is)
  (case l23=>k_is)
  (case c23=>k_is)
  (case k23=>k_is)
  (case a24=>k_is)
  (case l24=>k_is)
  (case c24=>k_is)
  (case k24=>k_is)
  (case a25=>k_is)
  (case l25=>k_is)
  (case c25=>k_is)
  (case k25=>k_is)
  (case a26=>k_is)
  (case l26=>k_is)
  (case c26=>k_is)
  (case k26=>k_is)
  (case a27=>k_is)
  (case l27=>k_is)
  (case c27=>k_is)
  (case k27=>k_is)
  (case a28=>k_is)
  (case l28=>k_is)
  (case c28=>k_is)
  (case k28=>k_is)
  (case a29=>k_is)
  (case l29=>k_is)
  (case c29=>k_is)
  (case k29=>k_is)
  (case a30=>k_is)
  (case l30=>k_is)
  (case c30=>k_is)
  (case k30=>k_is)
  (case a31=>k_is)
  (case l31=>k_is)
  (case c31=>k_is)
  (case k31=>k_is)
  (case a32=>k_is)
  (case l32=>k_is)
  (case c32=>k_is)
  (case k32=>k_is)
  (case a33=>k_is)
  (case l33=>k_is)
  (case c33=>k_is)
  (case k33=>k_is)
  (case a34=>k_is)
  (case l34=>k_is)
  (case c34=>k_is)
  (case k34=>k_is)
  (case a35=>k_is)
  (case l35=>k_is)
  (case c35=>k_is)
  (case k35=>k_is)
  (case a36=>k_is)
  (case i36=>k_is)
  (case l36=>k_is)
  (case c36=>k_is)
  (case k36=>k_is)
  (case a37=>k_is)
  (case i37=>k_is)
  (case l37=>k_is)
  (case c37=>k_is)
  (case k37=>k_is)
  (case a38=>k_is)
  (case i38=>k_is)
  (case l38=>k_is)
  (case c38=>k_is)
  (case k38=>k_is)
  (case a39=>k_is)
  (case i39=>k_is)
  (case l39=>k_is)
  (case c39=>k_is)
  (case k39=>k_is)
  (case a40=>k_is)
  (case i40=>k_is)
  (case l40=>k_is)
  (case c40=>k_is)
  (case k40=>k_is)
  (case a41=>k_is)
  (case i41=>k_is)
  (case l41=>k_is)
  (case c41=>k_is)
  (case k41=>k_is)
  (case a42=>k_is)
  (case i42=>k_is)
  (case l42=>k_is)
  (case c42=>k_is)
  (case k42=>k_is)
  (case a43=>k_is)
  (case i43=>k_is)
  (case l43=>k_is)
  (case c43=>k_is)
  (case k43=>k_is)
  (case a44=>k_is)
  (case i44=>k_is)
  (case l44=>k_is)
  (case c44=>k_is)
  (case k44=>k_is)
  (case a45=>k_is)
  (case i45=>k_is)
  (case l45=>k_is)
  (case c45=>k_is)
  (case k45=>k_is)
  (case a46=>k_is)
  (case i46=>k_is)
  (case l46=>k_is)
  (case c46=>k_is)
  (case k46=>k_is)
  (case a47=>k_is)
  (case i47=>k_is)
  (case l47=>k_is)
  (case c47=>k_is)
  (case k47=>k_is)
  (case a48=>k_is)
  (case i48=>k_is)
  (case l48=>k_is)
  (case c48=>k_is)
  (case k48=>k_is)
  (case a49=>k_is)
  (case i49=>k_is)
  (case l49=>k_is)
  (case c49=>k_is)
  (case k49=>k_is)
  (case a50=>k_is)
  (case i50=>k_is)
  (case l50=>k_is)
  (case c50=>k_is)
  (case k50=>k_is)
  (case a51=>k_is)
  (case i51=>k_is)
  (case l51=>k_is)
  (case c51=>k_is)
  (case k51=>k_is)
  (case a52=>k_is)
  (case i52=>k_is)
  (case l52=>k_is)
  (case c52=>k_is)
  (case k52=>k_is)
  (case a53=>k_is)
  (case i53=>k_is)
  (case l53=>k_is)
  (case c53=>k_is)
  (case k53=>k_is)
  (case a54=>k_is)
  (case i54=>k_is)
  (case l54=>k_is)
  (case c54=>k_is)
  (case k54=>k_is)
  (case a55=>k_is)
  (case i55=>k_is)
  (case l55=>k_is)
  (case c55=>k_is)
  (case k55=>k_is)
  (case a56=>k_is)
  (case i56=>k_is)
  (case l56=>k_is)
  (case c56=>k_is)
  (case k56=>k_is)
  (case a57=>k_is)
  (case i57=>k_is)
  (case l57=>k_is)
  (case c57=>k_is)
  (case k57=>k_is)
  (case a58=>k_is)
  (case i58=>k_is)
  (case l58=>k_is)
  (case c58=>k_is)
  (case k58=>k_is)
  (case aL=>k_is)
  (case lL=>k_is)
  (case cL=>k_is)
  (case kL=>k_is)
  (case pg=>k_is)
  (case hd=>k_is)
  (case po=>k_is)
  (case sa=>k_is)
  (case mk=>k_is)
  (case kc=>k_is)
  (case nS=>k_is)
  (case nL=>k_is)
  (case pgB=>k_is)
  (case hdB=>k_is)
  (case poB=>k_is)
  (case saB=>k_is)
  (case mkB=>k_is)
  (case kcB=>k_is)
  (case nSB=>k_is)
  (case nLB=>k_is)
  (case z_all=>k_is)
  (case z_isinstance=>k_is)
  (case z_str=>k_is)
  (case z_int=>k_is)
  (case z_bool=>k_is)
  (case z_list=>k_is)
  (case z_tuple=>k_is)
  (case z_len=>k_is)
  (case z_range=>k_is)
  (case z_abs=>k_is)
  (case z_dict=>k_is)
  (case z_sum=>k_is)
  (case z_set=>k_is)
  (case z_reversed=>k_is)
  (case m0=>k_is)
  (case m1=>k_is)
  (case m2=>k_is)
  (case m3=>k_is)
  (case m4=>k_is)
  (case m5=>k_is)
  (case m6=>k_is)
  (case m7=>k_is)
  (case md0=>k_is)
  (case md1=>k_is)
  (case mcc=>k_is)
  (case mve=>k_is)
  (case hn0=>k_is)
  (case tk0=>k_is)
  (case x0=>k_exc)
  (case xm0=>kts_exm)
  (case kv0=>kit_is)
  (case k0_0=>kit_is)
  (case k0_1=>kit_is)
  (case k0_2=>kit_is)
  (case k0_3=>kit_is)
  (case k0_4=>kit_is)
  (case k0_5=>kit_is)
  (case k0_6=>kit_is)
  (case k0_7=>kit_is)
  (case kd0_0=>kit_is)
  (case kd0_1=>kit_is)
  (case ga0=>k_is)
  (case gt0=>k_is)
  (case cl0=>k_is)
  (case mo0=>k_is)
  (case mb0=>k_is)
  (case x1=>k_exc)
  (case xm1=>kts_exm)
  (case kv1=>kit_is)
  (case k1_0=>kit_is)
  (case k1_1=>kit_is)
  (case k1_2=>kit_is)
  (case k1_3=>kit_is)
  (case k1_4=>kit_is)
  (case k1_5=>kit_is)
  (case k1_6=>kit_is)
  (case k1_7=>kit_is)
  (case kd1_0=>kit_is)
  (case kd1_1=>kit_is)
  (case ga1=>k_is)
  (case gt1=>k_is)
  (case cl1=>k_is)
  (case mo1=>k_is)
  (case mb1=>k_is)
  (case x2=>k_exc)
  (case xm2=>kts_exm)
  (case kv2=>kit_is)
  (case k2_0=>kit_is)
  (case k2_1=>kit_is)
  (case k2_2=>kit_is)
  (case k2_3=>kit_is)
  (case k2_4=>kit_is)
  (case k2_5=>kit_is)
  (case k2_6=>kit_is)
  (case k2_7=>kit_is)
  (case kd2_0=>kit_is)
  (case kd2_1=>kit_is)
  (case ga2=>k_is)
  (case gt2=>k_is)
  (case cl2=>k_is)
  (case mo2=>k_is)
  (case mb2=>k_is)
  (case x3=>k_exc)
  (case xm3=>kts_exm)
  (case kv3=>kit_is)
  (case k3_0=>kit_is)
  (case k3_1=>kit_is)
  (case k3_2=>kit_is)
  (case k3_3=>kit_is)
  (case k3_4=>kit_is)
  (case k3_5=>kit_is)
  (case k3_6=>kit_is)
  (case k3_7=>kit_is)
  (case kd3_0=>kit_is)
  (case kd3_1=>kit_is)
  (case ga3=>k_is)
  (case gt3=>k_is)
  (case cl3=>k_is)
  (case mo3=>k_is)
  (case mb3=>k_is)
  (case x4=>k_exc)
  (case xm4=>kts_exm)
  (case kv4=>kit_is)
  (case k4_0=>kit_is)
  (case k4_1=>kit_is)
  (case k4_2=>kit_is)
  (case k4_3=>kit_is)
  (case k4_4=>kit_is)
  (case k4_5=>kit_is)
  (case k4_6=>kit_is)
  (case k4_7=>kit_is)
  (case kd4_0=>kit_is)
  (case kd4_1=>kit_is)
  (case ga4=>k_is)
  (case gt4=>k_is)
  (case cl4=>k_is)
  (case mo4=>k_is)
  (case mb4=>k_is)
  (case x5=>k_exc)
  (case xm5=>kts_exm)
  (case kv5=>kit_is)
  (case k5_0=>kit_is)
  (case k5_1=>kit_is)
  (case k5_2=>kit_is)
  (case k5_3=>kit_is)
  (case k5_4=>kit_is)
  (case k5_5=>kit_is)
  (case k5_6=>kit_is)
  (case k5_7=>kit_is)
  (case kd5_0=>kit_is)
  (case kd5_1=>kit_is)
  (case ga5=>k_is)
  (case gt5=>k_is)
  (case cl5=>k_is)
  (case mo5=>k_is)
  (case mb5=>k_is)
  (case x6=>k_exc)
  (case xm6=>kts_exm)
  (case kv6=>kit_is)
  (case k6_0=>kit_is)
  (case k6_1=>kit_is)
  (case k6_2=>kit_is)
  (case k6_3=>kit_is)
  (case k6_4=>kit_is)
  (case k6_5=>kit_is)
  (case k6_6=>kit_is)
  (case k6_7=>kit_is)
  (case kd6_0=>kit_is)
  (case kd6_1=>kit_is)
  (case ga6=>k_is)
  (case gt6=>k_is)
  (case cl6=>k_is)
  (case mo6=>k_is)
  (case mb6=>k_is)
  (case xm7=>kts_exm)
  (case kv7=>kit_is)
  (case k7_0=>kit_is)
  (case k7_1=>kit_is)
  (case k7_2=>kit_is)
  (case k7_3=>kit_is)
  (case k7_4=>kit_is)
  (case k7_5=>kit_is)
  (case k7_6=>kit_is)
  (case k7_7=>kit_is)
  (case kd7_0=>kit_is)
  (case kd7_1=>kit_is)
  (case ga7=>k_is)
  (case gt7=>k_is)
  (case cl7=>k_is)
  (case mo7=>k_is)
  (case mb7=>k_is)
  (case ini=>k_is)
  (case xi=>first|kernel_rfl!|kernel_rfl)
  (case fnI=>k_is)
  (case lI=>k_is)
  (case cI=>k_is)
  (case kI=>k_is)
  (case bga=>k_is)
  (case brd=>k_is)
  (case bfc=>k_is)
  (case bhi=>first|rfl|decide+kernel)
  (case xo=>first|kernel_rfl!|kernel_rfl)
  (case xs=>k_is)
  (case xn=>k_is)
  (case xh=>k_is)
  (case gS=>k_is)
  (case rS=>exact⟨_,rfl⟩)
  (case gN=>k_is)
  (case rN=>exact⟨_,rfl⟩)
  (case gP=>k_is)
  (case rP=>exact⟨_,rfl⟩)
  (case gM=>k_is)
  (case rM=>exact⟨_,rfl⟩)
