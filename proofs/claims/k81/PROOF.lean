import PyProof.Rows.All
import Wide.All
import OpenK.AllK
import Wide.FinOn
import Lean
import PyProof.EqAt
import PyProof.EqKinds
import PyProof.TupleCall
import PySem.Challenge.RW_netcourt_k81_claims_as_texts
set_option Elab.async false
set_option linter.all false
set_option maxRecDepth 100000
namespace L2
open PySem PySem.Spec PyProof.Rows
abbrev Key:=Sum Int Str
def keyIs:Key→Value→Bool
 | .inl k,v=>Value.isInt k v
 | .inr x,v=>Value.isStrOf x v
def keyH (w:World):Key→Int
 | .inl k=>hashInt k
 | .inr x=>hashStr w x
theorem keyIs_shape:∀ {k:Key} {v:Value},keyIs k v=true→(∃ i t,k=Sum.inl i∧v=Value.int i t) ∨ (∃ x t,k=Sum.inr x∧v=Value.str x t)
 | .inl i,v,h=>by
  obtain ⟨t,e⟩:=Value.isInt_shape (k:=i) (v:=v) h
  exact .inl ⟨i,t,rfl,e⟩
 | .inr x,v,h=>by
  obtain ⟨t,e⟩:=Value.isStrOf_shape (x:=x) (v:=v) h
  exact .inr ⟨x,t,rfl,e⟩
theorem keyIs_int (i:Int) (t:Tok):keyIs (.inl i) (.int i t)=true:=by simp [keyIs,Value.isInt]
theorem keyIs_str (x:Str) (t:Tok):keyIs (.inr x) (.str x t)=true:=by simp [keyIs,Value.isStrOf]
theorem key_ll (a b:Int):decide ((Sum.inl a:Key)=Sum.inl b)=(a == b):=by
 by_cases e:a=b
 ·subst e; simp
 ·have h:¬ (Sum.inl a:Key)=Sum.inl b:=fun q=>e (Sum.inl.inj q)
  rw [decide_eq_false h]
  exact (beq_eq_false_iff_ne.mpr e).symm
theorem key_rr (a b:Str):decide ((Sum.inr a:Key)=Sum.inr b)=decide (a=b):=by
 by_cases e:a=b
 ·subst e; simp
 ·have h:¬ (Sum.inr a:Key)=Sum.inr b:=fun q=>e (Sum.inr.inj q)
  rw [decide_eq_false h,decide_eq_false e]
theorem key_lr (a:Int) (b:Str):decide ((Sum.inl a:Key)=Sum.inr b)=false:=decide_eq_false (fun q=>nomatch q)
theorem key_rl (a:Str) (b:Int):decide ((Sum.inr a:Key)=Sum.inl b)=false:=decide_eq_false (fun q=>nomatch q)
def mixKind (prog:Program) (w:World):PySem.KeyKind prog w Key where
 is:=keyIs
 hash:=keyH w
 inj:=fun v a b ha hb=>by
  rcases keyIs_shape ha with ⟨i,t,rfl,rfl⟩ | ⟨x,t,rfl,rfl⟩
  ·rcases keyIs_shape hb with ⟨j,u,rfl,e⟩ | ⟨y,u,rfl,e⟩
   ·injection e with e1 _; rw [e1]
   ·exact nomatch e
  ·rcases keyIs_shape hb with ⟨j,u,rfl,e⟩ | ⟨y,u,rfl,e⟩
   ·exact nomatch e
   ·injection e with e1 _; rw [e1]
 byValue:=fun k v h=>by
  rcases keyIs_shape h with ⟨i,t,rfl,rfl⟩ | ⟨x,t,rfl,rfl⟩ <;> rfl
 pyHash:=fun hv h=>by
  rcases keyIs_shape hv with ⟨i,t,rfl,rfl⟩ | ⟨x,t,rfl,rfl⟩
  ·exact wpAny_pyHash_int h
  ·exact wpAny_pyHash_str h
 eqBool:=fun hu hv h=>by
  rcases keyIs_shape hu with ⟨i,t,rfl,rfl⟩ | ⟨x,t,rfl,rfl⟩
  ·rcases keyIs_shape hv with ⟨j,u,rfl,rfl⟩ | ⟨y,u,rfl,rfl⟩
   ·rw [key_ll] at h; exact wpAny_eqBool_int h
   ·rw [key_lr] at h; exact SeqAt.EqAt.int_str i t y u _ _ _ _ h
  ·rcases keyIs_shape hv with ⟨j,u,rfl,rfl⟩ | ⟨y,u,rfl,rfl⟩
   ·rw [key_rl] at h; exact SeqAt.EqAt.str_int x t j u _ _ _ _ h
   ·rw [key_rr] at h; exact wpAny_eqBool_str h
 «strs»:=fun k x t v h=>by
  rcases keyIs_shape h with ⟨i,u,rfl,e⟩ | ⟨y,u,rfl,e⟩
  ·exact nomatch e
  ·injection e with e1 _
   subst e1
   cases v <;> rfl
theorem mixKind_int (prog:Program) (w:World) (i:Int) (t:Tok):(mixKind prog w).is (.inl i) (.int i t)=true:=keyIs_int i t
theorem mixKind_str (prog:Program) (w:World) (x:Str) (t:Tok):(mixKind prog w).is (.inr x) (.str x t)=true:=keyIs_str x t
end L2
namespace L2
open PySem PySem.Spec PyProof.Rows
inductive V where
 | non | bl (b:Bool) | int (i:Int) | str (x:Str) | byt (b:Array UInt8) | flt (b:UInt64) | ref (a:Addr) | ty (n:String)
 deriving DecidableEq
def RelV:V→Value→Prop
 | .non,u=>u=Value.none
 | .bl b,u=>u=Value.bool b
 | .int i,u=>∃ t,u=Value.int i t
 | .str x,u=>∃ t,u=Value.str x t
 | .byt b,u=>∃ t,u=Value.bytes b t
 | .flt b,u=>∃ t,u=Value.float b t
 | .ref a,u=>u=Value.ref a
 | .ty n,u=>u=Value.type n
abbrev Vals:List V→List Value→Prop:=Paired RelV
theorem Vals.length {xs:List V} {us:List Value} (r:Vals xs us):xs.length=us.length:=Paired.length r
theorem Vals.get:∀ {xs:List V} {us:List Value} {i:Nat} {x:V},Vals xs us→xs[i]?=some x→∃ u,us[i]?=some u∧RelV x u
 | _,_,_,_,.nil,e=>by simp at e
 | _,_,0,_,.cons r _,e=>by simp at e; subst e; exact ⟨_,rfl,r⟩
 | _,_,i + 1,x,.cons _ t,e=>by
  obtain ⟨u,h1,h2⟩:=Vals.get (i:=i) (x:=x) t (by simpa using e)
  exact ⟨u,by simpa using h1,h2⟩
theorem Vals.append:∀ {xs ys:List V} {us ws:List Value},Vals xs us→Vals ys ws→Vals (xs++ys) (us++ws)
 | _,_,_,_,.nil,s=>s
 | _,_,_,_,.cons r t,s=>.cons r (Vals.append t s)
theorem Vals.take:∀ {xs:List V} {us:List Value} (n:Nat),Vals xs us→Vals (xs.take n) (us.take n)
 | _,_,0,_=>.nil
 | _,_,_ + 1,.nil=>.nil
 | _,_,n + 1,.cons r t=>.cons r (Vals.take n t)
theorem Vals.drop:∀ {xs:List V} {us:List Value} (n:Nat),Vals xs us→Vals (xs.drop n) (us.drop n)
 | _,_,0,r=>r
 | _,_,_ + 1,.nil=>.nil
 | _,_,n + 1,.cons _ t=>Vals.drop n t
def RelO:Option V→Option Value→Prop
 | some v,some u=>RelV v u
 | none,none=>True
 | _,_=>False
def KV {κ:Type}:List (κ × V)→List (κ × Value)→Prop:=Paired fun (p:κ × V) (q:κ × Value)=>p.1=q.1∧RelV p.2 q.2
def kV:Key→V
 | .inl i=>.int i
 | .inr x=>.str x
inductive HO where
 | lst (xs:List V)
 | tup (xs:List V)
 | dK (kvs:List (Key × V)) | dT (kvs:List (List Key × V))
 | set (S:Int→Bool) (n:Nat)
 | ins (C dx:Addr) (fs:List (Str × V))
 | own (x:Addr)
 | xd (fs:List (Str × V))
 | met (f x:Addr)
 | rng (lo hi:Int)
 | frz (o:Obj) (u:HO)
 | tbl (ps:Array Value)
 | ext (φ:Heap→Prop)
abbrev Hp:=Addr→Option HO
def upd (H:Hp) (a:Addr) (o:HO):Hp:=fun b=>if b=a then some o else H b
theorem upd_same {H:Hp} {a:Addr} {o:HO}:upd H a o a=some o:=by unfold upd; rw [if_pos rfl]
theorem upd_ne {H:Hp} {a b:Addr} {o:HO} (h:b ≠ a):upd H a o b=H b:=by unfold upd; rw [if_neg h]
theorem upd_upd {H:Hp} {a:Addr} {o u:HO}:upd (upd H a o) a u=upd H a u:=by
 funext b; unfold upd; split <;> rfl
theorem ne_of_none {H:Hp} {a b:Addr} {o:HO} (h:H a=some o) (h':H b=none):a ≠ b:=by
 intro e; subst e; rw [h] at h'; cases h'
section
variable (P:Program) (w:World)
def ObjOk (H:Hp) (h:Heap) (a:Addr):HO→Prop
 | .lst xs=>xs.length≤sizeLine∧∃ (its:List Value) (n:Nat),Vals xs its∧h.get? a=some { cls:=.type "list",data:=.seq its.toArray n }
 | .tup xs=>xs.length≤sizeLine∧∃ its:List Value,Vals xs its∧IsTup h a its.toArray
 | .dK kvs=>kvs.length≤sizeLine∧(a == sysModules)=false∧∃ vs,KV kvs vs∧h.DictOf (mixKind P w) a vs
 | .dT kvs=>kvs.length≤sizeLine∧(a == sysModules)=false∧∃ xs:List (List Key × Addr × Value),
   Paired (fun (p:List Key × V) (q:List Key × Addr × Value)=>p.1=q.1∧H q.2.1=some (.tup (p.1.map kV))∧RelV p.2 q.2.2) kvs xs ∧
   ∃ o es ep,h.get? a=some o∧o.ExactDict∧o.data=.dict es ep∧es.toList=xs.map (entryOfKey (tupleKind (mixKind P w)))∧(xs.map (·.1)).Nodup
 | .set S n=>h.SetOf (intKind P w) a S n
 | .ins C dx fs=>H dx=some (.own a)∧fs.length≤1000∧dx ≠ a∧h.get? a=some (PySem.W.instObj C dx) ∧
   ∃ mA,h.Ns1 dx mA∧(∀ f,RelO (fs.lookup f) (mA f))∧PySem.Within mA (fs.map (·.1))
 | .own _=>∃ o,h.get? a=some o
 | .xd fs=>∃ mA,h.Ns1 a mA∧∀ f,RelO (fs.lookup f) (mA f)
 | .rng lo hi=>∃ t u v,h.get? a=some { cls:=.type "range",data:=.fields #[.int lo t,.int hi u,.int 1 v] }
 | .frz o u=>h.get? a=some o∧ObjOk H h a u
 | .tbl ps=>h.get? a=some { cls:=.none,data:=.fields ps }
 | .met f x=>h.get? a=some (PySem.W.methodObj (.ref f) (.ref x))
 | .ext φ=>φ h∧(∃ o,h.get? a=some o)∧∀ h1 h2:Heap,φ h1→(∀ o,h1.get? a=some o→h2.get? a=some o)→φ h2
def HOk (H:Hp) (h:Heap):Prop:=∀ a o,H a=some o→ObjOk P w H h a o
end
section
variable {P:Program} {w:World} {H H':Hp} {h h':Heap} {a:Addr} {o:HO}
theorem ObjOk.lt (x:ObjOk P w H h a o):a < h.objs.size:=by
 cases o with
 | lst xs=>obtain ⟨_,_,_,_,e⟩:=x; exact Heap.lt_size e
 | tup xs=>obtain ⟨_,_,_,p⟩:=x; exact p.lt
 | dK kvs=>obtain ⟨_,_,_,_,o,_,_,e,_⟩:=x; exact Heap.lt_size e
 | dT kvs=>obtain ⟨_,_,_,_,o,_,_,e,_⟩:=x; exact Heap.lt_size e
 | set S n=>obtain ⟨o,_,_,_,e,_⟩:=x; exact Heap.lt_size e
 | ins C dx fs=>obtain ⟨_,_,_,e,_⟩:=x; exact Heap.lt_size e
 | own y=>obtain ⟨_,e⟩:=x; exact Heap.lt_size e
 | xd fs=>obtain ⟨_,⟨_,_,_,e,_⟩,_⟩:=x; exact Heap.lt_size e
 | rng lo hi=>obtain ⟨_,_,_,e⟩:=x; exact Heap.lt_size e
 | frz ob u=>obtain ⟨e,_⟩:=x; exact Heap.lt_size e
 | tbl ps=>exact Heap.lt_size (show h.get? a=some _ from x)
 | met f y=>exact Heap.lt_size (show h.get? a=some _ from x)
 | ext φ=>obtain ⟨_,⟨_,e⟩,_⟩:=x; exact Heap.lt_size e
theorem Paired.mapP {α β:Type} {F G:α→β→Prop}:∀ {l₁:List α} {l₂:List β},Paired F l₁ l₂→(∀ a b,F a b→G a b)→Paired G l₁ l₂
 | _,_,.nil,_=>.nil
 | _,_,.cons r t,f=>.cons (f _ _ r) (Paired.mapP t f)
theorem ObjOk.stay (x:ObjOk P w H h a o) (k:∀ b u,(b=a ∨ H b=some (.own a))→h.get? b=some u→h'.get? b=some u)
  (ho:∀ b,H b=some (.own a)→H' b=some (.own a)) (ht:∀ b xs,H b=some (.tup xs)→H' b=some (.tup xs)):ObjOk P w H' h' a o:=by
 induction o with
 | lst xs=>obtain ⟨z,its,n,r,e⟩:=x; exact ⟨z,its,n,r,k _ _ (.inl rfl) e⟩
 | tup xs=>obtain ⟨z,its,r,ob,e,c⟩:=x; exact ⟨z,its,r,ob,k _ _ (.inl rfl) e,c⟩
 | dK kvs=>obtain ⟨z,y,vs,r,ob,es,ep,e,c⟩:=x; exact ⟨z,y,vs,r,ob,es,ep,k _ _ (.inl rfl) e,c⟩
 | dT kvs =>
  obtain ⟨z,y,xs,r,ob,es,ep,e,c⟩:=x
  exact ⟨z,y,xs,Paired.mapP r fun p q z=>⟨z.1,ht _ _ z.2.1,z.2.2⟩,ob,es,ep,k _ _ (.inl rfl) e,c⟩
 | set S n=>obtain ⟨ob,es,ep,t,e,c⟩:=x; exact ⟨ob,es,ep,t,k _ _ (.inl rfl) e,c⟩
 | ins C dx fs =>
  obtain ⟨d,z,ne,e,mA,⟨od,es,ep,e2,c⟩,r⟩:=x
  exact ⟨ho _ d,z,ne,k _ _ (.inl rfl) e,mA,⟨od,es,ep,k _ _ (.inr d) e2,c⟩,r⟩
 | own y=>obtain ⟨ob,e⟩:=x; exact ⟨ob,k _ _ (.inl rfl) e⟩
 | xd fs=>obtain ⟨mA,⟨od,es,ep,e,c⟩,r⟩:=x; exact ⟨mA,⟨od,es,ep,k _ _ (.inl rfl) e,c⟩,r⟩
 | rng lo hi=>obtain ⟨t,u,v,e⟩:=x; exact ⟨t,u,v,k _ _ (.inl rfl) e⟩
 | frz ob u ih=>obtain ⟨e,q⟩:=x; exact ⟨k _ _ (.inl rfl) e,ih q⟩
 | tbl ps =>
  have e:h.get? a=some { cls:=.none,data:=.fields ps }:=x
  show h'.get? a=some { cls:=.none,data:=.fields ps }
  exact k a _ (.inl rfl) e
 | met f y =>
  have e:h.get? a=some (PySem.W.methodObj (.ref f) (.ref y)):=x
  show h'.get? a=some (PySem.W.methodObj (.ref f) (.ref y))
  exact k a _ (.inl rfl) e
 | ext φ=>obtain ⟨p,⟨o,e⟩,st⟩:=x; exact ⟨st _ _ p fun o q=>k _ _ (.inl rfl) q,⟨o,k _ _ (.inl rfl) e⟩,st⟩
theorem HOk.lt (x:HOk P w H h) (e:H a=some o):a < h.objs.size:=(x a o e).lt
theorem HOk.fresh (x:HOk P w H h) (e:h.objs.size≤a):H a=none:=by
 cases q:H a with
 | none=>rfl
 | some u=>exact absurd (Nat.lt_of_lt_of_le (x.lt q) e) (Nat.lt_irrefl _)
theorem HOk.kept (x:HOk P w H h) (k:∀ b u,h.get? b=some u→h'.get? b=some u):HOk P w H h':=fun a o e =>
 (x a o e).stay (fun b u _ q=>k b u q) (fun _ q=>q) fun _ _ q=>q
theorem HOk.laid (x:HOk P w H h) (k:∀ b u,h.get? b=some u→h'.get? b=some u) (hp:h.objs.size≤a) (new:ObjOk P w (upd H a o) h' a o):HOk P w (upd H a o) h':=fun b u e=>by
 have hn:=x.fresh hp
 by_cases hb:b=a
 ·subst hb; rw [upd_same] at e; cases e; exact new
 ·rw [upd_ne hb] at e
  exact (x b u e).stay (fun c v _ q=>k c v q) (fun c q=>by rw [upd_ne (ne_of_none q hn)]; exact q) fun c xs q=>by rw [upd_ne (ne_of_none q hn)]; exact q
end
def Rd (H:Hp) (a:Addr) (u:HO):Prop:=H a=some u ∨ ∃ o,H a=some (.frz o u)
theorem Rd.ok {P:Program} {w:World} {H:Hp} {h:Heap} {a:Addr} {u:HO} (r:Rd H a u) (x:HOk P w H h):ObjOk P w H h a u:=by
 rcases r with r | ⟨o,r⟩
 ·exact x a u r
 ·obtain ⟨_,q⟩:=x a _ r
  exact q
def Mut:Option HO→Prop
 | some (.lst _)=>True
 | some (.dK _)=>True
 | some (.dT _)=>True
 | some (.set _ _)=>True
 | some (.ins _ _ _)=>True
 | some (.ext _)=>True
 | _=>False
section
variable {P:Program} {w:World} {H:Hp} {h h':Heap} {x e:Addr} {o':HO}
theorem HOk.write (ok:HOk P w H h) (mu:Mut (H x)) (he:e=x ∨ H e=some (.own x)) (k:∀ b u,b ≠ e→h.get? b=some u→h'.get? b=some u) (heo:∃ u,h'.get? e=some u)
  (new:ObjOk P w (upd H x o') h' x o'):HOk P w (upd H x o') h':=fun b u q=>by
 have nown:∀ c y,H c=some (.own y)→c ≠ x:=fun c y r z=>by subst z; rw [r] at mu; exact mu
 have ntup:∀ c xs,H c=some (.tup xs)→c ≠ x:=fun c xs r z=>by subst z; rw [r] at mu; exact mu
 by_cases hb:b=x
 ·subst hb; rw [upd_same] at q; cases q; exact new
 ·rw [upd_ne hb] at q
  by_cases hbe:b=e
  ·have q':H b=some (.own x):=by
    rcases he with z | z
    ·exact absurd (hbe.trans z) hb
    ·rw [hbe]; exact z
   rw [q] at q'; cases q'
   obtain ⟨v,hv⟩:=heo
   exact ⟨v,by rw [hbe]; exact hv⟩
  ·refine (ok b u q).stay (fun c v hc r=>k c v ?_ r) (fun c r=>by rw [upd_ne (nown c b r)]; exact r) fun c xs r=>by rw [upd_ne (ntup c xs r)]; exact r
   rcases hc with rfl | hc
   ·exact hbe
   ·rintro rfl
    rcases he with z | z
    ·exact nown c b hc z
    ·rw [hc] at z; cases z; exact hb rfl
end
structure Un (fs ex:List Addr) (H H':Hp) (h h':Heap):Prop where
 keep:∀ b o,h.get? b=some o→H b=none→b ∉ fs→b ∉ ex→h'.get? b=some o
 slot:∀ b o,h.get? b=some o→H b=none→b ∈ fs→b ∉ ex→∃ sl,h'.get? b=some { o with slots:=sl }
 free:∀ b o,h.get? b=some o→H b=none→b ∉ ex→H' b=none
 there:∀ b o,h.get? b=some o→b ∉ ex→∃ o',h'.get? b=some o'
 tups:∀ b xs,H b=some (.tup xs)→H' b=some (.tup xs)
 frzs:∀ b o u,H b=some (.frz o u)→H' b=some (.frz o u)
 tbls:∀ b ps,H b=some (.tbl ps)→∃ more,H' b=some (.tbl (ps++more))
section
variable {fs fs' ex ex':List Addr} {H H1 H2:Hp} {h h1 h2 h':Heap} {a x e:Addr} {o:HO}
theorem Un.any (u:Un fs ex H H1 h h1) {b:Addr} {ob:Obj} (q:h.get? b=some ob) (n:H b=none) (hx:b ∉ ex):∃ sl,h1.get? b=some { ob with slots:=sl }:=by
 by_cases hb:b ∈ fs
 ·exact u.slot b ob q n hb hx
 ·exact ⟨ob.slots,u.keep b ob q n hb hx⟩
theorem Un.kept (k:∀ b u,h.get? b=some u→h'.get? b=some u):Un fs ex H H h h' :=
 ⟨fun b ob q _ _ _=>k b ob q,fun b ob q _ _ _=>⟨ob.slots,k b ob q⟩,fun _ _ _ n _=>n,fun b ob q _=>⟨ob,k b ob q⟩,fun _ _ q=>q,fun _ _ _ q=>q,fun _ ps q=>⟨#[],by rw [q]; simp⟩⟩
theorem Un.refl:Un fs ex H H h h:=Un.kept fun _ _ q=>q
theorem Un.laid (k:∀ b u,h.get? b=some u→h'.get? b=some u) (hp:h.objs.size≤a) (hn:H a=none):Un fs ex H (upd H a o) h h' where
 keep:=fun b u q _ _ _=>k b u q
 slot:=fun b u q _ _ _=>⟨u.slots,k b u q⟩
 free:=fun b u q n _=>by rw [upd_ne (Nat.ne_of_lt (Nat.lt_of_lt_of_le (Heap.lt_size q) hp))]; exact n
 there:=fun b u q _=>⟨u,k b u q⟩
 tups:=fun b xs q=>by rw [upd_ne (ne_of_none q hn)]; exact q
 frzs:=fun b u xs q=>by rw [upd_ne (ne_of_none q hn)]; exact q
 tbls:=fun b ps q=>⟨#[],by rw [upd_ne (ne_of_none q hn),q]; simp⟩
theorem Un.write (mu:Mut (H x)) (he:e=x ∨ H e=some (.own x)) (k:∀ b u,b ≠ e→h.get? b=some u→h'.get? b=some u) (heo:∃ u,h'.get? e=some u):Un fs ex H (upd H x o) h h':=by
 have hx:∀ b,H b=none→b ≠ x:=fun b n z=>by subst z; rw [n] at mu; exact mu
 have hb:∀ b,H b=none→b ≠ e:=fun b n z=>by
  subst z
  rcases he with r | r
  ·exact hx b n r
  ·rw [n] at r; cases r
 have hm:∀ b u,H b=some u→¬ Mut (some u)→b ≠ x:=fun b u q nm z=>by subst z; rw [q] at mu; exact nm mu
 refine ⟨fun b u q n _ _=>k b u (hb b n) q,fun b u q n _ _=>⟨u.slots,k b u (hb b n) q⟩,fun b u q n _=>by rw [upd_ne (hx b n)]; exact n,fun b u q _=>?_,
  fun b xs q=>by rw [upd_ne (hm b _ q fun z=>z)]; exact q,fun b u xs q=>by rw [upd_ne (hm b _ q fun z=>z)]; exact q,fun b ps q=>⟨#[],by rw [upd_ne (hm b _ q fun z=>z),q]; simp⟩⟩
 by_cases hbe:b=e
 ·subst hbe; exact heo
 ·exact ⟨u,k b u hbe q⟩
end
def trk (h:Heap) (H:Hp):List Addr:=(List.range h.objs.size).filter fun a=>(H a).isSome
def hidT (h:Heap) (H:Hp):Heap:=PySem.W.hideAll h (trk h H)
theorem hidT_size (h:Heap) (H:Hp):(hidT h H).objs.size=h.objs.size:=PySem.W.hideAll_size _ _
theorem hidT_get {h:Heap} {H:Hp} {b:Addr} {o:Obj} (e:h.get? b=some o) (n:H b=none):(hidT h H).get? b=some o :=
 PySem.W.hideAll_get _ e fun hm=>by
  have q:(H b).isSome=true:=(List.mem_filter.mp hm).2
  rw [n] at q; simp at q
theorem of_hidT {h:Heap} {H:Hp} {b:Addr} {o:Obj} (e:(hidT h H).get? b=some o):h.get? b=some o∧H b=none:=by
 have e':h.get? b=some o:=PySem.W.of_hideAll (trk h H) e
 refine ⟨e',?_⟩
 cases q:H b with
 | none=>rfl
 | some x =>
  have hm:b ∈ trk h H:=List.mem_filter.mpr ⟨List.mem_range.mpr (Heap.lt_size e'),by simp [q]⟩
  have z:(hidT h H).get? b=none:=PySem.W.hideAll_none (trk h H) hm
  rw [z] at e; cases e
end L2
namespace L2
open PySem PySem.Spec PyProof.Rows
structure Mod (K:PySem.W.Frag) (mg:Str→Option Value) (base:Heap):Prop where
 kin:K.In base
 glob:base.Ns mainGlobals mg
 blt:∃ mb,base.Ns builtinsNs mb∧∀ x:Str,x ≠ "__name__" → mb x=bootBuiltins x
 nolimit:base.NoLimit
structure Cx where
 prog:Program
 w:World
 K:PySem.W.Frag
 mg:Str→Option Value
 base:Heap
 A:Around
 N:List Str
 s₀:Shared
 H₀:Hp
 env:Env
 outer:List Env
 stack:List Env
 ex:List Addr
 fn:Str→Bool
 calm:Bool
 pn:List (Addr × Obj)
 xe:Value→Shared→Prop
def frs (l:List Env):List Addr:=l.filterMap (·.frame)
abbrev Cx.fs (X:Cx):List Addr:=frs X.outer
def Vis (sc:Scope) (x:Str):Prop:=sc.names.lookup x=some .local ∨ sc.names.lookup x=some .cell ∨ sc.names.lookup x=some .free
def Loc (sc:Scope) (x:Str):Prop:=sc.names.lookup x=some .local ∨ sc.names.lookup x=some .cell
def Look (env:Env) (h:Heap) (m:Str→Option Value) (x:Str) (u:Value):Prop :=
 (env.kindOf x=some .local∧m x=some u) ∨ ((env.kindOf x=some .cell ∨ env.kindOf x=some .free)∧∃ c,env.cells.lookup x=some c∧h.IsCell c (some u))
structure Cx.Ok (X:Cx):Prop where
 mod:Mod X.K X.mg X.base
 kind:X.env.scope.kind=.function
 glob:X.env.globals=mainGlobals
 blt:X.env.builtins=builtinsNs
 above:X.s₀.heap.objs.size≤X.env.locals
 inj:∀ x y c,X.env.cells.lookup x=some c→X.env.cells.lookup y=some c→x=y
 has:∀ x,(X.env.kindOf x=some .cell ∨ X.env.kindOf x=some .free)→∃ c,X.env.cells.lookup x=some c
 cab:∀ x c,X.fn x=true→X.env.cells.lookup x=some c→X.s₀.heap.objs.size≤c
 hd:X.calm=true→X.A.handled=none
 frames:X.A.frames=some X.stack
 stk:X.stack=X.outer ∨ (X.stack=X.env :: X.outer∧X.env.frame=some X.env.locals)
 exf:∀ b ∈ X.ex,b ≠ X.env.locals∧∀ x c,X.env.cells.lookup x=some c→c ≠ b
 bs:∀ b o,X.base.get? b=some o→X.s₀.heap.get? b=some o∧X.H₀ b=none
 bsz:X.base.objs.size≤X.s₀.heap.objs.size
 noex:∀ b o,X.base.get? b=some o→b ∉ X.ex
 exfs:∀ b ∈ X.ex,b ∉ X.fs
 funs:X.s₀.heap.FunFrames X.base X.outer
 frf:∀ b ∈ X.fs,X.H₀ b=none
structure Inv (X:Cx) (pins:List (Addr × Obj)) (σ:List (Option V)) (H:Hp) (s:Shared):Prop where
 ok:X.Ok
 os:s.os=X.s₀.os
 bare:AllBare s.gens
 base:Un X.fs X.ex X.H₀ H X.s₀.heap s.heap
 loc:∃ m,s.heap.Ns X.env.locals m∧∀ (i:Nat) (x:Str) (v:V),X.N[i]?=some x→σ[i]?=some (some v)→Vis X.env.scope x→∃ u,RelV v u∧Look X.env s.heap m x u
 cell:∀ x c,X.env.cells.lookup x=some c→∃ v,s.heap.IsCell c v
 free:H X.env.locals=none
 freeC:∀ x c,X.env.cells.lookup x=some c→H c=none
 pin:∀ p ∈ X.pn++pins,s.heap.get? p.1=some p.2∧H p.1=none∧p.1 ≠ X.env.locals∧p.1 ∉ X.fs∧∀ v,p.2.data ≠ .cell v
 hok:HOk X.prog X.w H s.heap
 len:σ.length=X.N.length
section
variable {X:Cx} {pins:List (Addr × Obj)} {σ:List (Option V)} {H H':Hp} {s:Shared} {h':Heap}
theorem Cx.Ok.nofr (ok:X.Ok) {b:Addr} {o:Obj} (e:X.base.get? b=some o):b ∉ X.fs:=fun hb=>by
 have:=(ok.funs.mem hb).1
 rw [e] at this; cases this
theorem Inv.bs (I:Inv X pins σ H s):∀ b o,X.base.get? b=some o→s.heap.get? b=some o∧H b=none:=fun b o e =>
 ⟨I.base.keep b o (I.ok.bs b o e).1 (I.ok.bs b o e).2 (I.ok.nofr e) (I.ok.noex b o e),I.base.free b o (I.ok.bs b o e).1 (I.ok.bs b o e).2 (I.ok.noex b o e)⟩
theorem Inv.bk (I:Inv X pins σ H s):∀ b o,X.base.get? b=some o→s.heap.get? b=some o:=fun b o e=>(I.bs b o e).1
theorem Inv.mod (I:Inv X pins σ H s):Mod X.K X.mg X.base:=I.ok.mod
theorem Inv.kIn (I:Inv X pins σ H s):X.K.In s.heap:=I.ok.mod.kin.keeps I.bk
theorem Inv.lt (I:Inv X pins σ H s):X.env.locals < s.heap.objs.size:=let ⟨_,hn,_⟩:=I.loc; hn.lt
theorem Inv.sz (I:Inv X pins σ H s):X.s₀.heap.objs.size≤s.heap.objs.size:=Nat.le_trans I.ok.above (Nat.le_of_lt I.lt)
theorem Inv.nofs (I:Inv X pins σ H s) {a:Addr} (h:s.heap.objs.size≤a):a ∉ X.fs:=fun hb=>by
 obtain ⟨_,o,ho,_⟩:=I.ok.funs.mem hb
 exact absurd (Nat.lt_of_lt_of_le (Heap.lt_size ho) (Nat.le_trans I.sz h)) (Nat.lt_irrefl _)
theorem Inv.cne (I:Inv X pins σ H s):∀ x c,X.env.cells.lookup x=some c→c ≠ X.env.locals:=fun x c e z=>by
 obtain ⟨v,o,ho,hd⟩:=I.cell x c e
 obtain ⟨m,⟨o',es,ep,ho',hd',_⟩,_⟩:=I.loc
 rw [z,ho'] at ho; cases ho; rw [hd'] at hd; cases hd
theorem Inv.funs (I:Inv X pins σ H s):s.heap.FunFrames X.base X.outer:=by
 have all:∀ (l:List Env),(∀ b ∈ frs l,b ∈ X.fs)→X.s₀.heap.FunFrames X.base l→s.heap.FunFrames X.base l:=by
  intro l
  induction l with
  | nil=>intro _ _; trivial
  | cons env r ih =>
   intro hs hl
   obtain ⟨hk,⟨L,o,hf,hn,ho,hd⟩,hr⟩:=hl
   have hL:L ∈ X.fs:=hs L (by unfold frs; rw [List.filterMap_cons,hf]; exact List.mem_cons_self)
   obtain ⟨sl,e⟩:=I.base.slot L o ho (I.ok.frf L hL) hL fun z=>I.ok.exfs L z hL
   exact ⟨hk,⟨L,_,hf,hn,e,hd⟩,ih (fun b hb=>hs b (by unfold frs; rw [List.filterMap_cons,hf]; exact List.mem_cons_of_mem _ hb)) hr⟩
 exact all X.outer (fun _ hb=>hb) I.ok.funs
theorem Inv.stack (I:Inv X pins σ H s):s.heap.FunFrames X.base X.stack:=by
 rcases I.ok.stk with e | ⟨e,hf⟩
 ·rw [e]; exact I.funs
 ·rw [e]
  obtain ⟨m,hn,_⟩:=I.loc
  refine .cons (by rw [I.ok.kind]; decide) hf hn ?_ I.funs
  exact Heap.get?_none_of_le (Nat.le_trans I.ok.bsz I.ok.above)
theorem Inv.stkSub (I:Inv X pins σ H s):∀ b ∈ frs X.stack,b ∈ X.env.locals :: X.fs:=fun b hb=>by
 rcases I.ok.stk with e | ⟨e,hf⟩
 ·rw [e] at hb; exact List.mem_cons_of_mem _ hb
 ·rw [e] at hb
  unfold frs at hb
  rw [List.filterMap_cons,hf] at hb
  exact hb
theorem Inv.stkFree (I:Inv X pins σ H s):∀ b ∈ frs X.stack,H b=none:=fun b hb=>by
 rcases List.mem_cons.mp (I.stkSub b hb) with e | hb
 ·rw [e]; exact I.free
 ·obtain ⟨_,o,ho,_⟩:=I.ok.funs.mem hb
  exact I.base.free b o ho (I.ok.frf b hb) fun z=>I.ok.exfs b z hb
theorem Inv.step {g':Array GenState} {t':Nat} {d':Drawn} {ch:List Addr} (I:Inv X pins σ H s)
  (hch:∀ b ∈ ch,(b ∈ X.ex ∨ X.s₀.heap.objs.size≤b)∧b ≠ X.env.locals∧(∀ x c,X.env.cells.lookup x=some c→c ≠ b)∧∀ p ∈ X.pn++pins,p.1 ≠ b)
  (keep:∀ b o,b ≠ X.env.locals→b ∉ X.fs→b ∉ ch→s.heap.get? b=some o→H b=none→h'.get? b=some o)
  (slot:∀ b o,b ≠ X.env.locals→b ∈ X.fs→b ∉ ch→s.heap.get? b=some o→H b=none→∃ sl,h'.get? b=some { o with slots:=sl }) (free:∀ b o,b ∉ ch→s.heap.get? b=some o→H b=none→H' b=none)
  (there:∀ b o,b ∉ ch→s.heap.get? b=some o→∃ o',h'.get? b=some o')
  (tups:∀ b xs,H b=some (.tup xs)→H' b=some (.tup xs)) (frzs:∀ b o u,H b=some (.frz o u)→H' b=some (.frz o u)) (tbls:∀ b ps,H b=some (.tbl ps)→∃ more,H' b=some (.tbl (ps++more)))
  (ns:∀ m,s.heap.Ns X.env.locals m→h'.Ns X.env.locals m) (hok:HOk X.prog X.w H' h') (hg:AllBare g') :
  Inv X pins σ H' { s with heap:=h',gens:=g',drawn:=d',toks:=t' }:=by
 have neL:∀ b o,X.s₀.heap.get? b=some o→b ≠ X.env.locals:=fun b o e=>Nat.ne_of_lt (Nat.lt_of_lt_of_le (Heap.lt_size e) I.ok.above)
 have neC:∀ b o,X.s₀.heap.get? b=some o→b ∉ X.ex→b ∉ ch:=fun b o e hx hb=>by
  rcases (hch b hb).1 with z | z
  ·exact hx z
  ·exact absurd (Nat.lt_of_lt_of_le (Heap.lt_size e) z) (Nat.lt_irrefl _)
 have cellK:∀ x c,X.env.cells.lookup x=some c→∀ v,s.heap.IsCell c v→h'.IsCell c v:=fun x c e v ⟨o,ho,hd⟩=>by
  have nch:c ∉ ch:=fun z=>(hch c z).2.2.1 x c e rfl
  by_cases hc:c ∈ X.fs
  ·obtain ⟨sl,q⟩:=slot c o (I.cne x c e) hc nch ho (I.freeC x c e)
   exact ⟨_,q,hd⟩
  ·exact ⟨o,keep c o (I.cne x c e) hc nch ho (I.freeC x c e),hd⟩
 refine ⟨I.ok,I.os,hg,⟨fun b o e n hb hx=>?_,fun b o e n hb hx=>?_,fun b o e n hx=>?_,fun b o e hx=>?_,fun b xs e=>tups b xs (I.base.tups b xs e),fun b o xs e=>frzs b o xs (I.base.frzs b o xs e),fun b ps e=>?_⟩,?_,fun x c e=>?_,?_,fun x c e=>?_,fun p hp=>?_,hok,I.len⟩
 ·exact keep b o (neL b o e) hb (neC b o e hx) (I.base.keep b o e n hb hx) (I.base.free b o e n hx)
 ·obtain ⟨sl,e1⟩:=I.base.slot b o e n hb hx
  obtain ⟨sl',e2⟩:=slot b _ (neL b o e) hb (neC b o e hx) e1 (I.base.free b o e n hx)
  exact ⟨sl',e2⟩
 ·obtain ⟨o',e1⟩:=I.base.there b o e hx
  exact free b o' (neC b o e hx) e1 (I.base.free b o e n hx)
 ·obtain ⟨o',e1⟩:=I.base.there b o e hx
  exact there b o' (neC b o e hx) e1
 ·obtain ⟨m1,e1⟩:=I.base.tbls b ps e
  obtain ⟨m2,e2⟩:=tbls b _ e1
  exact ⟨m1++m2,by rw [e2,Array.append_assoc]⟩
 ·obtain ⟨m,hn,hl⟩:=I.loc
  refine ⟨m,ns m hn,fun i x v e1 e2 e3=>?_⟩
  obtain ⟨u,r,l⟩:=hl i x v e1 e2 e3
  refine ⟨u,r,?_⟩
  rcases l with l | ⟨k,c,e,z⟩
  ·exact .inl l
  ·exact .inr ⟨k,c,e,cellK x c e _ z⟩
 ·obtain ⟨v,z⟩:=I.cell x c e
  exact ⟨v,cellK x c e v z⟩
 ·obtain ⟨m,⟨o,_,_,ho,_⟩,_⟩:=I.loc
  exact free _ o (fun z=>(hch _ z).2.1 rfl) ho I.free
 ·obtain ⟨v,o,ho,hd⟩:=I.cell x c e
  exact free c o (fun z=>(hch c z).2.2.1 x c e rfl) ho (I.freeC x c e)
 ·obtain ⟨e,n,ne,nf,d⟩:=I.pin p hp
  have nch:p.1 ∉ ch:=fun z=>(hch p.1 z).2.2.2 p hp rfl
  exact ⟨keep p.1 p.2 ne nf nch e n,free p.1 p.2 nch e n,ne,nf,d⟩
theorem Inv.un {t':Nat} (I:Inv X pins σ H s) (u:Un X.fs [] H H' s.heap h') (hok:HOk X.prog X.w H' h'):Inv X pins σ H' { s with heap:=h',toks:=t' }:=by
 obtain ⟨m,⟨o,es,ep,ho,r⟩,_⟩:=id I.loc
 obtain ⟨sl,hL⟩:=u.any ho I.free (by simp)
 exact I.step (g':=s.gens) (d':=s.drawn) (ch:=[]) (fun _ z=>nomatch z) (fun b o _ hb _ e n=>u.keep b o e n hb (by simp)) (fun b o _ hb _ e n=>u.slot b o e n hb (by simp)) (fun b o _ e n=>u.free b o e n (by simp)) (fun b o _ e=>u.there b o e (by simp)) u.tups u.frzs u.tbls (fun m' hm=>by
  obtain ⟨o',es',ep',ho',r'⟩:=hm
  rw [ho] at ho'; cases ho'
  exact ⟨_,es',ep',hL,r'⟩) hok I.bare
theorem Inv.call {g':Array GenState} {t':Nat} {d':Drawn} {ch:List Addr} (I:Inv X pins σ H s) (u:Un (frs X.stack) ch H H' s.heap h') (hok:HOk X.prog X.w H' h') (hg:AllBare g')
  (hch:∀ b ∈ ch,(b ∈ X.ex ∨ X.s₀.heap.objs.size≤b)∧b ≠ X.env.locals∧(∀ x c,X.env.cells.lookup x=some c→c ≠ b)∧∀ p ∈ X.pn++pins,p.1 ≠ b) :
  Inv X pins σ H' { s with heap:=h',gens:=g',drawn:=d',toks:=t' }:=by
 obtain ⟨m,⟨o,es,ep,ho,r⟩,_⟩:=id I.loc
 obtain ⟨sl,hL⟩:=u.any ho I.free fun z=>(hch _ z).2.1 rfl
 exact I.step (ch:=ch) hch (fun b o hL hb hc e n=>u.keep b o e n (fun z=>(List.mem_cons.mp (I.stkSub b z)).elim hL hb) hc) (fun b o _ _ hc e n=>u.any e n hc) (fun b o hc e n=>u.free b o e n hc) (fun b o hc e=>u.there b o e hc) u.tups u.frzs u.tbls (fun m' hm=>by
  obtain ⟨o',es',ep',ho',r'⟩:=hm
  rw [ho] at ho'; cases ho'
  exact ⟨_,es',ep',hL,r'⟩) hok hg
theorem Inv.turned {t':Nat} {it:Addr} (I:Inv X pins σ H s) (k:∀ b o,b ≠ it→s.heap.get? b=some o→h'.get? b=some o) (hn:H it=none) (hL:it ≠ X.env.locals)
  (h1:it ∈ X.ex ∨ X.s₀.heap.objs.size≤it) (h2:∀ x c,X.env.cells.lookup x=some c→c ≠ it) (h3:∀ p ∈ X.pn++pins,p.1 ≠ it):Inv X pins σ H { s with heap:=h',toks:=t' }:=by
 have nit:∀ b u,H b=some u→b ≠ it:=fun b u e z=>by rw [z,hn] at e; cases e
 refine I.step (g':=s.gens) (d':=s.drawn) (ch:=[it]) (fun b hb=>?_) (fun b o _ _ hc e _=>k b o (fun z=>hc (by simp [z])) e) (fun b o _ _ hc e _=>⟨o.slots,k b o (fun z=>hc (by simp [z])) e⟩) (fun _ _ _ _ n=>n)
  (fun b o hc e=>⟨o,k b o (fun z=>hc (by simp [z])) e⟩) (fun _ _ e=>e) (fun _ _ _ e=>e) (fun b ps e=>⟨#[],by rw [e]; simp⟩) (fun m hm=>?_) (fun b u e=>?_) I.bare
 ·have e:b=it:=by simpa using hb
  subst e
  exact ⟨h1,hL,h2,h3⟩
 ·obtain ⟨o,es,ep,ho,r⟩:=hm
  exact ⟨o,es,ep,k _ o (Ne.symm hL) ho,r⟩
 ·refine (I.hok b u e).stay (fun c v hc q=>k c v ?_ q) (fun _ q=>q) fun _ _ q=>q
  rcases hc with z | z
  ·rw [z]; exact nit b u e
  ·exact nit c _ z
theorem Inv.tok (I:Inv X pins σ H s) (t:Nat):Inv X pins σ H { s with toks:=t }:=I.un (h':=s.heap) (t':=t) Un.refl I.hok
theorem Inv.kept {t':Nat} (I:Inv X pins σ H s) (k:∀ b u,s.heap.get? b=some u→h'.get? b=some u):Inv X pins σ H { s with heap:=h',toks:=t' }:=I.un (Un.kept k) (I.hok.kept k)
theorem Inv.laid {a:Addr} {o:HO} {t':Nat} (I:Inv X pins σ H s) (k:∀ b u,s.heap.get? b=some u→h'.get? b=some u) (hp:s.heap.objs.size≤a) (new:ObjOk X.prog X.w (upd H a o) h' a o) :
  Inv X pins σ (upd H a o) { s with heap:=h',toks:=t' }:=I.un (Un.laid k hp (I.hok.fresh hp)) (I.hok.laid k hp new)
theorem Inv.write {x e:Addr} {o:HO} {t':Nat} (I:Inv X pins σ H s) (mu:Mut (H x)) (he:e=x ∨ H e=some (.own x)) (k:∀ b u,b ≠ e→s.heap.get? b=some u→h'.get? b=some u) (heo:∃ u,h'.get? e=some u)
  (new:ObjOk X.prog X.w (upd H x o) h' x o):Inv X pins σ (upd H x o) { s with heap:=h',toks:=t' }:=I.un (Un.write mu he k heo) (I.hok.write mu he k heo new)
theorem Inv.pins_of {pins':List (Addr × Obj)} (I:Inv X pins σ H s) (h:∀ p ∈ pins',s.heap.get? p.1=some p.2∧H p.1=none∧p.1 ≠ X.env.locals∧p.1 ∉ X.fs∧∀ v,p.2.data ≠ .cell v):Inv X pins' σ H s :=
 ⟨I.ok,I.os,I.bare,I.base,I.loc,I.cell,I.free,I.freeC,fun p hp=>(List.mem_append.mp hp).elim (fun z=>I.pin p (List.mem_append_left _ z)) (h p),I.hok,I.len⟩
theorem nodup_ix {N:List Str} (hN:N.Nodup) {i j:Nat} {x:Str} (a:N[i]?=some x) (b:N[j]?=some x):i=j:=by
 obtain ⟨h1,e1⟩:=List.getElem?_eq_some_iff.mp a
 obtain ⟨h2,e2⟩:=List.getElem?_eq_some_iff.mp b
 exact (List.getElem_inj hN).mp (e1.trans e2.symm)
theorem store_ok2 {M:Model} {A:Around} {E:Value→Shared→Prop} {i:Nat} {x:Str} {v:V} {u:Value} {Q:Unit→Shared→Prop} (I:Inv X pins σ H s) (hN:X.N.Nodup) (hi:X.N[i]?=some x) (hx:Loc X.env.scope x) (r:RelV v u)
  (h:∀ s',Inv X pins (σ.set i (some v)) H s'→(∃ a,Heap.SameBut a s.heap s'.heap∧(a=X.env.locals ∨ X.env.cells.lookup x=some a))→Q () s') (hf:X.fn x=true ∨ X.env.scope.names.lookup x=some .local:=by first | exact .inl rfl | exact .inr rfl | assumption):wpAny M A (storeName X.env x u) Q E s:=by
 obtain ⟨m,hn,hl⟩:=id I.loc
 have hcls:(X.env.scope.kind == .class || (X.env.scope.kind == .module && X.env.locals != X.env.globals))=false:=by rw [I.ok.kind]; rfl
 have hiσ:i < σ.length:=by rw [I.len]; exact (List.getElem?_eq_some_iff.mp hi).1
 have cne:=I.cne
 have tracked:∀ {a:Addr} {h':Heap},(∃ o,s.heap.get? a=some o∧H a=none)→Heap.SameBut a s.heap h'→HOk X.prog X.w H h':=fun {a h'} ha hs b ob e=>by
  obtain ⟨_,_,hfree⟩:=ha
  refine (I.hok b ob e).stay (fun c w' hc q=>(hs.2 c ?_).trans q) (fun _ q=>q) fun _ _ q=>q
  rintro rfl
  rcases hc with rfl | hc
  ·rw [hfree] at e; cases e
  ·rw [hfree] at hc; cases hc
 rcases hx with hk | hk
 ·refine wpAny_storeName_local hk hn (fun h' hn' hs=>?_) hcls
  obtain ⟨oL,_,_,hoL,_⟩:=id hn
  refine h _ ⟨I.ok,I.os,I.bare,⟨fun b o e n hb hx=>?_,fun b o e n hb hx=>?_,I.base.free,fun b o e hx=>?_,I.base.tups,I.base.frzs,I.base.tbls⟩,⟨_,hn',fun j y v' e1 e2 e3=>?_⟩,fun y c e=>?_,I.free,I.freeC,fun p hp=>?_,tracked ⟨oL,hoL,I.free⟩ hs,by simpa using I.len⟩ ⟨_,hs,.inl rfl⟩
  ·exact (hs.2 b (Nat.ne_of_lt (Nat.lt_of_lt_of_le (Heap.lt_size e) I.ok.above))).trans (I.base.keep b o e n hb hx)
  ·obtain ⟨sl,e1⟩:=I.base.slot b o e n hb hx
   exact ⟨sl,(hs.2 b (Nat.ne_of_lt (Nat.lt_of_lt_of_le (Heap.lt_size e) I.ok.above))).trans e1⟩
  ·obtain ⟨o',e1⟩:=I.base.there b o e hx
   exact ⟨o',(hs.2 b (Nat.ne_of_lt (Nat.lt_of_lt_of_le (Heap.lt_size e) I.ok.above))).trans e1⟩
  ·by_cases hj:j=i
   ·subst hj
    rw [hi] at e1; cases e1
    rw [List.getElem?_set_self hiσ] at e2
    cases e2
    exact ⟨u,r,.inl ⟨hk,by simp⟩⟩
   ·rw [List.getElem?_set_ne (Ne.symm hj)] at e2
    obtain ⟨u',r',q⟩:=hl j y v' e1 e2 e3
    refine ⟨u',r',?_⟩
    rcases q with ⟨k,e⟩ | ⟨k,c,e,z⟩
    ·refine .inl ⟨k,?_⟩
     have:y ≠ x:=fun e=>hj (nodup_ix hN e1 (e ▸ hi))
     simp [this,e]
    ·exact .inr ⟨k,c,e,z.sameBut hs (cne y c e)⟩
  ·obtain ⟨w',z⟩:=I.cell y c e
   exact ⟨w',z.sameBut hs (cne y c e)⟩
  ·obtain ⟨e,n,ne,nf,d⟩:=I.pin p hp
   exact ⟨(hs.2 p.1 ne).trans e,n,ne,nf,d⟩
 ·have hfn:X.fn x=true:=by
   rcases hf with z | z
   ·exact z
   ·rw [z] at hk; cases hk
  obtain ⟨c,hc⟩:=I.ok.has x (.inl hk)
  obtain ⟨w',z⟩:=I.cell x c hc
  refine wpAny_storeName_cell I.ok.kind hk hc z (fun h' hc' hs=>?_)
  obtain ⟨oc,hoc,hocd⟩:=id z
  refine h { s with heap:=h' } ⟨I.ok,I.os,I.bare,⟨fun b o e n hb hx=>?_,fun b o e n hb hx=>?_,I.base.free,fun b o e hx=>?_,I.base.tups,I.base.frzs,I.base.tbls⟩,⟨m,hn.sameBut hs (Ne.symm (cne x c hc)),fun j y v' e1 e2 e3=>?_⟩,fun y c' e=>?_,I.free,I.freeC,fun p hp=>?_,tracked ⟨oc,hoc,I.freeC x c hc⟩ hs,by simpa using I.len⟩ ⟨c,hs,.inr hc⟩
  ·exact (hs.2 b (Nat.ne_of_lt (Nat.lt_of_lt_of_le (Heap.lt_size e) (I.ok.cab x c hfn hc)))).trans (I.base.keep b o e n hb hx)
  ·obtain ⟨sl,e1⟩:=I.base.slot b o e n hb hx
   exact ⟨sl,(hs.2 b (Nat.ne_of_lt (Nat.lt_of_lt_of_le (Heap.lt_size e) (I.ok.cab x c hfn hc)))).trans e1⟩
  ·obtain ⟨o',e1⟩:=I.base.there b o e hx
   exact ⟨o',(hs.2 b (Nat.ne_of_lt (Nat.lt_of_lt_of_le (Heap.lt_size e) (I.ok.cab x c hfn hc)))).trans e1⟩
  ·by_cases hj:j=i
   ·subst hj
    rw [hi] at e1; cases e1
    rw [List.getElem?_set_self hiσ] at e2
    cases e2
    exact ⟨u,r,.inr ⟨.inl hk,c,hc,hc'⟩⟩
   ·rw [List.getElem?_set_ne (Ne.symm hj)] at e2
    obtain ⟨u',r',q⟩:=hl j y v' e1 e2 e3
    refine ⟨u',r',?_⟩
    rcases q with q | ⟨k,c',e,z'⟩
    ·exact .inl q
    ·refine .inr ⟨k,c',e,z'.sameBut hs ?_⟩
     rintro rfl
     exact hj (nodup_ix hN e1 (I.ok.inj _ _ _ e hc ▸ hi))
  ·by_cases hcc:c'=c
   ·subst hcc; exact ⟨_,hc'⟩
   ·obtain ⟨w2,z2⟩:=I.cell y c' e
    exact ⟨w2,z2.sameBut hs hcc⟩
  ·obtain ⟨e,n,ne,nf,d⟩:=I.pin p hp
   refine ⟨(hs.2 p.1 ?_).trans e,n,ne,nf,d⟩
   intro q
   rw [q,hoc] at e
   have q':oc=p.2:=Option.some.inj e
   exact d w' (by rw [← q']; exact hocd)
theorem store_ok {M:Model} {A:Around} {E:Value→Shared→Prop} {i:Nat} {x:Str} {v:V} {u:Value} {Q:Unit→Shared→Prop} (I:Inv X pins σ H s) (hN:X.N.Nodup) (hi:X.N[i]?=some x) (hx:Loc X.env.scope x) (r:RelV v u)
  (h:∀ s',Inv X pins (σ.set i (some v)) H s'→Q () s') (hf:X.fn x=true ∨ X.env.scope.names.lookup x=some .local:=by first | exact .inl rfl | exact .inr rfl | assumption):wpAny M A (storeName X.env x u) Q E s :=
 store_ok2 I hN hi hx r (fun s' I' _=>h s' I') hf
theorem Inv.call' {s':Shared} {ch:List Addr} (I:Inv X pins σ H s) (ho:s'.os=s.os) (u:Un (frs X.stack) ch H H' s.heap s'.heap) (hok:HOk X.prog X.w H' s'.heap) (hg:AllBare s'.gens)
  (hch:∀ b ∈ ch,(b ∈ X.ex ∨ X.s₀.heap.objs.size≤b)∧b ≠ X.env.locals∧(∀ x c,X.env.cells.lookup x=some c→c ≠ b)∧∀ p ∈ X.pn++pins,p.1 ≠ b):Inv X pins σ H' s':=by
 obtain ⟨h',g',d',t',o'⟩:=s'
 have e:o'=s.os:=ho
 subst e
 exact I.call (g':=g') (t':=t') (d':=d') u hok hg hch
end
abbrev XK:=Value→Option Addr→Hp→Prop
abbrev St:=List (Option V)
abbrev VK:=V→Hp→Prop
abbrev TE:=St→Hp→VK→Prop
abbrev TT:=St→Hp→(Bool→Hp→Prop)→Prop
abbrev TA:=St→Hp→(List V→Hp→Prop)→Prop
structure Ends where
 nx:St→Hp→Prop
 rt:VK
 bk:St→Hp→Prop:=fun _ _=>False
 ct:St→Hp→Prop:=fun _ _=>False
abbrev TS:=Ends→St→Hp→Prop
def EP (X:Cx) (pins:List (Addr × Obj)) (σ:St) (Q:VK) (u:Value) (s':Shared):Prop:=∃ v H',Inv X pins σ H' s'∧RelV v u∧Q v H'
def TP (X:Cx) (pins:List (Addr × Obj)) (σ:St) (Q:Bool→Hp→Prop) (b:Bool) (s':Shared):Prop:=∃ H',Inv X pins σ H' s'∧Q b H'
def AP (X:Cx) (pins:List (Addr × Obj)) (σ:St) (Q:List V→Hp→Prop) (us:List Value) (s':Shared):Prop:=∃ vs H',Inv X pins σ H' s'∧Vals vs us∧Q vs H'
def SP (X:Cx) (pins:List (Addr × Obj)) (D:Ends) (f:Flow) (s':Shared):Prop :=
 match f with
 | .next=>∃ σ' H',Inv X pins σ' H' s'∧D.nx σ' H'
 | .brk=>∃ σ' H',Inv X pins σ' H' s'∧D.bk σ' H'
 | .cont=>∃ σ' H',Inv X pins σ' H' s'∧D.ct σ' H'
 | .ret u=>∃ v σ' H',Inv X pins σ' H' s'∧RelV v u∧D.rt v H'
def PE (X:Cx) (e:Expr) (t:TE):Prop :=
 ∀ (pins:List (Addr × Obj)) (s:Shared) (σ:St) (H:Hp) (Q:VK),Inv X pins σ H s→t σ H Q→wpAny (model X.prog X.w) X.A (eval e X.env) (EP X pins σ Q) X.xe s
def PT (X:Cx) (e:Expr) (t:TT):Prop :=
 ∀ (pins:List (Addr × Obj)) (s:Shared) (σ:St) (H:Hp) (Q:Bool→Hp→Prop),Inv X pins σ H s→t σ H Q→wpAny (model X.prog X.w) X.A (isTrue e X.env (eval e X.env)) (TP X pins σ Q) X.xe s
def PW (X:Cx) (e:Expr) (t:TT):Prop :=
 ∀ (whole:Sem Value) (pins:List (Addr × Obj)) (s:Shared) (σ:St) (H:Hp) (Q:Bool→Hp→Prop),Inv X pins σ H s→t σ H Q→wpAny (model X.prog X.w) X.A (isTrue e X.env whole) (TP X pins σ Q) X.xe s
theorem PW.pt {X:Cx} {e:Expr} {t:TT} (h:PW X e t):PT X e t:=h _
def PA (X:Cx) (es:List Expr) (t:TA):Prop :=
 ∀ (pos:Pos) (pins:List (Addr × Obj)) (s:Shared) (σ:St) (H:Hp) (Q:List V→Hp→Prop),Inv X pins σ H s→t σ H Q→wpAny (model X.prog X.w) X.A (spliced (backTo pos (starEach es X.env))) (AP X pins σ Q) X.xe s
def PS (X:Cx) (st:Stmt) (t:TS):Prop :=
 ∀ (pins:List (Addr × Obj)) (s:Shared) (σ:St) (H:Hp) (D:Ends),Inv X pins σ H s→t D σ H→wpAny (model X.prog X.w) X.A (exec st X.env) (SP X pins D) X.xe s
def PSs (X:Cx) (st:List Stmt) (t:TS):Prop :=
 ∀ (pins:List (Addr × Obj)) (s:Shared) (σ:St) (H:Hp) (D:Ends),Inv X pins σ H s→t D σ H→wpAny (model X.prog X.w) X.A (execs st X.env) (SP X pins D) X.xe s
theorem thn {α:Type} {t:Sem α} {Q Q':α→Shared→Prop} {M:Model} {A:Around} {E:Value→Shared→Prop} {s:Shared} (h:wpAny M A t Q E s) (hQ:∀ a s,Q a s→Q' a s):wpAny M A t Q' E s:=wpAny_mono h hQ fun _ _ x=>x
end L2
namespace L2
open PySem PySem.Spec PyProof.Rows
section
variable {X:Cx}
def tVar (i:Nat):TE:=fun σ H Q=>∃ v,σ[i]?=some (some v)∧Q v H
def tC (v:V):TE:=fun _ H Q=>Q v H
theorem pe_var {i:Nat} {x:Str} {pos:Pos} (hN:X.N[i]?=some x) (hv:Vis X.env.scope x) (hd:(x == ("__debug__" : Str))=false:=by decide) (hcd:(x == ("__classdict__" : Str))=false:=by decide):PE X (.Name x pos) (tVar i):=by
 intro pins s σ H Q I h
 obtain ⟨v,e,h⟩:=h
 obtain ⟨m,hn,hl⟩:=I.loc
 obtain ⟨u,r,l⟩:=hl i x v hN e hv
 have fin:EP X pins σ Q u s:=⟨v,H,I,r,h⟩
 rcases l with ⟨hk,hm⟩ | ⟨hk,c,hc,hcell⟩
 ·exact wpAny_Name (wpAny_loadName_local I.ok.kind hk hn hm fin) hd
 ·rcases hk with hk | hk
  ·exact wpAny_Name (wpAny_loadName_cell I.ok.kind hk hc hcell fin) hd
  ·exact wpAny_Name (wpAny_loadName_free I.ok.kind hk hc hcell fin hcd) hd
theorem pe_int {i j pos}:PE X (.Constant (.int i) j pos) (tC (.int i)):=fun _ _ _ H _ I h=>wpAny_Constant_int ⟨.int i,H,I.tok _,⟨_,rfl⟩,h⟩
theorem pe_bl {b j pos}:PE X (.Constant (.bool b) j pos) (tC (.bl b)):=fun _ _ _ H _ I h=>Constant_bool ⟨.bl b,H,I,rfl,h⟩
theorem pe_non {j pos}:PE X (.Constant .none j pos) (tC .non):=fun _ _ _ H _ I h=>Constant_none ⟨.non,H,I,rfl,h⟩
theorem pe_str {x j pos}:PE X (.Constant (.str x) j pos) (tC (.str x)):=fun _ _ _ H _ I h=>Calls.Constant_str ⟨.str x,H,I.tok _,⟨_,rfl⟩,h⟩
def Gl (X:Cx) (x:Str):Prop:=X.env.kindOf x=some .globalImplicit
theorem ld_glob {E:Value→Shared→Prop} {pins:List (Addr × Obj)} {s:Shared} {σ:St} {H:Hp} {x:Str} {u:Value} {pos:Pos} {Q:Value→Shared→Prop} (I:Inv X pins σ H s) (hg:Gl X x) (hm:X.mg x=some u) (h:Q u s)
  (hd:(x == ("__debug__" : Str))=false:=by decide):wpAny (model X.prog X.w) X.A (eval (.Name x pos) X.env) Q E s :=
 Calls.Name_function_global I.ok.kind hg (Calls.loadGlobal_global (by rw [I.ok.glob]; exact I.mod.glob.keeps I.bk) hm h) hd
theorem ld_blt {E:Value→Shared→Prop} {pins:List (Addr × Obj)} {s:Shared} {σ:St} {H:Hp} {x:Str} {u:Value} {pos:Pos} {Q:Value→Shared→Prop} (I:Inv X pins σ H s) (hg:Gl X x) (hm:X.mg x=none) (hv:bootBuiltins x=some u) (h:Q u s)
  (hn:x ≠ "__name__" := by decide) (hd:(x == ("__debug__" : Str))=false:=by decide):wpAny (model X.prog X.w) X.A (eval (.Name x pos) X.env) Q E s:=by
 obtain ⟨mb,h1,h2⟩:=I.mod.blt
 exact Calls.Name_function_global I.ok.kind hg (Calls.loadGlobal_builtin (by rw [I.ok.glob]; exact I.mod.glob.keeps I.bk) hm (by rw [I.ok.blt]; exact h1.keeps I.bk) ((h2 x hn).trans hv) h) hd
theorem pe_glob {x:Str} {v:V} {u:Value} {pos:Pos} (hg:Gl X x) (hm:X.mg x=some u) (r:RelV v u) (hd:(x == ("__debug__" : Str))=false:=by decide):PE X (.Name x pos) (tC v) :=
 fun _ _ _ H _ I h=>ld_glob I hg hm ⟨v,H,I,r,h⟩ hd
theorem pe_bltn {x:Str} {v:V} {u:Value} {pos:Pos} (hg:Gl X x) (hm:X.mg x=none) (hv:bootBuiltins x=some u) (r:RelV v u) (hn:x ≠ "__name__" := by decide) (hd:(x == ("__debug__" : Str))=false:=by decide):PE X (.Name x pos) (tC v) :=
 fun _ _ _ H _ I h=>ld_blt I hg hm hv ⟨v,H,I,r,h⟩ hn hd
variable {a b:Expr} {ta tb:TE} {pos:Pos}
def PC (X:Cx) (op:CmpOp) (a b:Expr) (t:TE):Prop :=
 ∀ (pins:List (Addr × Obj)) (s:Shared) (σ:St) (H:Hp) (Q:VK),Inv X pins σ H s→t σ H Q →
  wpAny (model X.prog X.w) X.A (eval a X.env) (fun v s₁=>wpAny (model X.prog X.w) X.A (eval b X.env) (fun u s₂=>wpAny (model X.prog X.w) X.A (compareOp op v u) (EP X pins σ Q) X.xe s₂) X.xe s₁) X.xe s
theorem nobehind (b:Expr) {op:CmpOp} (h:op ≠ .In) (h2:op ≠ .NotIn):behindInMarks op b=false:=by
 have e1:(op == CmpOp.In)=false:=by cases op <;> first | rfl | exact absurd rfl h
 have e2:(op == CmpOp.NotIn)=false:=by cases op <;> first | rfl | exact absurd rfl h2
 cases b <;> simp [behindInMarks,e1,e2]
def tIsN (ta:TE):TE:=fun σ H Q=>ta σ H fun x H1=>Q (.bl (decide (x=.non))) H1
def tNotN (ta:TE):TE:=fun σ H Q=>ta σ H fun x H1=>Q (.bl (!decide (x=.non))) H1
theorem RelV.none_iff {x:V} {v:Value} (r:RelV x v):(v == Value.none)=decide (x=.non):=by
 cases x with
 | non=>cases r; rfl
 | bl _=>cases r; rfl
 | int _=>obtain ⟨t,rfl⟩:=r; rfl
 | str _=>obtain ⟨t,rfl⟩:=r; rfl
 | byt _=>obtain ⟨t,rfl⟩:=r; rfl
 | flt _=>obtain ⟨t,rfl⟩:=r; rfl
 | ref _=>cases r; rfl
 | ty _=>cases r; rfl
theorem pc_isN {j pos'} (ha:PE X a ta):PC X .Is a (.Constant .none j pos') (tIsN ta):=by
 intro pins s σ H Q I h
 refine thn (ha pins s σ H _ I h) fun v s1 ⟨x,H1,I1,r1,q1⟩=>?_
 exact Constant_none (is_none_gen ⟨.bl _,H1,I1,by rw [r1.none_iff]; rfl,q1⟩)
theorem pc_notN {j pos'} (ha:PE X a ta):PC X .IsNot a (.Constant .none j pos') (tNotN ta):=by
 intro pins s σ H Q I h
 refine thn (ha pins s σ H _ I h) fun v s1 ⟨x,H1,I1,r1,q1⟩=>?_
 exact Constant_none (isnot_none_gen ⟨.bl _,H1,I1,by rw [r1.none_iff]; rfl,q1⟩)
def tB (t:TE):TT:=fun σ H Q=>t σ H fun x H1=>∃ c,x=.bl c∧Q c H1
theorem pt_cmp {op:CmpOp} {t:TE} (h:PC X op a b t) (h1:behindInMarks op b=false:=by first | exact nobehind _ (by decide) (by decide) | rfl):PT X (.Compare a [op] [b] pos) (tB t):=by
 intro pins s σ H Q I hw
 refine wpAny_isTrue_Compare1 (thn (h pins s σ H _ I hw) fun v s1 h1=>thn h1 fun u s2 h2=>thn h2 fun c s3 ⟨x,H1,I1,r1,q1⟩=>?_) h1
 obtain ⟨d,rfl,q⟩:=q1
 cases r1
 exact wpAny_truthy_bool ⟨H1,I1,q⟩
theorem pt_val {e:Expr} {t:TE} (h:PE X e t) (he:∀ whole,isTrue e X.env whole=(do let v ← whole; standAt e.pos; holding [v] (truthy v)):=by intro _; rfl):PT X e (tB t):=by
 intro pins s σ H Q I hw
 refine isTrue_plain (thn (h pins s σ H _ I hw) fun v s1 ⟨x,H1,I1,r1,q1⟩=>?_) (he _)
 obtain ⟨d,rfl,q⟩:=q1
 cases r1
 exact wpAny_truthy_bool ⟨H1,I1,q⟩
variable {tA tB':TT} {rest:List Expr}
def tAnd (t u:TT):TT:=fun σ H Q=>t σ H fun c H1=>if c=true then u σ H1 Q else Q false H1
def tOr (t u:TT):TT:=fun σ H Q=>t σ H fun c H1=>if c=true then Q true H1 else u σ H1 Q
def tNot (t:TT):TT:=fun σ H Q=>t σ H fun c H1=>Q (!c) H1
theorem pw_and1 (ha:PT X a tA):PW X (.BoolOp .And [a] pos) tA:=by
 intro wh pins s σ H Q I h
 refine isTrue_and (thn (ha pins s σ H Q I h) fun c s1 e=>?_)
 cases c with
 | true=>exact isTrue_and_nil e
 | false=>exact e
theorem pw_or1 (ha:PT X a tA):PW X (.BoolOp .Or [a] pos) tA:=by
 intro wh pins s σ H Q I h
 refine isTrue_or (thn (ha pins s σ H Q I h) fun c s1 e=>?_)
 cases c with
 | false=>exact isTrue_or_nil e
 | true=>exact e
theorem pw_and (ha:PT X a tA) (hb:PW X (.BoolOp .And (b :: rest) pos) tB'):PW X (.BoolOp .And (a :: b :: rest) pos) (tAnd tA tB'):=by
 intro wh pins s σ H Q I h
 refine isTrue_and (thn (ha pins s σ H _ I h) fun c s1 ⟨H1,I1,q1⟩=>?_)
 cases c with
 | true=>exact hb wh pins s1 σ H1 Q I1 q1
 | false=>exact ⟨H1,I1,q1⟩
theorem pw_or (ha:PT X a tA) (hb:PW X (.BoolOp .Or (b :: rest) pos) tB'):PW X (.BoolOp .Or (a :: b :: rest) pos) (tOr tA tB'):=by
 intro wh pins s σ H Q I h
 refine isTrue_or (thn (ha pins s σ H _ I h) fun c s1 ⟨H1,I1,q1⟩=>?_)
 cases c with
 | true=>exact ⟨H1,I1,q1⟩
 | false=>exact hb wh pins s1 σ H1 Q I1 q1
theorem pt_not (ha:PT X a tA):PT X (.UnaryOp .Not a pos) (tNot tA):=by
 intro pins s σ H Q I h
 exact isTrue_not (ha pins s σ H (fun c H1=>Q (!c) H1) I h)
def tAndV (ta tb:TE):TE:=fun σ H Q=>ta σ H fun x H1=>∃ c,x=.bl c∧if c=true then tb σ H1 Q else Q (.bl false) H1
def tNotV (ta:TE):TE:=fun σ H Q=>ta σ H fun x H1=>∃ c,x=.bl c∧Q (.bl (!c)) H1
theorem pe_one {op} {t:TE} (h:PE X a t):PE X (.BoolOp op [a] pos) t:=fun pins s σ H Q I hw=>BoolOp_one (h pins s σ H Q I hw)
theorem pe_and (ha:PE X a ta) (hb:PE X (.BoolOp .And (b :: rest) pos) tb):PE X (.BoolOp .And (a :: b :: rest) pos) (tAndV ta tb):=by
 intro pins s σ H Q I h
 refine BoolOp_and (thn (ha pins s σ H _ I h) fun v s1 ⟨x,H1,I1,r1,q1⟩=>?_)
 obtain ⟨c,rfl,q1⟩:=q1
 cases r1
 refine wpAny_truthy_bool ?_
 cases c with
 | true=>exact hb pins s1 σ H1 Q I1 q1
 | false=>exact ⟨.bl false,H1,I1,rfl,q1⟩
theorem pe_not (ha:PE X a ta):PE X (.UnaryOp .Not a pos) (tNotV ta):=by
 intro pins s σ H Q I h
 refine UnaryOp_ (thn (ha pins s σ H _ I h) fun v s1 ⟨x,H1,I1,r1,q1⟩=>?_)
 obtain ⟨c,rfl,q1⟩:=q1
 cases r1
 exact not_of (wpAny_truthy_bool ⟨.bl (!c),H1,I1,rfl,q1⟩)
def tIf (t:TT) (ta tb:TE):TE:=fun σ H Q=>t σ H fun c H1=>if c=true then ta σ H1 Q else tb σ H1 Q
theorem pe_ifExp {c:Expr} (hc:PT X c tA) (ha:PE X a ta) (hb:PE X b tb):PE X (.IfExp c a b pos) (tIf tA ta tb):=by
 intro pins s σ H Q I h
 refine wpAny_IfExp (thn (hc pins s σ H _ I h) fun d s1 ⟨H1,I1,q1⟩=>?_)
 cases d with
 | true=>exact ha pins s1 σ H1 Q I1 q1
 | false=>exact hb pins s1 σ H1 Q I1 q1
end
end L2
namespace L2
open PySem PySem.Spec PyProof.Rows
def SqL (K:PySem.W.Frag) (H:Hp) (a:Addr) (xs:List V):Prop :=
 Rd H a (.lst xs) ∨
  ∃ (o:Obj) (its:Array Value) (n:Nat),K.lookup a=some o∧o.cls=.type "list" ∧ o.dict=none∧o.data=.seq its n∧its.size≤sizeLine∧Vals xs its.toList
def SqT (K:PySem.W.Frag) (H:Hp) (a:Addr) (xs:List V):Prop :=
 Rd H a (.tup xs) ∨
  ∃ (o:Obj) (its:Array Value) (n:Nat),K.lookup a=some o∧o.cls=.type "tuple" ∧ o.data=.seq its n∧its.size≤sizeLine∧Vals xs its.toList
def absV:Value→Option V
 | .none=>some .non
 | .bool b=>some (.bl b)
 | .int i _=>some (.int i)
 | .str x _=>some (.str x)
 | .bytes b _=>some (.byt b)
 | .float b _=>some (.flt b)
 | .ref a=>some (.ref a)
 | .type n=>some (.ty n)
 | _=>none
theorem RelV.abs {x:V} {u:Value} (r:RelV x u):absV u=some x:=by
 cases x with
 | non=>cases r; rfl
 | bl _=>cases r; rfl
 | int _=>obtain ⟨t,rfl⟩:=r; rfl
 | str _=>obtain ⟨t,rfl⟩:=r; rfl
 | byt _=>obtain ⟨t,rfl⟩:=r; rfl
 | flt _=>obtain ⟨t,rfl⟩:=r; rfl
 | ref _=>cases r; rfl
 | ty _=>cases r; rfl
theorem RelV.inj {x y:V} {u:Value} (r:RelV x u) (q:RelV y u):x=y:=Option.some.inj (r.abs.symm.trans q.abs)
theorem Vals.inj:∀ {xs ys:List V} {us:List Value},Vals xs us→Vals ys us→xs=ys
 | _,_,_,.nil,.nil=>rfl
 | _,_,_,.cons r t,.cons r' t'=>by rw [r.inj r',Vals.inj t t']
section
variable {X:Cx} {pins:List (Addr × Obj)} {σ:St} {H:Hp} {s:Shared} {a:Addr} {xs ys:List V}
theorem SqL.of {K:PySem.W.Frag} (h:H a=some (.lst xs)):SqL K H a xs:=.inl (.inl h)
theorem SqT.of {K:PySem.W.Frag} (h:H a=some (.tup xs)):SqT K H a xs:=.inl (.inl h)
theorem Inv.list (I:Inv X pins σ H s) (h:SqL X.K H a xs):∃ its:List Value,Vals xs its∧PlainL s.heap a its.toArray∧xs.length≤sizeLine:=by
 rcases h with h | ⟨o,its,n,hk,hc,hd,hs,hz,r⟩
 ·obtain ⟨z,its,n,r,e⟩:=h.ok I.hok
  exact ⟨its,r,⟨_,n,e,rfl,rfl,rfl⟩,z⟩
 ·refine ⟨its.toList,r,⟨o,n,I.kIn a o hk,hc,hd,by simpa using hs⟩,?_⟩
  have e:=r.length
  simp only [Array.length_toList] at e
  omega
theorem Inv.tuple (I:Inv X pins σ H s) (h:SqT X.K H a xs):∃ its:List Value,Vals xs its∧IsTup s.heap a its.toArray∧xs.length≤sizeLine:=by
 rcases h with h | ⟨o,its,n,hk,hc,hs,hz,r⟩
 ·obtain ⟨z,its,r,p⟩:=h.ok I.hok
  exact ⟨its,r,p,z⟩
 ·refine ⟨its.toList,r,⟨o,I.kIn a o hk,hc,n,by simpa using hs⟩,?_⟩
  have e:=r.length
  simp only [Array.length_toList] at e
  omega
theorem Inv.list_inj (I:Inv X pins σ H s) (h:SqL X.K H a xs) (h':SqL X.K H a ys):xs=ys:=by
 obtain ⟨its,r,⟨o,n,e,_,_,d⟩,_⟩:=I.list h
 obtain ⟨its',r',⟨o',n',e',_,_,d'⟩,_⟩:=I.list h'
 rw [e] at e'; cases e'
 rw [d] at d'
 injection d' with d1 _
 have:its=its':=by simpa using congrArg Array.toList d1
 subst this
 exact r.inj r'
theorem Inv.tuple_inj (I:Inv X pins σ H s) (h:SqT X.K H a xs) (h':SqT X.K H a ys):xs=ys:=by
 obtain ⟨its,r,⟨o,e,_,n,d⟩,_⟩:=I.tuple h
 obtain ⟨its',r',⟨o',e',_,n',d'⟩,_⟩:=I.tuple h'
 rw [e] at e'; cases e'
 rw [d] at d'
 injection d' with d1 _
 have:its=its':=by simpa using congrArg Array.toList d1
 subst this
 exact r.inj r'
end
abbrev Cx.wish (X:Cx) (E:Value→Shared→Prop):Cx:={ X with xe:=E }
abbrev Cx.nox (X:Cx):Cx:=X.wish fun _ _=>False
theorem Cx.Ok.wish {X:Cx} (ok:X.Ok) (E:Value→Shared→Prop):(X.wish E).Ok :=
 ⟨ok.mod,ok.kind,ok.glob,ok.blt,ok.above,ok.inj,ok.has,ok.cab,ok.hd,ok.frames,ok.stk,ok.exf,ok.bs,ok.bsz,ok.noex,ok.exfs,ok.funs,ok.frf⟩
theorem Cx.Ok.unwish {X:Cx} {E:Value→Shared→Prop} (ok:(X.wish E).Ok):X.Ok :=
 ⟨ok.mod,ok.kind,ok.glob,ok.blt,ok.above,ok.inj,ok.has,ok.cab,ok.hd,ok.frames,ok.stk,ok.exf,ok.bs,ok.bsz,ok.noex,ok.exfs,ok.funs,ok.frf⟩
section
variable {X:Cx} {pins:List (Addr × Obj)} {σ:St} {H:Hp} {s:Shared} {E:Value→Shared→Prop}
theorem Inv.wish (I:Inv X pins σ H s) (E:Value→Shared→Prop):Inv (X.wish E) pins σ H s:=⟨I.ok.wish E,I.os,I.bare,I.base,I.loc,I.cell,I.free,I.freeC,I.pin,I.hok,I.len⟩
theorem Inv.unwish (I:Inv (X.wish E) pins σ H s):Inv X pins σ H s:=⟨I.ok.unwish,I.os,I.bare,I.base,I.loc,I.cell,I.free,I.freeC,I.pin,I.hok,I.len⟩
theorem SP.unwish {D:Ends} {f:Flow} {s':Shared} (h:SP (X.wish E) pins D f s'):SP X pins D f s':=by
 cases f with
 | next=>obtain ⟨σ',H',I,q⟩:=h; exact ⟨σ',H',I.unwish,q⟩
 | brk=>obtain ⟨σ',H',I,q⟩:=h; exact ⟨σ',H',I.unwish,q⟩
 | cont=>obtain ⟨σ',H',I,q⟩:=h; exact ⟨σ',H',I.unwish,q⟩
 | ret u=>obtain ⟨v,σ',H',I,r,q⟩:=h; exact ⟨v,σ',H',I.unwish,r,q⟩
theorem PSs.nox {st:List Stmt} {t:TS} (h:PSs X.nox st t):PSs X st t:=fun pins s σ H D I hw =>
 wpAny_mono (h pins s σ H D (I.wish _) hw) (fun _ _ q=>q.unwish) fun _ _ z=>False.elim z
end
section
variable {X:Cx} {st:Stmt} {rest:List Stmt} {t u:TS} {e:Expr} {te:TE} {pos:Pos}
def tNext:TS:=fun D σ H=>D.nx σ H
def tSeq (t u:TS):TS:=fun D σ H=>t { D with nx:=u D } σ H
theorem pss_nil:PSs X [] tNext:=fun _ _ σ H _ I h=>wpAny_execs_nil ⟨σ,H,I,h⟩
theorem pss_cons (h1:PS X st t) (h2:PSs X rest u):PSs X (st :: rest) (tSeq t u):=by
 intro pins s σ H D I h
 refine wpAny_execs_cons (thn (h1 pins s σ H { D with nx:=u D } I h) fun f s1 q=>?_)
 cases f with
 | next =>
  obtain ⟨σ',H',I',q⟩:=q
  exact h2 pins s1 σ' H' D I' q
 | ret v=>exact q
 | brk=>exact q
 | cont=>exact q
theorem pss_one (h1:PS X st t):PSs X [st] t:=by
 intro pins s σ H D I h
 refine wpAny_execs_cons (thn (h1 pins s σ H D I h) fun f s1 q=>?_)
 cases f with
 | next=>exact wpAny_execs_nil q
 | ret v=>exact q
 | brk=>exact q
 | cont=>exact q
theorem Inv.quiet {pins:List (Addr × Obj)} {σ:St} {H:Hp} {s:Shared} (I:Inv X pins σ H s):interactive X.env=false:=by simp [interactive,I.ok.kind]
def tDrop (te:TE):TS:=fun D σ H=>te σ H fun _ H1=>D.nx σ H1
theorem ps_expr (he:PE X e te) (hs:swapsWith e none pos.line X.env=pure false:=by rfl):PS X (.Expr e pos) (tDrop te):=by
 intro pins s σ H D I h
 exact wpAny_Expr_any (thn (he pins s σ H _ I h) fun v s1 ⟨x,H1,I1,r1,q1⟩=>⟨σ,H1,I1,q1⟩) I.quiet hs
def tRet (te:TE):TS:=fun D σ H=>te σ H D.rt
theorem ps_ret (he:PE X e te):PS X (.Return (some e) pos) (tRet te):=by
 intro pins s σ H D I h
 exact wpAny_Return_some (thn (he pins s σ H _ I h) fun v s1 ⟨x,H1,I1,r1,q1⟩=>⟨x,σ,H1,I1,r1,q1⟩)
def tIfS (c:TT) (t u:TS):TS:=fun D σ H=>c σ H fun b H1=>if b=true then t D σ H1 else u D σ H1
theorem ps_if {c:Expr} {a b:List Stmt} {tc:TT} (hc:PT X c tc) (ha:PSs X a t) (hb:PSs X b u):PS X (.If c a b pos) (tIfS tc t u):=by
 intro pins s σ H D I h
 refine wpAny_If (thn (hc pins s σ H _ I h) fun d s1 ⟨H1,I1,q1⟩=>?_)
 cases d with
 | true=>exact ha pins s1 σ H1 D I1 q1
 | false=>exact hb pins s1 σ H1 D I1 q1
def tNever:TS:=fun _ _ _=>False
theorem ps_never:PS X st tNever:=fun _ _ _ _ _ _ h=>h.elim
theorem pss_never {sts:List Stmt}:PSs X sts tNever:=fun _ _ _ _ _ _ h=>h.elim
end
abbrev TG:=V→St→Hp→(St→Hp→Prop)→Prop
abbrev TGs:=List V→St→Hp→(St→Hp→Prop)→Prop
def PG (X:Cx) (target:Expr) (t:TG):Prop :=
 ∀ (pins:List (Addr × Obj)) (s:Shared) (σ:St) (H:Hp) (v:V) (u:Value) (Q:St→Hp→Prop),Inv X pins σ H s→RelV v u→t v σ H Q →
  wpAny (model X.prog X.w) X.A (assign target X.env u) (fun _ s'=>∃ σ' H',Inv X pins σ' H' s'∧Q σ' H') X.xe s
def PGs (X:Cx) (ts:List Expr) (t:TGs):Prop :=
 ∀ (pins:List (Addr × Obj)) (s:Shared) (σ:St) (H:Hp) (vs:List V) (us:List Value) (Q:St→Hp→Prop),Inv X pins σ H s→Vals vs us→t vs σ H Q →
  wpAny (model X.prog X.w) X.A (assignInOrder ((assignEach ts X.env).map (·.2)) us) (fun _ s'=>∃ σ' H',Inv X pins σ' H' s'∧Q σ' H') X.xe s
section
variable {X:Cx} {pos:Pos}
def gName (i:Nat):TG:=fun v σ H Q=>Q (σ.set i (some v)) H
theorem pg_name {i:Nat} {x:Str} (hN:X.N.Nodup) (hi:X.N[i]?=some x) (hx:Loc X.env.scope x) (hf:X.fn x=true ∨ X.env.scope.names.lookup x=some .local:=by first | exact .inl rfl | exact .inr rfl | assumption):PG X (.Name x pos) (gName i):=by
 intro pins s σ H v u Q I r h
 exact wpAny_assign_Name (store_ok I hN hi hx r (fun s' I'=>⟨_,H,I',h⟩) hf)
def gNil:TGs:=fun vs σ H Q=>vs=[]∧Q σ H
def gCons (t:TG) (u:TGs):TGs:=fun vs σ H Q=>∃ v r,vs=v :: r∧t v σ H fun σ' H'=>u r σ' H' Q
theorem pgs_nil:PGs X [] gNil:=by
 intro pins s σ H vs us Q I r h
 obtain ⟨e,h⟩:=h
 subst e
 cases r
 exact assignInOrder_nil ⟨σ,H,I,h⟩
theorem pgs_cons {e:Expr} {es:List Expr} {t:TG} {u:TGs} (h1:PG X e t) (h2:PGs X es u)
  (hs:(assignEach (e :: es) X.env).map (·.2)=assign e X.env :: (assignEach es X.env).map (·.2):=by rfl):PGs X (e :: es) (gCons t u):=by
 intro pins s σ H vs us Q I r h
 obtain ⟨v,vr,e1,h⟩:=h
 subst e1
 cases r with
 | cons r rr =>
  rw [hs]
  refine assignInOrder_cons (thn (h1 pins s σ H _ _ _ I r h) fun _ s1 ⟨σ1,H1,I1,q1⟩=>?_)
  exact h2 pins s1 σ1 H1 _ _ Q I1 rr q1
def tAsg (te:TE) (g:TG):TS:=fun D σ H=>te σ H fun x H1=>g x σ H1 D.nx
theorem ps_asg {tg e:Expr} {te:TE} {g:TG} (he:PE X e te) (hg:PG X tg g) (hs:swapsWithSole [tg] e pos.line X.env=pure false:=by rfl) (hw:swappedStores [tg] e X.env=pure none:=by rfl)
  (h1:(assignEach [tg] X.env).map (·.2)=[assign tg X.env]:=by rfl):PS X (.Assign [tg] e pos) (tAsg te g):=by
 intro pins s σ H D I h
 refine wpAny_Assign_stores (thn (he pins s σ H _ I h) fun v s1 ⟨x,H1,I1,r1,q1⟩=>?_) hs hw
 rw [h1]
 exact thn (hg pins s1 σ H1 x v _ I1 r1 q1) fun _ s2 q=>q
theorem ps_set {i:Nat} {x:Str} {e:Expr} {te:TE} {pos':Pos} (hN:X.N.Nodup) (hi:X.N[i]?=some x) (hx:Loc X.env.scope x) (he:PE X e te) (hs:swapsWith e (some (.Name x pos')) pos.line X.env=pure false:=by rfl) (hf:X.fn x=true ∨ X.env.scope.names.lookup x=some .local:=by first | exact .inl rfl | exact .inr rfl | assumption) :
  PS X (.Assign [.Name x pos'] e pos) (tAsg te (gName i)):=by
 intro pins s σ H D I h
 refine wpAny_Assign_Name (thn (he pins s σ H _ I h) fun v s1 ⟨y,H1,I1,r1,q1⟩=>?_) hs
 exact store_ok I1 hN hi hx r1 (fun s2 I2=>⟨_,H1,I2,q1⟩) hf
end
section
variable {X:Cx} {pos:Pos}
def tWhile (c:TT) (tb:TS):TS:=fun D σ H=>∃ W:Nat→St→Hp→Prop,(∃ m,W m σ H)∧∀ m σ H,W m σ H →
 c σ H fun b H1=>if b=true then ∃ N:St→Hp→Prop,(∀ σ' H',N σ' H'→∃ m',m' < m∧W m' σ' H')∧tb { D with nx:=N,ct:=N,bk:=D.nx } σ H1 else D.nx σ H1
theorem ps_while {c:Expr} {body:List Stmt} {tc:TT} {tb:TS} (hp:PassesOwn (model X.prog X.w) X.A X.env X.xe) (hc:PT X c tc) (hb:PSs X body tb):PS X (.While c body [] pos) (tWhile tc tb):=by
 intro pins s σ H D I h
 obtain ⟨W,⟨m0,w0⟩,turn⟩:=h
 refine wpAny_While (codeAny_whileLoop (fun n s'=>∃ σ' H',Inv X pins σ' H' s'∧W n σ' H') ?_ m0 ⟨σ,H,I,w0⟩)
 rintro n s1 ⟨σ1,H1,I1,w1⟩
 refine wpAny_passesOwn hp (thn (hc pins s1 σ1 H1 _ I1 (turn n σ1 H1 w1)) fun b s2 ⟨H2,I2,q2⟩=>?_)
 cases b with
 | true =>
  obtain ⟨N,hN,q2⟩:=q2
  rw [if_pos rfl]
  refine wpAny_passesOwn hp (thn (hb pins s2 σ1 H2 _ I2 q2) fun f s3 q3=>?_)
  cases f with
  | next =>
   obtain ⟨σ3,H3,I3,n3⟩:=q3
   obtain ⟨m',hm,w3⟩:=hN σ3 H3 n3
   exact ⟨m',hm,σ3,H3,I3,w3⟩
  | cont =>
   obtain ⟨σ3,H3,I3,n3⟩:=q3
   obtain ⟨m',hm,w3⟩:=hN σ3 H3 n3
   exact ⟨m',hm,σ3,H3,I3,w3⟩
  | brk=>exact q3
  | ret v=>exact q3
 | false =>
  rw [if_neg Bool.false_ne_true]
  exact wpAny_execs_nil ⟨σ1,H2,I2,q2⟩
end
structure It where
 go:Nat→Hp→Prop
 yld:Nat→Hp→V→Hp→Prop
 stop:Nat→Hp→Prop
def FpOk (X:Cx) (pins:List (Addr × Obj)) (H:Hp) (b:Addr):Prop :=
 H b=none∧b ≠ X.env.locals∧b ∉ X.fs∧(b ∈ X.ex ∨ X.s₀.heap.objs.size≤b)∧(∀ x c,X.env.cells.lookup x=some c→c ≠ b)∧∀ p ∈ X.pn++pins,p.1 ≠ b
theorem Inv.fpOk {X:Cx} {pins:List (Addr × Obj)} {σ:St} {H H':Hp} {s:Shared} {b:Addr} (I:Inv X pins σ H s) (hb:s.heap.objs.size≤b) (hn:H' b=none):FpOk X pins H' b:=by
 refine ⟨hn,Nat.ne_of_gt (Nat.lt_of_lt_of_le I.lt hb),I.nofs hb,.inr (Nat.le_trans I.sz hb),fun x c e z=>?_,fun p hp z=>?_⟩
 ·obtain ⟨v,q⟩:=I.cell x c e
  exact absurd (Nat.lt_of_lt_of_le q.lt (by rw [z]; exact hb)) (Nat.lt_irrefl _)
 ·exact absurd (Nat.lt_of_lt_of_le (Heap.lt_size (I.pin p hp).1) (by rw [z]; exact hb)) (Nat.lt_irrefl _)
structure Turn (P:Program) (w:World) (K:PySem.W.Frag) (tg:Expr) (J:It) (fp:List Addr) (it:Addr) (tn:Nat→Heap→Prop):Prop where
 mem:it ∈ fp
 obj:∀ i h,tn i h→∀ b ∈ fp,∃ o,h.get? b=some o∧∀ v,o.data ≠ .cell v
 keep:∀ i h h',tn i h→(∀ b ∈ fp,∀ o,h.get? b=some o→h'.get? b=some o)→tn i h'
 item:∀ (X:Cx),X.prog=P→X.w=w→X.K=K→X.calm=true→∀ (i:Nat) (pins:List (Addr × Obj)) (s:Shared) (σ:St) (H:Hp) (E:Value→Shared→Prop),Inv X pins σ H s→(∀ b ∈ fp,FpOk X pins H b)→tn i s.heap→J.go i H →
  wpAny (model P w) X.A (pyNext (.ref it)) (fun r s1=>∃ u,r=some u ∧
   wpAny (model P w) X.A (letOwnedTupleGo tg (.ref it) u) (fun _ s2=>∃ x H',Inv X pins σ H' s2∧RelV x u∧J.yld i H x H'∧tn (i + 1) s2.heap∧∀ b ∈ fp,H' b=none) E s1) E s
 done:∀ (X:Cx),X.prog=P→X.w=w→X.K=K→X.calm=true→∀ (i:Nat) (pins:List (Addr × Obj)) (s:Shared) (σ:St) (H:Hp) (E:Value→Shared→Prop),Inv X pins σ H s→(∀ b ∈ fp,FpOk X pins H b)→tn i s.heap→J.stop i H →
  wpAny (model P w) X.A (pyNext (.ref it)) (fun r s1=>r=none∧Inv X pins σ H s1) E s
 self:∀ (A:Around) (i:Nat) (s:Shared) (Q:Value→Shared→Prop) (E:Value→Shared→Prop),tn i s.heap→Q (.ref it) s→wpAny (model P w) A (pyIter (.ref it)) Q E s
abbrev TI:=St→Hp→(It→Hp→Prop)→Prop
def PIE (X:Cx) (pins:List (Addr × Obj)) (σ:St) (tg:Expr) (R:It→Hp→Prop) (itv:Value) (s2:Shared):Prop :=
 ∃ (it:Addr) (fp:List Addr) (tn:Nat→Heap→Prop) (J:It) (H':Hp),itv=.ref it∧Inv X pins σ H' s2∧Turn X.prog X.w X.K tg J fp it tn∧tn 0 s2.heap∧(∀ b ∈ fp,FpOk X pins H' b)∧R J H'
def PI (X:Cx) (tg iter:Expr) (wi:TI):Prop :=
 ∀ (pins:List (Addr × Obj)) (s:Shared) (σ:St) (H:Hp) (R:It→Hp→Prop),Inv X pins σ H s→wi σ H R →
  wpAny (model X.prog X.w) X.A (eval iter X.env) (fun v s1=>wpAny (model X.prog X.w) X.A (pyIter v) (PIE X pins σ tg R) X.xe s1) X.xe s
theorem go_of {M:Model} {A:Around} {E:Value→Shared→Prop} {s:Shared} {tg:Expr} {it:Addr} {u:Value} {o:Obj} {n:String} {vs:Array Value} {Q:Unit→Shared→Prop} (ho:s.heap.get? it=some o) (hc:o.cls=.type n) (hd:o.data=.fields vs)
    (hn:["enumerate", "zip", "dict_itemiterator", "dict_reverseitemiterator", "odict_iterator", "itertools.zip_longest", "itertools.pairwise"].contains n=false) (hQ:Q () s):wpAny M A (letOwnedTupleGo tg (.ref it) u) Q E s:=by
  unfold letOwnedTupleGo
  cases tg <;> first
    | exact wpAny_pure hQ
    | (cases u <;> first
        | exact wpAny_pure hQ
        | (refine wpAny_bind (wpAny_load ho ?_)
           rw [hc, hd]
           show wpAny M A (if (["enumerate", "zip", "dict_itemiterator", "dict_reverseitemiterator", "odict_iterator", "itertools.zip_longest", "itertools.pairwise"].contains n && vs[0]? == some (rawInt _))=true then _ else _) Q E s
           rw [if_neg (by intro h; rw [hn, Bool.false_and] at h; cases h)]
           exact wpAny_pure hQ))
def Itl (K:PySem.W.Frag) (a:Addr):It :=
 ⟨fun i H=>∃ xs x,SqL K H a xs∧xs[i]?=some x,fun i H x H'=>H'=H∧∀ xs,SqL K H a xs→xs[i]?=some x,fun i H=>∃ xs,SqL K H a xs∧xs.length≤i⟩
def Itt (K:PySem.W.Frag) (a:Addr):It :=
 ⟨fun i H=>∃ xs x,SqT K H a xs∧xs[i]?=some x,fun i H x H'=>H'=H∧∀ xs,SqT K H a xs→xs[i]?=some x,fun i H=>∃ xs,SqT K H a xs∧xs.length≤i⟩
def Itr (lo:Int) (n:Nat):It:=⟨fun i _=>i < n,fun i H x H'=>H'=H∧x=.int (lo + i),fun i _=>n≤i⟩
theorem turn_list {P:Program} {w:World} {K:PySem.W.Frag} {tg:Expr} (a it:Addr):Turn P w K tg (Itl K a) [it] it (fun i h=>h.IsListIter it a i) where
 mem:=by simp
 obj:=fun i h st b hb=>by
  have e:b=it:=by simpa using hb
  subst e
  obtain ⟨o,e,c,d⟩:=st
  exact ⟨o,e,fun v z=>by rw [d] at z; cases z⟩
 keep:=fun i h h' st k=>st.at fun o e=>k it (by simp) o e
 item:=by
  intro X hP hw hK hc i pins s σ H E I hf st hg
  subst hP hw hK
  obtain ⟨xs,x,hq,hx⟩:=hg
  obtain ⟨its,rv,p,hz⟩:=I.list hq
  obtain ⟨u,hu,ru⟩:=rv.get hx
  obtain ⟨f0,f1,f2,f3,f4,f5⟩:=hf it (by simp)
  refine wpAny_pyNext_list_item st p.isList (x:=u) (by simpa using hu) fun h' st' sb=>?_
  have I1:Inv X pins σ H { s with heap:=h' }:=I.turned (t':=s.toks) (fun b o hb e=>(sb.2 b hb).trans e) f0 f1 f3 f4 f5
  obtain ⟨o,e,c,d⟩:=id st'
  exact ⟨u,rfl,go_of (s:={ s with heap:=h' }) e c d (by decide) ⟨x,H,I1,ru,⟨rfl,fun ys hy=>by rw [I.list_inj hy hq]; exact hx⟩,st',fun b hb=>(hf b hb).1⟩⟩
 done:=by
  intro X hP hw hK hc i pins s σ H E I hf st hg
  subst hP hw hK
  obtain ⟨xs,hq,hx⟩:=hg
  obtain ⟨its,rv,p,hz⟩:=I.list hq
  obtain ⟨f0,f1,f2,f3,f4,f5⟩:=hf it (by simp)
  have hl:=rv.length
  exact wpAny_pyNext_list_end (I.ok.hd hc) st p.isList (by simp; omega) fun h' eb=>⟨rfl,I.turned (t':=s.toks) (fun b o hb e=>eb b o hb e) f0 f1 f3 f4 f5⟩
 self:=fun _ _ _ _ _ st h=>wpAny_pyIter_listiter st h
theorem turn_tuple {P:Program} {w:World} {K:PySem.W.Frag} {tg:Expr} (a it:Addr):Turn P w K tg (Itt K a) [it] it (fun i h=>h.IsTupleIter it a i) where
 mem:=by simp
 obj:=fun i h st b hb=>by
  have e:b=it:=by simpa using hb
  subst e
  obtain ⟨o,e,c,d⟩:=st
  exact ⟨o,e,fun v z=>by rw [d] at z; cases z⟩
 keep:=fun i h h' st k=>st.at fun o e=>k it (by simp) o e
 item:=by
  intro X hP hw hK hc i pins s σ H E I hf st hg
  subst hP hw hK
  obtain ⟨xs,x,hq,hx⟩:=hg
  obtain ⟨its,rv,p,hz⟩:=I.tuple hq
  obtain ⟨u,hu,ru⟩:=rv.get hx
  obtain ⟨f0,f1,f2,f3,f4,f5⟩:=hf it (by simp)
  refine wpAny_pyNext_tuple_item st (show s.heap.IsTuple a its.toArray from p) (x:=u) (by simpa using hu) fun h' st' sb=>?_
  have I1:Inv X pins σ H { s with heap:=h' }:=I.turned (t':=s.toks) (fun b o hb e=>(sb.2 b hb).trans e) f0 f1 f3 f4 f5
  obtain ⟨o,e,c,d⟩:=id st'
  exact ⟨u,rfl,go_of (s:={ s with heap:=h' }) e c d (by decide) ⟨x,H,I1,ru,⟨rfl,fun ys hy=>by rw [I.tuple_inj hy hq]; exact hx⟩,st',fun b hb=>(hf b hb).1⟩⟩
 done:=by
  intro X hP hw hK hc i pins s σ H E I hf st hg
  subst hP hw hK
  obtain ⟨xs,hq,hx⟩:=hg
  obtain ⟨its,rv,p,hz⟩:=I.tuple hq
  obtain ⟨f0,f1,f2,f3,f4,f5⟩:=hf it (by simp)
  have hl:=rv.length
  exact wpAny_pyNext_tuple_end (I.ok.hd hc) st (show s.heap.IsTuple a its.toArray from p) (by simp; omega) fun h' eb=>⟨rfl,I.turned (t':=s.toks) (fun b o hb e=>eb b o hb e) f0 f1 f3 f4 f5⟩
 self:=fun _ _ _ _ _ st h=>wpAny_pyIter_tupleiter st h
theorem turn_range {P:Program} {w:World} {K:PySem.W.Frag} {tg:Expr} (it:Addr) (lo:Int) (n:Nat):Turn P w K tg (Itr lo n) [it] it (fun i h=>IsRangeIter h it (lo + (i:Nat) * 1) ((n:Int) - (i:Nat)) 1) where
 mem:=by simp
 obj:=fun i h st b hb=>by
  have e:b=it:=by simpa using hb
  subst e
  exact ⟨_,st,fun v z=>by
   have z':Data.fields _=Data.cell v:=z
   cases z'⟩
 keep:=fun i h h' st k=>k it (by simp) _ st
 item:=by
  intro X hP hw hK hc i pins s σ H E I hf st hg
  subst hP hw hK
  obtain ⟨f0,f1,f2,f3,f4,f5⟩:=hf it (by simp)
  have W:=Walks.range (prog:=X.prog) (w:=X.w) (I.ok.hd hc) it lo 1 n
  refine W.item i s _ _ hg st fun v h' tk hv st' kk=>?_
  obtain ⟨t,rfl⟩:=hv
  have I1:Inv X pins σ H { s with heap:=h',toks:=tk }:=I.turned (fun b o hb e=>kk b o (by simpa using hb) e) f0 f1 f3 f4 f5
  refine ⟨_,rfl,go_of (s:={ s with heap:=h',toks:=tk }) (n := "range_iterator") st' rfl rfl (by decide) ⟨.int (lo + i),H,I1,⟨t,?_⟩,⟨rfl,rfl⟩,st',fun b hb=>(hf b hb).1⟩⟩
  rw [Int.mul_one]
 done:=by
  intro X hP hw hK hc i pins s σ H E I hf st hg
  subst hP hw hK
  obtain ⟨f0,f1,f2,f3,f4,f5⟩:=hf it (by simp)
  exact wpAny_pyNext_range_end (I.ok.hd hc) st (by have:n≤i:=hg; omega) fun h' eb=>⟨rfl,I.turned (t':=s.toks) (fun b o hb e=>eb b o hb e) f0 f1 f3 f4 f5⟩
 self:=fun _ _ _ _ _ st h=>wpAny_pyIter_rangeiter st h
end L2
namespace L2
open PySem PySem.Spec PyProof.Rows
section
variable {X:Cx} {tg:Expr}
def iList (K:PySem.W.Frag) (tl:TE):TI:=fun σ H R=>tl σ H fun x H1=>∃ a,x=.ref a∧(∃ xs,SqL K H1 a xs)∧R (Itl K a) H1
def iTup (K:PySem.W.Frag) (tl:TE):TI:=fun σ H R=>tl σ H fun x H1=>∃ a,x=.ref a∧(∃ xs,SqT K H1 a xs)∧R (Itt K a) H1
theorem pi_list {l:Expr} {tl:TE} (hl:PE X l tl):PI X tg l (iList X.K tl):=by
 intro pins s σ H R I h
 refine thn (hl pins s σ H _ I h) fun v s1 ⟨x,H1,I1,r1,q1⟩=>?_
 obtain ⟨a,e,⟨xs,hq⟩,q⟩:=q1
 subst e
 cases r1
 obtain ⟨its,rv,p,hz⟩:=I1.list hq
 refine wpAny_pyIter_list p.isList ?_
 refine ⟨s1.heap.objs.size,[s1.heap.objs.size],_,_,H1,rfl,I1.kept (t':=s1.toks) fun b o e=>Heap.get?_push_of_some _ e,turn_list a _,⟨_,Heap.get?_push_size _ rfl,rfl,rfl⟩,fun b hb=>?_,q⟩
 have e:b=s1.heap.objs.size:=by simpa using hb
 subst e
 exact I1.fpOk (Nat.le_refl _) (I1.hok.fresh (Nat.le_refl _))
theorem pi_tup {l:Expr} {tl:TE} (hl:PE X l tl):PI X tg l (iTup X.K tl):=by
 intro pins s σ H R I h
 refine thn (hl pins s σ H _ I h) fun v s1 ⟨x,H1,I1,r1,q1⟩=>?_
 obtain ⟨a,e,⟨xs,hq⟩,q⟩:=q1
 subst e
 cases r1
 obtain ⟨its,rv,p,hz⟩:=I1.tuple hq
 refine wpAny_pyIter_tuple (show s1.heap.IsTuple a its.toArray from p) ?_
 refine ⟨s1.heap.objs.size,[s1.heap.objs.size],_,_,H1,rfl,I1.kept (t':=s1.toks) fun b o e=>Heap.get?_push_of_some _ e,turn_tuple a _,⟨_,Heap.get?_push_size _ rfl,rfl,rfl⟩,fun b hb=>?_,q⟩
 have e:b=s1.heap.objs.size:=by simpa using hb
 subst e
 exact I1.fpOk (Nat.le_refl _) (I1.hok.fresh (Nat.le_refl _))
theorem range_it {pins:List (Addr × Obj)} {σ:St} {H:Hp} {s:Shared} {R:It→Hp→Prop} {E:Value→Shared→Prop} {lo hi:Int} {t u v:Tok} {tk:Nat} (I:Inv X pins σ H s) (h1:-(2 ^ 62)≤lo) (h2:lo < 2 ^ 62) (h3:-(2 ^ 62)≤hi) (h4:hi < 2 ^ 62)
  (q:R (Itr lo (hi - lo).toNat) H):wpAny (model X.prog X.w) X.A (pyIter (.ref s.heap.objs.size)) (PIE X pins σ tg R) E { s with heap:=s.heap.push { cls:=.type "range",data:=.fields #[.int lo t,.int hi u,.int 1 v] },toks:=tk }:=by
 refine wpAny_pyIter_range (IsRange.new ..) (small_one h1 h2 h3 h4) ?_
 have I1:Inv X pins σ H { s with heap:=s.heap.push { cls:=.type "range",data:=.fields #[.int lo t,.int hi u,.int 1 v] },toks:=tk }:=I.kept fun b o e=>Heap.get?_push_of_some _ e
 refine ⟨(s.heap.push { cls:=.type "range",data:=.fields #[.int lo t,.int hi u,.int 1 v] }).objs.size,[(s.heap.push { cls:=.type "range",data:=.fields #[.int lo t,.int hi u,.int 1 v] }).objs.size],_,_,H,rfl,
  I1.kept (t':=tk) fun b o e=>Heap.get?_push_of_some _ e,turn_range _ lo (hi - lo).toNat,?_,fun b hb=>?_,q⟩
 ·have e1:lo + ((0:Nat):Int) * 1=lo:=by simp
  have e2:(((hi - lo).toNat:Nat):Int) - ((0:Nat):Int)=Builtin.Range.rangeSize lo hi 1:=by rw [rangeSize_one]; split <;> omega
  show IsRangeIter _ _ (lo + ((0:Nat):Int) * 1) ((((hi - lo).toNat:Nat):Int) - ((0:Nat):Int)) 1
  rw [e1,e2]
  exact Heap.get?_push_size _ rfl
 ·have e:b=(s.heap.push { cls:=.type "range",data:=.fields #[.int lo t,.int hi u,.int 1 v] }).objs.size:=by simpa using hb
  subst e
  exact I1.fpOk (Nat.le_refl _) (I1.hok.fresh (Nat.le_refl _))
def iRng1 (ta:TA):TI:=fun σ H R=>ta σ H fun vs H1=>∃ j:Int,vs=[.int j]∧-(2 ^ 62)≤j∧j < 2 ^ 62∧R (Itr 0 j.toNat) H1
theorem pi_range1 {a:Expr} {ta:TA} {p pos:Pos} (hg:Gl X "range") (hm:X.mg "range" = none) (ha:PA X [a] ta) (hs:starEach [a] X.env=[(false,eval a X.env)]:=by rfl):PI X tg (.Call (.Name "range" p) [a] [] pos) (iRng1 ta):=by
 intro pins s σ H R I h
 refine Call_ (ld_blt I hg hm boot_range (PyProof.Rows.callWith_type1 (thn (ha pos pins s σ H _ I h) fun us s1 ⟨vs,H1,I1,r1,q1⟩=>?_) hs rfl))
 obtain ⟨j,e,q1,q2,q⟩:=q1
 subst e
 cases r1 with
 | cons r rr =>
  cases rr
  obtain ⟨t,rfl⟩:=r
  exact call_range_1 (range_it I1 (by omega) (by omega) q1 q2 (by simpa using q))
def tFor (wi:TI) (g:TG) (tb:TS):TS:=fun D σ H=>wi σ H fun J H1=>∃ W:Nat→Nat→St→Hp→Prop,(∃ m,W 0 m σ H1)∧∀ i m σ H,W i m σ H →
 (J.stop i H∧D.nx σ H) ∨ (J.go i H∧∃ N:St→Hp→Prop,(∀ σ' H',N σ' H'→∃ m',m' < m∧W (i + 1) m' σ' H')∧∀ x H',J.yld i H x H'→g x σ H' fun σ2 H2=>tb { D with nx:=N,ct:=N,bk:=D.nx } σ2 H2)
def pinsAt (fp:List Addr) (h:Heap):List (Addr × Obj):=fp.filterMap fun b=>(h.get? b).map fun o=>(b,o)
theorem mem_pinsAt {fp:List Addr} {h:Heap} {b:Addr} {o:Obj} (hb:b ∈ fp) (e:h.get? b=some o):(b,o) ∈ pinsAt fp h:=List.mem_filterMap.mpr ⟨b,hb,by rw [e]; rfl⟩
theorem of_pinsAt {fp:List Addr} {h:Heap} {p:Addr × Obj} (hp:p ∈ pinsAt fp h):p.1 ∈ fp∧h.get? p.1=some p.2:=by
 obtain ⟨b,hb,e⟩:=List.mem_filterMap.mp hp
 cases q:h.get? b with
 | none=>rw [q] at e; cases e
 | some o =>
  rw [q] at e
  have e':(b,o)=p:=Option.some.inj e
  subst e'
  exact ⟨hb,q⟩
theorem Inv.pinned {pins:List (Addr × Obj)} {σ:St} {H:Hp} {s:Shared} {fp:List Addr} (I:Inv X pins σ H s) (hf:∀ b ∈ fp,FpOk X pins H b) (ho:∀ b ∈ fp,∃ o,s.heap.get? b=some o∧∀ v,o.data ≠ .cell v):Inv X (pins++pinsAt fp s.heap) σ H s :=
 I.pins_of fun p hp=>(List.mem_append.mp hp).elim (fun z=>I.pin p (List.mem_append_right _ z)) fun z=>by
  obtain ⟨hb,e⟩:=of_pinsAt z
  obtain ⟨f0,f1,f2,_⟩:=hf p.1 hb
  obtain ⟨o,e',d⟩:=ho p.1 hb
  rw [e] at e'; cases e'
  exact ⟨e,f0,f1,f2,d⟩
theorem Inv.unpinned {pins pl:List (Addr × Obj)} {σ:St} {H:Hp} {s:Shared} (I:Inv X (pins++pl) σ H s):Inv X pins σ H s:=I.pins_of fun p hp=>I.pin p (List.mem_append_right _ (List.mem_append_left _ hp))
theorem ps_for {iter:Expr} {body:List Stmt} {wi:TI} {g:TG} {tb:TS} {pos:Pos} (hp:PassesOwn (model X.prog X.w) X.A X.env X.xe) (hc:X.calm=true) (hi:PI X tg iter wi) (hg:PG X tg g) (hb:PSs X body tb)
  (hs:∀ x,foldedSetIterable iter X.env x=pure x:=by intro _; rfl):PS X (.For tg iter body [] pos) (tFor wi g tb):=by
 intro pins s σ H D I h
 refine wpAny_For (thn (hi pins s σ H _ I h) fun v s1 h1=>thn h1 fun itv s2 h2=>?_) hs
 obtain ⟨it,fp,tn,J,H2,e,I2,T,st2,f2,W,⟨m0,w0⟩,turn⟩:=h2
 subst e
 have stat:∀ {H':Hp},(∀ b ∈ fp,H' b=none)→∀ b ∈ fp,FpOk X pins H' b:=fun hn b hb=>⟨hn b hb,(f2 b hb).2⟩
 refine codeAny_forLoop_any (fun n s'=>∃ i σ' H',Inv X pins σ' H' s'∧tn i s'.heap∧(∀ b ∈ fp,H' b=none)∧W i n σ' H') ?_ m0 ⟨0,σ,H2,I2,st2,fun b hb=>(f2 b hb).1,w0⟩
 rintro n s3 ⟨i,σ3,H3,I3,st3,fr3,w3⟩
 rcases turn i n σ3 H3 w3 with ⟨stop,qn⟩ | ⟨go,N,hN,step⟩
 ·refine wpAny_passesOwn hp (thn (T.done X rfl rfl rfl hc i pins s3 σ3 H3 X.xe I3 (stat fr3) st3 stop) fun r s4 ⟨hr,I4⟩=>?_)
  subst hr
  exact wpAny_execs_nil ⟨σ3,H3,I4,qn⟩
 ·refine wpAny_passesOwn hp (thn (T.item X rfl rfl rfl hc i pins s3 σ3 H3 X.xe I3 (stat fr3) st3 go) fun r s4 ⟨u,hr,h4⟩=>?_)
  subst hr
  refine wpAny_passesOwn hp (thn h4 fun _ s5 ⟨x,H5,I5,r5,y5,st5,fr5⟩=>?_)
  have I5':=I5.pinned (stat fr5) (T.obj _ _ st5)
  refine wpAny_passesOwn hp (thn (hg _ s5 σ3 H5 x u _ I5' r5 (step x H5 y5)) fun _ s6 ⟨σ6,H6,I6,q6⟩=>?_)
  refine wpAny_passesOwn hp (thn (hb _ s6 σ6 H6 _ I6 q6) fun f s7 q7=>?_)
  have again:∀ {σ7:St} {H7:Hp},Inv X (pins++pinsAt fp s5.heap) σ7 H7 s7→N σ7 H7→∃ m,m < n∧∃ i σ' H',Inv X pins σ' H' s7∧tn i s7.heap∧(∀ b ∈ fp,H' b=none)∧W i m σ' H':=fun {σ7 H7} I7 n7=>by
   obtain ⟨m',hm,w7⟩:=hN σ7 H7 n7
   refine ⟨m',hm,i + 1,σ7,H7,I7.unpinned,T.keep _ _ _ st5 fun b hb o e=>(I7.pin (b,o) (List.mem_append_right _ (List.mem_append_right _ (mem_pinsAt hb e)))).1,fun b hb=>?_,w7⟩
   obtain ⟨o,e,d⟩:=T.obj _ _ st5 b hb
   exact (I7.pin (b,o) (List.mem_append_right _ (List.mem_append_right _ (mem_pinsAt hb e)))).2.1
  cases f with
  | next=>obtain ⟨σ7,H7,I7,n7⟩:=q7; exact again I7 n7
  | cont=>obtain ⟨σ7,H7,I7,n7⟩:=q7; exact again I7 n7
  | brk=>obtain ⟨σ7,H7,I7,q7⟩:=q7; exact ⟨σ7,H7,I7.unpinned,q7⟩
  | ret v=>obtain ⟨x7,σ7,H7,I7,r7,q7⟩:=q7; exact ⟨x7,σ7,H7,I7.unpinned,r7,q7⟩
end
theorem for_list {K:PySem.W.Frag} {a:Addr} {xs:List V} {g:TG} {tb:TS} {D:Ends} {σ:St} {H:Hp} (Pv:Nat→St→Hp→Prop) (h0:Pv 0 σ H) (hl:∀ i σ H,i≤xs.length→Pv i σ H→SqL K H a xs)
  (hs:∀ i x σ H,xs[i]?=some x→Pv i σ H→g x σ H fun σ2 H2=>tb { D with nx:=Pv (i + 1),ct:=Pv (i + 1),bk:=D.nx } σ2 H2) (hd:∀ σ H,Pv xs.length σ H→D.nx σ H) :
  ∃ W:Nat→Nat→St→Hp→Prop,(∃ m,W 0 m σ H)∧∀ i m σ H,W i m σ H →
   ((Itl K a).stop i H∧D.nx σ H) ∨ ((Itl K a).go i H∧∃ N:St→Hp→Prop,(∀ σ' H',N σ' H'→∃ m',m' < m∧W (i + 1) m' σ' H')∧∀ x H',(Itl K a).yld i H x H'→g x σ H' fun σ2 H2=>tb { D with nx:=N,ct:=N,bk:=D.nx } σ2 H2):=by
 refine ⟨fun i m σ H=>m=xs.length - i∧i≤xs.length∧Pv i σ H,⟨xs.length,by simp,Nat.zero_le _,h0⟩,?_⟩
 rintro i m σ H ⟨rfl,hi,p⟩
 have q:=hl i σ H hi p
 by_cases hlt:i < xs.length
 ·refine .inr ⟨⟨xs,xs[i],q,by simp [hlt]⟩,Pv (i + 1),fun σ' H' p'=>⟨xs.length - (i + 1),by omega,rfl,hlt,p'⟩,fun x H' y=>?_⟩
  obtain ⟨e,y⟩:=y
  subst e
  exact hs i x σ _ (y xs q) p
 ·have e:i=xs.length:=by omega
  subst e
  exact .inl ⟨⟨xs,q,Nat.le_refl _⟩,hd σ H p⟩
theorem for_tup {K:PySem.W.Frag} {a:Addr} {xs:List V} {g:TG} {tb:TS} {D:Ends} {σ:St} {H:Hp} (Pv:Nat→St→Hp→Prop) (h0:Pv 0 σ H) (hl:∀ i σ H,i≤xs.length→Pv i σ H→SqT K H a xs)
  (hs:∀ i x σ H,xs[i]?=some x→Pv i σ H→g x σ H fun σ2 H2=>tb { D with nx:=Pv (i + 1),ct:=Pv (i + 1),bk:=D.nx } σ2 H2) (hd:∀ σ H,Pv xs.length σ H→D.nx σ H) :
  ∃ W:Nat→Nat→St→Hp→Prop,(∃ m,W 0 m σ H)∧∀ i m σ H,W i m σ H →
   ((Itt K a).stop i H∧D.nx σ H) ∨ ((Itt K a).go i H∧∃ N:St→Hp→Prop,(∀ σ' H',N σ' H'→∃ m',m' < m∧W (i + 1) m' σ' H')∧∀ x H',(Itt K a).yld i H x H'→g x σ H' fun σ2 H2=>tb { D with nx:=N,ct:=N,bk:=D.nx } σ2 H2):=by
 refine ⟨fun i m σ H=>m=xs.length - i∧i≤xs.length∧Pv i σ H,⟨xs.length,by simp,Nat.zero_le _,h0⟩,?_⟩
 rintro i m σ H ⟨rfl,hi,p⟩
 have q:=hl i σ H hi p
 by_cases hlt:i < xs.length
 ·refine .inr ⟨⟨xs,xs[i],q,by simp [hlt]⟩,Pv (i + 1),fun σ' H' p'=>⟨xs.length - (i + 1),by omega,rfl,hlt,p'⟩,fun x H' y=>?_⟩
  obtain ⟨e,y⟩:=y
  subst e
  exact hs i x σ _ (y xs q) p
 ·have e:i=xs.length:=by omega
  subst e
  exact .inl ⟨⟨xs,q,Nat.le_refl _⟩,hd σ H p⟩
theorem for_range {lo:Int} {n:Nat} {g:TG} {tb:TS} {D:Ends} {σ:St} {H:Hp} (Pv:Nat→St→Hp→Prop) (h0:Pv 0 σ H)
  (hs:∀ i σ H,i < n→Pv i σ H→g (.int (lo + i)) σ H fun σ2 H2=>tb { D with nx:=Pv (i + 1),ct:=Pv (i + 1),bk:=D.nx } σ2 H2) (hd:∀ σ H,Pv n σ H→D.nx σ H) :
  ∃ W:Nat→Nat→St→Hp→Prop,(∃ m,W 0 m σ H)∧∀ i m σ H,W i m σ H →
   ((Itr lo n).stop i H∧D.nx σ H) ∨ ((Itr lo n).go i H∧∃ N:St→Hp→Prop,(∀ σ' H',N σ' H'→∃ m',m' < m∧W (i + 1) m' σ' H')∧∀ x H',(Itr lo n).yld i H x H'→g x σ H' fun σ2 H2=>tb { D with nx:=N,ct:=N,bk:=D.nx } σ2 H2):=by
 refine ⟨fun i m σ H=>m=n - i∧i≤n∧Pv i σ H,⟨n,by simp,Nat.zero_le _,h0⟩,?_⟩
 rintro i m σ H ⟨rfl,hi,p⟩
 by_cases hlt:i < n
 ·refine .inr ⟨hlt,Pv (i + 1),fun σ' H' p'=>⟨n - (i + 1),by omega,rfl,hlt,p'⟩,fun x H' y=>?_⟩
  obtain ⟨e,y⟩:=y
  subst e y
  exact hs i σ _ hlt p
 ·have e:i=n:=by omega
  subst e
  exact .inl ⟨Nat.le_refl _,hd σ H p⟩
end L2
namespace L2
open PySem PySem.Spec PyProof.Rows
abbrev R2:=V→V→Hp→VK→Prop
def OpR (X:Cx) (f:Value→Value→Sem Value) (r:R2):Prop :=
 ∀ (pins:List (Addr × Obj)) (s:Shared) (σ:St) (H:Hp) (x y:V) (v u:Value) (Q:VK),Inv X pins σ H s→RelV x v→RelV y u→r x y H Q →
  wpAny (model X.prog X.w) X.A (f v u) (EP X pins σ Q) X.xe s
def UnR (X:Cx) (f:Value→Sem Value) (r:V→Hp→VK→Prop):Prop :=
 ∀ (pins:List (Addr × Obj)) (s:Shared) (σ:St) (H:Hp) (x:V) (v:Value) (Q:VK),Inv X pins σ H s→RelV x v→r x H Q →
  wpAny (model X.prog X.w) X.A (f v) (EP X pins σ Q) X.xe s
def CallR (X:Cx) (f:Value) (r:List V→Hp→VK→Prop):Prop :=
 ∀ (pins:List (Addr × Obj)) (s:Shared) (σ:St) (H:Hp) (xs:List V) (us:List Value) (Q:VK),Inv X pins σ H s→Vals xs us→r xs H Q →
  wpAny (model X.prog X.w) X.A (call f us) (EP X pins σ Q) X.xe s
def tOp (r:R2) (ta tb:TE):TE:=fun σ H Q=>ta σ H fun x H1=>tb σ H1 fun y H2=>r x y H2 Q
def tUn (r:V→Hp→VK→Prop) (ta:TE):TE:=fun σ H Q=>ta σ H fun x H1=>r x H1 Q
def rI (C:Int→Int→Prop) (g:Int→Int→V):R2:=fun x y H Q=>∃ i j,x=.int i∧y=.int j∧C i j∧Q (g i j) H
def rI0 (g:Int→Int→V):R2:=fun x y H Q=>∃ i j,x=.int i∧y=.int j∧Q (g i j) H
def rU (g:Int→V):V→Hp→VK→Prop:=fun x H Q=>∃ i,x=.int i∧Q (g i) H
section
variable {X:Cx} {a b c:Expr} {ta tb tc:TE} {pos:Pos}
theorem binT (ha:PE X a ta) (hb:PE X b tb) {pins:List (Addr × Obj)} {s:Shared} {σ:St} {H:Hp} {R:V→V→Hp→Prop} (I:Inv X pins σ H s)
  (h:ta σ H fun x H1=>tb σ H1 fun y H2=>R x y H2) {Q:Value→Shared→Prop} {f:Value→Value→Sem Value}
  (hf:∀ v u s2 x y H2,Inv X pins σ H2 s2→RelV x v→RelV y u→R x y H2→wpAny (model X.prog X.w) X.A (f v u) Q X.xe s2) :
  wpAny (model X.prog X.w) X.A (eval a X.env) (fun v s₁=>wpAny (model X.prog X.w) X.A (eval b X.env) (fun u s₂=>wpAny (model X.prog X.w) X.A (f v u) Q X.xe s₂) X.xe s₁) X.xe s:=by
 refine thn (ha pins s σ H _ I h) fun v s1 ⟨x,H1,I1,r1,q1⟩=>?_
 refine thn (hb pins s1 σ H1 _ I1 q1) fun u s2 ⟨y,H2,I2,r2,q2⟩=>?_
 exact hf v u s2 x y H2 I2 r1 r2 q2
theorem pe_op {op:Operator} {r:R2} (ho:OpR X (binaryOp op) r) (ha:PE X a ta) (hb:PE X b tb):PE X (.BinOp a op b pos) (tOp r ta tb):=by
 intro pins s σ H Q I h
 exact wpAny_BinOp (binT ha hb I h fun v u s2 x y H2 I2 rx ry q=>ho pins s2 σ H2 x y v u Q I2 rx ry q)
theorem pe_un {op:UnaryOp} {r:V→Hp→VK→Prop} (ho:UnR X (unaryOp op) r) (ha:PE X a ta):PE X (.UnaryOp op a pos) (tUn r ta):=by
 intro pins s σ H Q I h
 exact UnaryOp_ (thn (ha pins s σ H _ I h) fun v s1 ⟨x,H1,I1,r1,q1⟩=>ho pins s1 σ H1 x v Q I1 r1 q1)
theorem opI {f:Value→Value→Sem Value} {C:Int→Int→Prop} {g:Int→Int→Int}
  (rule:∀ (i j:Int) (t u:Tok) (s:Shared) (Q:Value→Shared→Prop) (E:Value→Shared→Prop),C i j→Q (.int (g i j) s.toks) { s with toks:=s.toks + 1 }→wpAny (model X.prog X.w) X.A (f (.int i t) (.int j u)) Q E s) :
  OpR X f (rI C fun i j=>.int (g i j)):=by
 intro pins s σ H x y v u Q I rx ry h
 obtain ⟨i,j,rfl,rfl,hc,q⟩:=h
 obtain ⟨t,rfl⟩:=rx
 obtain ⟨t',rfl⟩:=ry
 exact rule i j t t' s _ _ hc ⟨.int (g i j),H,I.tok _,⟨_,rfl⟩,q⟩
theorem opI0 {f:Value→Value→Sem Value} {g:Int→Int→Int}
  (rule:∀ (i j:Int) (t u:Tok) (s:Shared) (Q:Value→Shared→Prop) (E:Value→Shared→Prop),Q (.int (g i j) s.toks) { s with toks:=s.toks + 1 }→wpAny (model X.prog X.w) X.A (f (.int i t) (.int j u)) Q E s) :
  OpR X f (rI0 fun i j=>.int (g i j)):=by
 intro pins s σ H x y v u Q I rx ry h
 obtain ⟨i,j,rfl,rfl,q⟩:=h
 obtain ⟨t,rfl⟩:=rx
 obtain ⟨t',rfl⟩:=ry
 exact rule i j t t' s _ _ ⟨.int (g i j),H,I.tok _,⟨_,rfl⟩,q⟩
theorem opB0 {f:Value→Value→Sem Value} {g:Int→Int→Bool}
  (rule:∀ (i j:Int) (t u:Tok) (s:Shared) (Q:Value→Shared→Prop) (E:Value→Shared→Prop),Q (.bool (g i j)) s→wpAny (model X.prog X.w) X.A (f (.int i t) (.int j u)) Q E s) :
  OpR X f (rI0 fun i j=>.bl (g i j)):=by
 intro pins s σ H x y v u Q I rx ry h
 obtain ⟨i,j,rfl,rfl,q⟩:=h
 obtain ⟨t,rfl⟩:=rx
 obtain ⟨t',rfl⟩:=ry
 exact rule i j t t' s _ _ ⟨.bl (g i j),H,I,rfl,q⟩
def CDiv (i j:Int):Prop:=0 < j∧j < 1073741824
def CPow (i j:Int):Prop:=0≤j∧j≤1000000∧i.natAbs < 2 ^ 64
def CMul (i j:Int):Prop:=(-(2 ^ 64) < i∧i < 2 ^ 64) ∨ (-(2 ^ 64) < j∧j < 2 ^ 64)
theorem CMul.ok {i j:Int} (h:CMul i j):IntMulOk i j:=by
 rcases h with ⟨h1,h2⟩ | ⟨h1,h2⟩
 ·exact .of_left (intBits_le_64 h1 h2)
 ·exact .of_right (intBits_le_64 h1 h2)
theorem op_add:OpR X (binaryOp .Add) (rI0 fun i j=>.int (i + j)):=opI0 fun _ _ _ _ _ _ _ q=>add_int q
theorem op_sub:OpR X (binaryOp .Sub) (rI0 fun i j=>.int (i - j)):=opI0 fun _ _ _ _ _ _ _ q=>sub_int q
theorem op_mul:OpR X (binaryOp .Mult) (rI CMul fun i j=>.int (i * j)):=opI fun _ _ _ _ _ _ _ hc q=>mul_int q hc.ok
theorem op_fdiv:OpR X (binaryOp .FloorDiv) (rI CDiv fun i j=>.int (i / j)):=opI fun i j _ _ _ _ _ hc q=>by
 have h1:(0:Int) < j:=hc.1
 have h2:j < 1073741824:=hc.2
 exact floordiv_int (by omega) (by rw [Int.fdiv_eq_ediv_of_nonneg i (by omega)]; exact q) (.inl (PyProof.noPylong_small (by omega)))
theorem op_mod:OpR X (binaryOp .Mod) (rI (fun _ j=>0 < j) fun i j=>.int (i % j)):=opI fun i j _ _ _ _ _ hc q=>by
 have h1:(0:Int) < j:=hc
 exact mod_int' (by omega) (by rw [Int.fmod_eq_emod_of_nonneg i (by omega)]; exact q)
theorem op_pow:OpR X (binaryOp .Pow) (rI CPow fun i j=>.int (i ^ j.toNat)):=opI fun _ _ _ _ _ _ _ hc q=>pow_int_small hc.1 hc.2.1 hc.2.2 q
theorem unI {f:Value→Sem Value} {g:Int→Int}
  (rule:∀ (i:Int) (t:Tok) (s:Shared) (Q:Value→Shared→Prop) (E:Value→Shared→Prop),Q (.int (g i) s.toks) { s with toks:=s.toks + 1 }→wpAny (model X.prog X.w) X.A (f (.int i t)) Q E s) :
  UnR X f (rU fun i=>.int (g i)):=by
 intro pins s σ H x v Q I rx h
 obtain ⟨i,rfl,q⟩:=h
 obtain ⟨t,rfl⟩:=rx
 exact rule i t s _ _ ⟨.int (g i),H,I.tok _,⟨_,rfl⟩,q⟩
theorem un_neg:UnR X (unaryOp .USub) (rU fun i=>.int (-i)):=unI fun _ _ _ _ _ q=>neg_int q
end
def scal:V→V→Bool
 | .non,.non=>true | .non,.int _=>true | .int _,.non=>true | .non,.bl _=>true | .bl _,.non=>true | .non,.str _=>true | .str _,.non=>true
 | .int _,.int _=>true | .bl _,.bl _=>true | .str _,.str _=>true | .byt _,.byt _=>true
 | .int _,.str _=>true | .str _,.int _=>true | .bl _,.str _=>true | .str _,.bl _=>true
 | _,_=>false
def rEq:R2:=fun x y H Q=>scal x y=true∧Q (.bl (decide (x=y))) H
def rNe:R2:=fun x y H Q=>scal x y=true∧Q (.bl (!decide (x=y))) H
theorem dec_int {i j:Int}:decide (V.int i=V.int j)=(i == j):=by
 rw [Bool.eq_iff_iff]
 simp
theorem dec_bl {i j:Bool}:decide (V.bl i=V.bl j)=(i == j):=by
 rw [Bool.eq_iff_iff]
 simp
theorem dec_str {i j:Str}:decide (V.str i=V.str j)=(i == j):=by
 rw [Bool.eq_iff_iff]
 simp
theorem dec_byt {i j:Array UInt8}:decide (V.byt i=V.byt j)=(i.toList == j.toList):=by
 rw [Bool.eq_iff_iff]
 cases i
 cases j
 simp
section
variable {X:Cx} {a b c:Expr} {ta tb tc:TE} {pos:Pos}
theorem fin_bl {pins:List (Addr × Obj)} {σ:St} {H:Hp} {s:Shared} {Q:VK} {k k':Bool} (I:Inv X pins σ H s) (q:Q (.bl k) H) (e:k=k'):EP X pins σ Q (.bool k') s:=by
 subst e
 exact ⟨.bl k,H,I,rfl,q⟩
theorem op_eq:OpR X (compareOp .Eq) rEq:=by
 intro pins s σ H x y v u Q I rx ry h
 obtain ⟨hs,q⟩:=h
 cases x with
 | non =>
  cases rx
  cases y with
  | non=>cases ry; exact PySem.EqNone.eq_none_none (fin_bl I q (by simp))
  | bl j=>cases ry; exact PySem.EqNone.eq_none_bool (fin_bl I q (by simp))
  | int j=>obtain ⟨t',rfl⟩:=ry; exact PySem.EqNone.eq_none_int (fin_bl I q (by simp))
  | str j=>obtain ⟨t',rfl⟩:=ry; exact PySem.EqNone.eq_none_str (fin_bl I q (by simp))
  | _=>exact absurd (show false=true from hs) Bool.false_ne_true
 | bl i =>
  cases rx
  cases y with
  | non=>cases ry; exact PySem.EqNone.eq_bool_none (fin_bl I q (by simp))
  | bl j=>cases ry; exact eq_bool (fin_bl I q dec_bl)
  | str j=>obtain ⟨t',rfl⟩:=ry; exact PySem.EqMixed.eq_bool_str (fin_bl I q (by simp))
  | _=>exact absurd (show false=true from hs) Bool.false_ne_true
 | int i =>
  obtain ⟨t,rfl⟩:=rx
  cases y with
  | non=>cases ry; exact PySem.EqNone.eq_int_none (fin_bl I q (by simp))
  | int j=>obtain ⟨t',rfl⟩:=ry; exact eq_int (fin_bl I q dec_int)
  | str j=>obtain ⟨t',rfl⟩:=ry; exact PySem.EqMixed.eq_int_str (fin_bl I q (by simp))
  | _=>exact absurd (show false=true from hs) Bool.false_ne_true
 | str i =>
  obtain ⟨t,rfl⟩:=rx
  cases y with
  | non=>cases ry; exact PySem.EqNone.eq_str_none (fin_bl I q (by simp))
  | bl j=>cases ry; exact PySem.EqMixed.eq_str_bool (fin_bl I q (by simp))
  | int j=>obtain ⟨t',rfl⟩:=ry; exact PySem.EqMixed.eq_str_int (fin_bl I q (by simp))
  | str j=>obtain ⟨t',rfl⟩:=ry; exact eq_str (fin_bl I q dec_str)
  | _=>exact absurd (show false=true from hs) Bool.false_ne_true
 | byt i =>
  obtain ⟨t,rfl⟩:=rx
  cases y with
  | byt j=>obtain ⟨t',rfl⟩:=ry; exact PySem.W.eq_bytes (fin_bl I q dec_byt)
  | _=>exact absurd (show false=true from hs) Bool.false_ne_true
 | _=>cases y <;> exact absurd (show false=true from hs) Bool.false_ne_true
theorem op_ne:OpR X (compareOp .NotEq) rNe:=by
 intro pins s σ H x y v u Q I rx ry h
 obtain ⟨hs,q⟩:=h
 cases x with
 | non =>
  cases rx
  cases y with
  | non=>cases ry; exact PySem.EqNone.ne_none_none (fin_bl I q (by simp))
  | bl j=>cases ry; exact PySem.EqNone.ne_none_bool (fin_bl I q (by simp))
  | int j=>obtain ⟨t',rfl⟩:=ry; exact PySem.EqNone.ne_none_int (fin_bl I q (by simp))
  | str j=>obtain ⟨t',rfl⟩:=ry; exact PySem.EqNone.ne_none_str (fin_bl I q (by simp))
  | _=>exact absurd (show false=true from hs) Bool.false_ne_true
 | bl i =>
  cases rx
  cases y with
  | non=>cases ry; exact PySem.EqNone.ne_bool_none (fin_bl I q (by simp))
  | bl j=>cases ry; exact ne_bool (fin_bl I q (congrArg not dec_bl))
  | str j=>obtain ⟨t',rfl⟩:=ry; exact PySem.EqMixed.ne_bool_str (fin_bl I q (by simp))
  | _=>exact absurd (show false=true from hs) Bool.false_ne_true
 | int i =>
  obtain ⟨t,rfl⟩:=rx
  cases y with
  | non=>cases ry; exact PySem.EqNone.ne_int_none (fin_bl I q (by simp))
  | int j=>obtain ⟨t',rfl⟩:=ry; exact ne_int (fin_bl I q (congrArg not dec_int))
  | str j=>obtain ⟨t',rfl⟩:=ry; exact PySem.EqMixed.ne_int_str (fin_bl I q (by simp))
  | _=>exact absurd (show false=true from hs) Bool.false_ne_true
 | str i =>
  obtain ⟨t,rfl⟩:=rx
  cases y with
  | non=>cases ry; exact PySem.EqNone.ne_str_none (fin_bl I q (by simp))
  | bl j=>cases ry; exact PySem.EqMixed.ne_str_bool (fin_bl I q (by simp))
  | int j=>obtain ⟨t',rfl⟩:=ry; exact PySem.EqMixed.ne_str_int (fin_bl I q (by simp))
  | str j=>obtain ⟨t',rfl⟩:=ry; exact ne_str (fin_bl I q (congrArg not dec_str))
  | _=>exact absurd (show false=true from hs) Bool.false_ne_true
 | byt i =>
  obtain ⟨t,rfl⟩:=rx
  cases y with
  | byt j=>obtain ⟨t',rfl⟩:=ry; exact PySem.W.ne_bytes (fin_bl I q (congrArg not dec_byt))
  | _=>exact absurd (show false=true from hs) Bool.false_ne_true
 | _=>cases y <;> exact absurd (show false=true from hs) Bool.false_ne_true
theorem op_lt:OpR X (compareOp .Lt) (rI0 fun i j=>.bl (decide (i < j))):=opB0 fun _ _ _ _ _ _ _ q=>lt_int q
theorem op_le:OpR X (compareOp .LtE) (rI0 fun i j=>.bl (decide (i≤j))):=opB0 fun _ _ _ _ _ _ _ q=>le_int q
theorem op_gt:OpR X (compareOp .Gt) (rI0 fun i j=>.bl (decide (j < i))):=opB0 fun _ _ _ _ _ _ _ q=>gt_int q
theorem op_in_str:OpR X (compareOp .In) (fun x y H Q=>∃ i j,x=.str i∧y=.str j∧Q (.bl (!(Builtin.Str.occurrences j i 0 j.length 1).isEmpty)) H):=by
 intro pins s σ H x y v u Q I rx ry h
 obtain ⟨i,j,rfl,rfl,q⟩:=h
 obtain ⟨t,rfl⟩:=rx
 obtain ⟨t',rfl⟩:=ry
 exact in_str (fin_bl I q rfl)
theorem nomark (b:Expr) {op:CmpOp} (h:op ≠ .In:=by decide) (h2:op ≠ .NotIn:=by decide):behindInMarks op b=false:=by
 have e1:(op == CmpOp.In)=false:=by cases op <;> first | rfl | exact absurd rfl h
 have e2:(op == CmpOp.NotIn)=false:=by cases op <;> first | rfl | exact absurd rfl h2
 cases b <;> simp [behindInMarks,e1,e2]
theorem pe_cmpR {op:CmpOp} {r:R2} (ho:OpR X (compareOp op) r) (ha:PE X a ta) (hb:PE X b tb) (hm:behindInMarks op b=false):PE X (.Compare a [op] [b] pos) (tOp r ta tb):=by
 intro pins s σ H Q I h
 exact wpAny_Compare1 (binT ha hb I h fun v u s2 x y H2 I2 rx ry q=>ho pins s2 σ H2 x y v u Q I2 rx ry q) hm
def tTest (t:TE):TT:=fun σ H Q=>t σ H fun x H'=>∃ k,x=.bl k∧Q k H'
theorem pt_cmpR {op:CmpOp} {r:R2} (ho:OpR X (compareOp op) r) (ha:PE X a ta) (hb:PE X b tb) (hm:behindInMarks op b=false):PT X (.Compare a [op] [b] pos) (tTest (tOp r ta tb)):=by
 intro pins s σ H Q I h
 refine wpAny_isTrue_Compare1 (thn (ha pins s σ H _ I h) fun v s1 ⟨x,H1,I1,r1,q1⟩=>thn (hb pins s1 σ H1 _ I1 q1) fun u s2 ⟨y,H2,I2,r2,q2⟩ =>
  thn (ho pins s2 σ H2 x y v u _ I2 r1 r2 q2) fun c s3 ⟨z,H3,I3,r3,k,e,q3⟩=>?_) hm
 subst e
 cases r3
 exact wpAny_truthy_bool ⟨H3,I3,q3⟩
def tChain (r r':R2) (ta tb tc:TE):TE:=fun σ H Q=>ta σ H fun x H1=>tb σ H1 fun y H2=>r x y H2 fun z H3=>∃ k,z=.bl k ∧
 (if k=true then tc σ H3 fun w' H4=>r' y w' H4 Q else Q (.bl false) H3)
theorem pe_chain {op op':CmpOp} {r r':R2} (ho:OpR X (compareOp op) r) (ho':OpR X (compareOp op') r') (ha:PE X a ta) (hb:PE X b tb) (hc:PE X c tc)
  (hm:lastMarks [op,op'] [b,c]=false:=by with_unfolding_all rfl):PE X (.Compare a [op,op'] [b,c] pos) (tChain r r' ta tb tc):=by
 intro pins s σ H Q I h
 refine Compare_chain (thn (ha pins s σ H _ I h) fun v s1 ⟨x,H1,I1,r1,q1⟩=>chain_link (thn (hb pins s1 σ H1 _ I1 q1) fun u s2 ⟨y,H2,I2,r2,q2⟩ =>
  thn (ho pins s2 σ H2 x y v u _ I2 r1 r2 q2) fun d s3 ⟨z,H3,I3,r3,k,e,q3⟩=>?_)) hm
 subst e
 cases r3
 refine wpAny_truthy_bool ?_
 cases k with
 | false=>exact ite_ff ⟨.bl false,H3,I3,rfl,q3⟩
 | true=>exact ite_tt (chain_last (thn (hc pins s3 σ H3 _ I3 q3) fun w' s4 ⟨z',H4,I4,r4,q4⟩=>ho' pins s4 σ H4 y z' u w' Q I4 r2 r4 q4))
theorem pt_chain {op op':CmpOp} {r r':R2} (ho:OpR X (compareOp op) r) (ho':OpR X (compareOp op') r') (ha:PE X a ta) (hb:PE X b tb) (hc:PE X c tc)
  (hm:lastMarks [op,op'] [b,c]=false:=by with_unfolding_all rfl):PT X (.Compare a [op,op'] [b,c] pos) (tTest (tChain r r' ta tb tc)):=by
 intro pins s σ H Q I h
 refine isTrue_chain (thn (ha pins s σ H _ I h) fun v s1 ⟨x,H1,I1,r1,q1⟩=>test_link (thn (hb pins s1 σ H1 _ I1 q1) fun u s2 ⟨y,H2,I2,r2,q2⟩ =>
  thn (ho pins s2 σ H2 x y v u _ I2 r1 r2 q2) fun d s3 ⟨z,H3,I3,r3,k,e,q3⟩=>?_)) hm
 subst e
 cases r3
 refine wpAny_truthy_bool ?_
 cases k with
 | false =>
  obtain ⟨k',e',q'⟩:=q3
  cases e'
  exact ite_ff ⟨H3,I3,q'⟩
 | true =>
  refine ite_tt (test_last (thn (hc pins s3 σ H3 _ I3 q3) fun w' s4 ⟨z',H4,I4,r4,q4⟩=>thn (ho' pins s4 σ H4 y z' u w' _ I4 r2 r4 q4) fun d' s5 ⟨z2,H5,I5,r5,k2,e2,q5⟩=>?_))
  subst e2
  cases r5
  exact wpAny_truthy_bool ⟨H5,I5,q5⟩
theorem line63:(sizeLine:Nat) < 2 ^ 63:=by rw [sizeLine_eq]; decide
theorem op_add_str:OpR X (binaryOp .Add) (fun x y H Q=>∃ i j,x=.str i∧y=.str j∧i.length + j.length≤sizeLine∧Q (.str (i++j)) H):=by
 intro pins s σ H x y v u Q I rx ry h
 obtain ⟨i,j,rfl,rfl,hz,q⟩:=h
 obtain ⟨t,rfl⟩:=rx
 obtain ⟨t',rfl⟩:=ry
 exact add_str (fun t' tk=>⟨.str (i++j),H,I.tok _,⟨_,rfl⟩,q⟩) hz
theorem vals1 {x:V} {us:List Value} (r:Vals [x] us):∃ u,us=[u]∧RelV x u:=by
 cases r with
 | cons r1 r2=>cases r2; exact ⟨_,rfl,r1⟩
theorem vals2 {x y:V} {us:List Value} (r:Vals [x,y] us):∃ u w',us=[u,w']∧RelV x u∧RelV y w':=by
 cases r with
 | cons r1 r2 =>
  cases r2 with
  | cons r3 r4=>cases r4; exact ⟨_,_,rfl,r1,r3⟩
theorem call_abs:CallR X (.builtin "abs") (fun xs H Q=>∃ i,xs=[.int i]∧Q (.int (if i < 0 then -i else i)) H):=by
 intro pins s σ H xs us Q I r h
 obtain ⟨i,rfl,q⟩:=h
 obtain ⟨u,rfl,t,rfl⟩:=vals1 r
 exact call_abs_int fun u tk=>⟨.int (if i < 0 then -i else i),H,I.tok _,⟨_,rfl⟩,q⟩
theorem call_str_int:CallR X (.type "str") (fun xs H Q=>∃ i,xs=[.int i]∧i.natAbs.log2 < 1920∧Q (.str (toString i)) H):=by
 intro pins s σ H xs us Q I r h
 obtain ⟨i,rfl,hz,q⟩:=h
 obtain ⟨u,rfl,t,rfl⟩:=vals1 r
 exact PySem.P.str_of_int hz ⟨.str _,H,I.tok _,⟨_,rfl⟩,q⟩
end
end L2
namespace L2
open PySem PySem.Spec PyProof.Rows
structure ObjM (h:Heap) (x dx C:Addr) (mA:Str→Option Value):Prop where
 obj:h.get? x=some (PySem.W.instObj C dx)
 ns:h.Ns1 dx mA
 ne:dx ≠ x
theorem lookIn_ns {h:Heap} {dx:Addr} {mA:Str→Option Value} (n:h.Ns1 dx mA):∃ od,h.get? dx=some od∧∀ name,PySem.W.lookIn name od=some (mA name):=by
 obtain ⟨o,es,ep,ho,hd,hk,_,hm⟩:=n
 refine ⟨o,ho,fun name=>?_⟩
 have e:=hm name
 unfold nsFind findBy at e
 rw [← Array.find?_toList] at e
 unfold PySem.W.lookIn
 rw [hd]
 dsimp only
 split
 ·rename_i y q
  rw [q] at e
  exact congrArg some e
 ·rename_i q
  rw [q] at e
  have a:es.toList.any (·.refKey)=false:=by
   rw [List.any_eq_false]
   intro y hy
   obtain ⟨z,t,hkey⟩:=hk y (Array.mem_toList_iff.mp hy)
   simp [DictEntry.refKey,hkey]
  have a':¬ es.toList.any (·.refKey)=true:=by rw [a]; exact Bool.false_ne_true
  rw [if_neg a']
  exact congrArg some e
theorem ObjM.look {h:Heap} {x dx C:Addr} {mA:Str→Option Value} (I:ObjM h x dx C mA):∃ od,PySem.W.InstAt h x (PySem.W.instObj C dx) C (some od)∧∀ name,PySem.W.lookIn name od=some (mA name) :=
 let ⟨od,ho,hl⟩:=lookIn_ns I.ns
 ⟨od,⟨I.obj,rfl,rfl,ho⟩,hl⟩
section
variable {prog:Program} {w:World} {A:Around} {E:Value→Shared→Prop} {s:Shared} {K:PySem.W.Frag} {x dx C f:Addr} {mA:Str→Option Value} {name:Str} {v:Value}
theorem get_map {expr:Bool} {Q:Value→Shared→Prop} (X:K.In s.heap) (I:ObjM s.heap x dx C mA) (hg:PySem.W.plainGet K C name=true) (hh:PySem.W.hasDictIn K C=true)
  (ha:PySem.W.findIn K (.ref C) name=some none) (hv:mA name=some v) (hv':PySem.W.handedIn v=true) (h:Q v { s with toks:=s.toks + 1 }) :
  wpAny (model prog w) A (getAttr (.ref x) name expr) Q E s:=by
 obtain ⟨od,J,hl⟩:=I.look
 exact PySem.W.get_value X J (PySem.W.plainGet_of hg).1 (PySem.W.findObj_own hh ha rfl (by rw [hl,hv])) hv' h
theorem get_meth {pl:Sem Bool} {Q:Value × List Value→Shared→Prop} (X:K.In s.heap) (I:ObjM s.heap x dx C mA) (hg:PySem.W.plainGet K C name=true)
  (hf:PySem.W.findIn K (.ref C) name=some (some (.ref f))) (ht:PySem.W.isFn K (.ref f)=true) (hv:mA name=none) (h:Q (.ref f,[.ref x]) s) :
  wpAny (model prog w) A (getMethod (.ref x) name pl) Q E s:=by
 obtain ⟨od,J,hl⟩:=I.look
 exact PySem.W.method_fn X J (PySem.W.plainGet_of hg).1 (PySem.W.plainGet_of hg).2 hf (beq_iff_eq.mp ht) (by show (PySem.W.lookIn name od).map (·.isSome)=some false; rw [hl,hv]; rfl) h
theorem set_map {ns:List Str} {Q:Unit→Shared→Prop} (X:K.In s.heap) (I:ObjM s.heap x dx C mA)
  (hs:PySem.W.findIn K (.ref C) "__setattr__" = some (some (.builtin "object.__setattr__"))) (hp:PySem.W.plainOver K C=true) (ht:PySem.W.takerIn K C name=some none) (hh:PySem.W.hasDictIn K C=true)
  (hw:PySem.Within mA ns) (hsz:ns.length≤sizeLine)
  (h:∀ h',ObjM h' x dx C (fun y=>if y=name then some v else mA y)→Heap.SameBut dx s.heap h'→Q () { s with heap:=h',toks:=s.toks + 2 }) :
  wpAny (model prog w) A (setAttr (.ref x) name v) Q E s:=by
 obtain ⟨od,J,hl⟩:=I.look
 refine PySem.W.set_plain X J hs (PySem.W.osa_open (s:={ s with toks:=s.toks + 1 }) (r:=none) X J hp ht fun b=>?_)
 obtain ⟨cd,hc,hd'⟩:=PySem.W.any_some hh
 have hx:s.heap.get? x=some ⟨.ref C,some dx,.plain,#[]⟩:=I.obj
 refine wpAny_bind (wpAny_pure (wpAny_bind (wpAny_bind (wpAny_loadPart hx (wpAny_bind (PySem.W.Looks.here (s:={ s with toks:=s.toks + 1 }) (PySem.W.looks_clsIn X hc) ?_))))))
 rw [hd']
 refine wpAny_pure (a:=some dx) (wpAny_bind (wpAny_pure (wpAny_bind ?_)))
 refine wpAny_nsSet1 (s:={ s with toks:=s.toks + 1 }) I.ns fun h' hn2 hs2=>?_
 obtain ⟨oD,esD,epD,hoD,hdD,hcD⟩:=hn2.count (PySem.Within.cons name v hw)
 refine wpAny_bind (wpAny_lookBehind hoD (by rw [hdD]; exact pastItsLine_dict (Nat.le_trans hcD (by rw [List.length_cons]; omega))) ?_)
 exact wpAny_pure (h _ ⟨(hs2.2 _ (Ne.symm I.ne)).trans I.obj,hn2,I.ne⟩ hs2)
theorem make_map {R:Result→Shared→Prop} {vs:List Value} {kw:List (Str × Value)} (X:K.In s.heap) (hm:PySem.W.makesIn K C=true)
  (hi:PySem.W.findIn K (.ref C) "__init__" = some (some (.ref f))) (hf:PySem.W.typeIn K (.ref f)=some (.type "function"))
  (h:codeAny (model prog w) (A.under (.builtin "type.__call__" ⟨.ref C :: vs,kw⟩)) (.call (.ref f) ⟨.ref (s.heap.objs.size + 1) :: vs,kw⟩) (PySem.W.InitBack (s.heap.objs.size + 1) R)
   { s with heap:=(s.heap.push PySem.W.emptyDict).push (PySem.W.instObj C s.heap.objs.size) }) :
  codeAny (model prog w) A (.call (.ref C) ⟨vs,kw⟩) R s:=by
 obtain ⟨hh,g,d,t,os⟩:=s
 exact PySem.W.make_core (PySem.W.makes_of X hm) (PySem.W.looks_findIn X hi) (fun self=>PySem.W.bind_fn X self hf) (.inl rfl) h
end
def putF (f:Str) (v:V):List (Str × V)→List (Str × V)
 | []=>[(f,v)]
 | (g,x) :: r=>if g=f then (g,v) :: r else (g,x) :: putF f v r
theorem lookup_putF (f g:Str) (v:V):∀ fs:List (Str × V),(putF f v fs).lookup g=if g=f then some v else fs.lookup g
 | []=>by
  show List.lookup g [(f,v)]=_
  by_cases h:g=f
  ·have hb:(g == f)=true:=beq_iff_eq.mpr h
   simp only [List.lookup,hb,if_pos h]
  ·have hb:(g == f)=false:=beq_eq_false_iff_ne.mpr h
   simp only [List.lookup,hb,if_neg h]
 | (k,x) :: r=>by
  have ih:=lookup_putF f g v r
  rw [show putF f v ((k,x) :: r)=(if k=f then (k,v) :: r else (k,x) :: putF f v r) from rfl]
  by_cases hk:k=f
  ·rw [if_pos hk]
   by_cases h:g=k
   ·have hb:(g == k)=true:=beq_iff_eq.mpr h
    simp only [List.lookup,hb,if_pos (h.trans hk)]
   ·have hb:(g == k)=false:=beq_eq_false_iff_ne.mpr h
    simp only [List.lookup,hb,if_neg (fun e:g=f=>h (e.trans hk.symm))]
  ·rw [if_neg hk]
   by_cases h:g=k
   ·have hb:(g == k)=true:=beq_iff_eq.mpr h
    simp only [List.lookup,hb,if_neg (fun e:g=f=>hk (h.symm.trans e))]
   ·have hb:(g == k)=false:=beq_eq_false_iff_ne.mpr h
    simp only [List.lookup,hb]
    exact ih
theorem keys_putF (f:Str) (v:V):∀ fs:List (Str × V),f ∈ (putF f v fs).map (·.1)∧∀ g,g ∈ fs.map (·.1)→g ∈ (putF f v fs).map (·.1)
 | []=>⟨by simp [putF],fun g h=>by simp at h⟩
 | (k,x) :: r=>by
  obtain ⟨i1,i2⟩:=keys_putF f v r
  rw [show putF f v ((k,x) :: r)=(if k=f then (k,v) :: r else (k,x) :: putF f v r) from rfl]
  by_cases hk:k=f
  ·rw [if_pos hk]
   subst hk
   exact ⟨by simp,fun g h=>by simpa using h⟩
  ·rw [if_neg hk]
   refine ⟨?_,fun g h=>?_⟩
   ·rw [List.map_cons]
    exact List.mem_cons_of_mem _ i1
   ·rw [List.map_cons] at h ⊢
    rcases List.mem_cons.mp h with e | e
    ·exact List.mem_cons.mpr (.inl e)
    ·exact List.mem_cons_of_mem _ (i2 g e)
theorem length_putF (f:Str) (v:V):∀ fs:List (Str × V),(putF f v fs).length≤fs.length + 1
 | []=>by simp [putF]
 | (k,x) :: r=>by
  have ih:=length_putF f v r
  rw [show putF f v ((k,x) :: r)=(if k=f then (k,v) :: r else (k,x) :: putF f v r) from rfl]
  by_cases hk:k=f
  ·rw [if_pos hk,List.length_cons,List.length_cons]; omega
  ·rw [if_neg hk,List.length_cons,List.length_cons]; omega
theorem RelO.some_of {v:V} {o:Option Value} (r:RelO (some v) o):∃ u,o=some u∧RelV v u:=by
 cases o with
 | none=>exact (show False from r).elim
 | some u=>exact ⟨u,rfl,r⟩
theorem RelO.none_of {o:Option Value} (r:RelO none o):o=none:=by
 cases o with
 | none=>rfl
 | some u=>exact (show False from r).elim
theorem handed_of {v:V} {u:Value} (r:RelV v u):PySem.W.handedIn u=true:=by
 cases v with
 | non=>cases (show u=Value.none from r); rfl
 | bl b=>cases (show u=Value.bool b from r); rfl
 | int i=>obtain ⟨t,e⟩:=(show ∃ t,u=Value.int i t from r); cases e; rfl
 | str x=>obtain ⟨t,e⟩:=(show ∃ t,u=Value.str x t from r); cases e; rfl
 | byt b=>obtain ⟨t,e⟩:=(show ∃ t,u=Value.bytes b t from r); cases e; rfl
 | flt b=>obtain ⟨t,e⟩:=(show ∃ t,u=Value.float b t from r); cases e; rfl
 | ref a=>cases (show u=Value.ref a from r); rfl
 | ty n=>cases (show u=Value.type n from r); rfl
section
variable {P:Program} {w:World} {H H':Hp} {h h':Heap} {a C dx:Addr} {fs fs':List (Str × V)}
theorem ins_get (hok:HOk P w H h) (e:H a=some (.ins C dx fs)):∃ mA,ObjM h a dx C mA∧(∀ f,RelO (fs.lookup f) (mA f))∧PySem.Within mA (fs.map (·.1))∧fs.length≤1000∧H dx=some (.own a):=by
 obtain ⟨d,z,ne,ob,mA,n,r,q⟩:=(show ObjOk P w H h a (.ins C dx fs) from hok a _ e)
 exact ⟨mA,⟨ob,n,ne⟩,r,q,z,d⟩
end
structure Cls (K:PySem.W.Frag) (C:Addr):Prop where
 pg:PySem.W.plainGet K C Str.empty=true
 hd:PySem.W.hasDictIn K C=true
 po:PySem.W.plainOver K C=true
 sa:PySem.W.findIn K (.ref C) "__setattr__" = some (some (.builtin "object.__setattr__"))
theorem Cls.get {K:PySem.W.Frag} {C:Addr} (c:Cls K C) (f:Str):PySem.W.plainGet K C f=true:=c.pg
def NoAttr (K:PySem.W.Frag) (C:Addr) (f:Str):Prop:=PySem.W.findIn K (.ref C) f=some none
theorem NoAttr.taker {K:PySem.W.Frag} {C:Addr} {f:Str} (n:NoAttr K C f):PySem.W.takerIn K C f=some none:=by
 unfold PySem.W.takerIn
 rw [show PySem.W.findIn K (.ref C) f=some none from n]
 rfl
structure Meth (K:PySem.W.Frag) (C:Addr) (m:Str) (f:Addr):Prop where
 at_:PySem.W.findIn K (.ref C) m=some (some (.ref f))
 fn:PySem.W.isFn K (.ref f)=true
 kp:PySem.W.keepIn K (.ref f)=true
section
variable {X:Cx} {pins:List (Addr × Obj)} {σ:St} {H:Hp} {s:Shared} {a C dx:Addr} {fs:List (Str × V)} {f:Str} {v:V} {A:Around} {E:Value→Shared→Prop}
theorem getattr_ok {b:Bool} {Q:Value→Shared→Prop} (I:Inv X pins σ H s) (e:H a=some (.ins C dx fs)) (c:Cls X.K C) (n:NoAttr X.K C f) (l:fs.lookup f=some v)
  (h:∀ u s',Inv X pins σ H s'→RelV v u→Q u s'):wpAny (model X.prog X.w) A (getAttr (.ref a) f b) Q E s:=by
 obtain ⟨mA,O,r,_,_,_⟩:=ins_get I.hok e
 obtain ⟨u,hu,ru⟩:=RelO.some_of (v:=v) (o:=mA f) (by rw [← l]; exact r f)
 exact get_map I.kIn O (c.get f) c.hd n hu (handed_of ru) (h u _ (I.tok _) ru)
theorem getmeth_ok {m:Str} {g:Addr} {pl:Sem Bool} {Q:Value × List Value→Shared→Prop} (I:Inv X pins σ H s) (e:H a=some (.ins C dx fs)) (c:Cls X.K C) (k:Meth X.K C m g) (l:fs.lookup m=none)
  (h:Q (.ref g,[.ref a]) s):wpAny (model X.prog X.w) A (getMethod (.ref a) m pl) Q E s:=by
 obtain ⟨mA,O,r,_,_,_⟩:=ins_get I.hok e
 have hn:mA m=none:=RelO.none_of (by rw [← l]; exact r m)
 exact get_meth I.kIn O (c.get m) k.at_ k.fn hn h
theorem setattr_ok {y:V} {u:Value} {Q:Unit→Shared→Prop} (I:Inv X pins σ H s) (e:H a=some (.ins C dx fs)) (c:Cls X.K C) (n:NoAttr X.K C f) (hl:fs.length < 1000) (ry:RelV y u)
  (h:∀ s',Inv X pins σ (upd H a (.ins C dx (putF f y fs))) s'→Q () s'):wpAny (model X.prog X.w) A (setAttr (.ref a) f u) Q E s:=by
 obtain ⟨mA,O,r,wi,_,ho⟩:=ins_get I.hok e
 have hz:(fs.map (·.1)).length≤sizeLine:=by rw [List.length_map,sizeLine_eq]; omega
 refine set_map I.kIn O c.sa c.po n.taker c.hd wi hz fun h' O' sb=>h _ ?_
 have hd:∃ o,h'.get? dx=some o:=let ⟨o,_,_,e',_⟩:=O'.ns; ⟨o,e'⟩
 refine I.write (x:=a) (e:=dx) (by rw [e]; exact True.intro) (.inr ho) (fun b q hb z=>(sb.2 b hb).trans z) hd ?_
 refine ⟨by rw [upd_ne O.ne]; exact ho,?_,O.ne,O'.obj,_,O'.ns,fun g=>?_,fun g hg=>?_⟩
 ·have:=length_putF f y fs; omega
 ·show RelO ((putF f y fs).lookup g) (if g=f then some u else mA g)
  rw [lookup_putF]
  by_cases q:g=f
  ·rw [if_pos q,if_pos q]; exact ry
  ·rw [if_neg q,if_neg q]; exact r g
 ·by_cases q:g=f
  ·rw [q]; exact (keys_putF f y fs).1
  ·refine (keys_putF f y fs).2 g (wi g fun z=>hg ?_)
   show (if g=f then some u else mA g)=none
   rw [if_neg q]; exact z
theorem Inv.made (I:Inv X pins σ H s):Inv X pins σ (upd (upd H s.heap.objs.size (.own (s.heap.objs.size + 1))) (s.heap.objs.size + 1) (.ins C s.heap.objs.size []))
  { s with heap:=(s.heap.push PySem.W.emptyDict).push (PySem.W.instObj C s.heap.objs.size) }:=by
 have e1:(s.heap.push PySem.W.emptyDict).get? s.heap.objs.size=some PySem.W.emptyDict:=Heap.get?_push_size s.heap rfl
 have e2:((s.heap.push PySem.W.emptyDict).push (PySem.W.instObj C s.heap.objs.size)).get? (s.heap.objs.size + 1)=some (PySem.W.instObj C s.heap.objs.size):=by
  have:=Heap.get?_push_size (s.heap.push PySem.W.emptyDict) (o:=PySem.W.instObj C s.heap.objs.size) rfl
  rwa [Heap.size_push] at this
 have e3:(s.heap.push PySem.W.emptyDict).Ns s.heap.objs.size (fun _=>none):=⟨PySem.W.emptyDict,#[],_,e1,rfl,(fun e he=>absurd he (by simp)),fun _=>rfl⟩
 have I1:=I.laid (a:=s.heap.objs.size) (o:=.own (s.heap.objs.size + 1)) (h':=s.heap.push PySem.W.emptyDict) (t':=s.toks) (fun b u q=>Heap.get?_push_of_some _ q) (Nat.le_refl _) ⟨_,e1⟩
 refine I1.laid (a:=s.heap.objs.size + 1) (o:=.ins C s.heap.objs.size []) (t':=s.toks) (fun b u q=>Heap.get?_push_of_some _ q) (Nat.le_of_eq (Heap.size_push _ _)) ?_
 have ne:s.heap.objs.size ≠ s.heap.objs.size + 1:=Nat.ne_of_lt (Nat.lt_succ_self _)
 refine ⟨by rw [upd_ne ne,upd_same],Nat.zero_le _,ne,e2,fun _=>none,(Heap.Ns1.of_empty e3).at fun o q=>Heap.get?_push_of_some _ q,fun _=>True.intro,fun y hy=>absurd rfl hy⟩
theorem attr_of {prog:Program} {w:World} {env:Env} {e:Expr} {f:Str} {pos:Pos} {s:Shared} {Q:Value→Shared→Prop} (hb:attributeBase e f env (eval e env)=eval e env)
  (h:wpAny (model prog w) A (eval e env) (fun o s₁=>wpAny (model prog w) A (getAttr o f true) Q E s₁) E s):wpAny (model prog w) A (eval (.Attribute e f pos) env) Q E s :=
 Attribute_any_ h (by rw [arm_eval_Attribute,hb])
end
def tFld (K:PySem.W.Frag) (ta:TE) (f:Str):TE:=fun σ H Q=>ta σ H fun x H1=>∃ a C dx fs v,x=.ref a∧H1 a=some (.ins C dx fs)∧Cls K C∧NoAttr K C f∧fs.lookup f=some v∧Q v H1
def sFld (K:PySem.W.Frag) (ta tv:TE) (f:Str):TS:=fun D σ H=>tv σ H fun y H1=>ta σ H1 fun x H2=>∃ a C dx fs,x=.ref a∧H2 a=some (.ins C dx fs)∧Cls K C∧NoAttr K C f∧fs.length < 1000 ∧
 D.nx σ (upd H2 a (.ins C dx (putF f y fs)))
def InOp (X:Cx) (op:Operator) (rd:V→V→Hp→VK→Prop):Prop :=
 ∀ (pins:List (Addr × Obj)) (s:Shared) (σ:St) (H:Hp) (x y:V) (u v:Value) (Q:VK),Inv X pins σ H s→RelV x u→RelV y v→rd x y H Q→wpAny (model X.prog X.w) X.A (inplaceOp op u v) (EP X pins σ Q) X.xe s
def sFldAug (K:PySem.W.Frag) (ta tv:TE) (rd:V→V→Hp→VK→Prop) (f:Str):TS:=fun D σ H=>ta σ H fun x H1=>∃ a C dx fs v,x=.ref a∧H1 a=some (.ins C dx fs)∧Cls K C∧NoAttr K C f∧fs.lookup f=some v ∧
 tv σ H1 fun y H2=>rd v y H2 fun z H3=>∃ dx' fs',H3 a=some (.ins C dx' fs')∧fs'.length < 1000∧D.nx σ (upd H3 a (.ins C dx' (putF f z fs')))
section
variable {X:Cx} {o e value:Expr} {f:Str} {pos pos' tpos:Pos} {ta tv:TE}
theorem pe_fld (he:PE X e ta) (hb:attributeBase e f X.env (eval e X.env)=eval e X.env):PE X (.Attribute e f pos) (tFld X.K ta f):=by
 intro pins s σ H Q I h
 refine attr_of hb (thn (he pins s σ H _ I h) fun u s1 ⟨x,H1,I1,rx,a,C,dx,fs,v,ex,ea,c,n,l,q⟩=>?_)
 subst ex
 obtain rfl:u=Value.ref a:=rx
 exact getattr_ok I1 ea c n l fun u' s2 I2 ru=>⟨v,H1,I2,ru,q⟩
theorem ps_fld (ha:PE X o ta) (hv:PE X value tv) (hs:swapsWith value (some (.Attribute o f pos')) pos.line X.env=pure false):PS X (.Assign [.Attribute o f pos'] value pos) (sFld X.K ta tv f):=by
 intro pins s σ H D I h
 refine plainObj_wpAny_Assign_Attribute (thn (hv pins s σ H _ I h) fun u s1 ⟨y,H1,I1,ry,q⟩=>thn (ha pins s1 σ H1 _ I1 q) fun ov s2 ⟨x,H2,I2,rx,a,C,dx,fs,ex,ea,c,n,l,q2⟩=>?_) hs
 subst ex
 obtain rfl:ov=Value.ref a:=rx
 exact setattr_ok I2 ea c n l ry fun s3 I3=>⟨σ,_,I3,q2⟩
theorem ps_fldaug {op:Operator} {rd:V→V→Hp→VK→Prop} (ha:PE X o ta) (hv:PE X value tv) (hop:InOp X op rd):PS X (.AugAssign (.Attribute o f tpos) op value pos) (sFldAug X.K ta tv rd f):=by
 intro pins s σ H D I h
 refine wpAny_AugAssign_AttributeAny (thn (ha pins s σ H _ I h) fun ov s1 ⟨x,H1,I1,rx,a,C,dx,fs,v,ex,ea,c,n,l,q⟩=>?_)
 subst ex
 obtain rfl:ov=Value.ref a:=rx
 refine getattr_ok I1 ea c n l fun u s2 I2 ru=>thn (hv pins s2 σ H1 _ I2 q) fun w3 s3 ⟨y,H2,I3,ry,q3⟩=>thn (hop pins s3 σ H2 v y u w3 _ I3 ru ry q3) fun w4 s4 ⟨z,H3,I4,rz,dx',fs',ea',l',q4⟩=>?_
 exact setattr_ok I4 ea' c n l' rz fun s5 I5=>⟨σ,_,I5,q4⟩
def rAdd:V→V→Hp→VK→Prop:=fun x y H Q=>∃ i j,x=.int i∧y=.int j∧Q (.int (i + j)) H
theorem in_add:InOp X .Add rAdd:=by
 rintro pins s σ H x y u v Q I rx ry ⟨i,j,rfl,rfl,q⟩
 obtain ⟨t,rfl⟩:=(show ∃ t,u=Value.int i t from rx)
 obtain ⟨t',rfl⟩:=(show ∃ t',v=Value.int j t' from ry)
 exact PyProof.Rows.iadd_int ⟨.int (i + j),H,I.tok _,⟨_,rfl⟩,q⟩
end
section
variable {X:Cx} {pins:List (Addr × Obj)} {σ:St} {H:Hp} {s:Shared} {A:Around} {E:Value→Shared→Prop} {Q:Value→Shared→Prop} {c:Value} {b:Bool}
inductive TyOf (K:PySem.W.Frag) (H:Hp):V→Value→Prop where
 | non:TyOf K H .non (.type "NoneType")
 | bl (x:Bool):TyOf K H (.bl x) (.type "bool")
 | int (i:Int):TyOf K H (.int i) (.type "int")
 | str (x:Str):TyOf K H (.str x) (.type "str")
 | flt (x:UInt64):TyOf K H (.flt x) (.type "float")
 | lst {a:Addr} {xs:List V} (e:H a=some (.lst xs)):TyOf K H (.ref a) (.type "list")
 | frz {a:Addr} {o:Obj} {xs:List V} (e:H a=some (.frz o (.lst xs))):TyOf K H (.ref a) (.type "list")
 | tup {a:Addr} {xs:List V} (e:H a=some (.tup xs)):TyOf K H (.ref a) (.type "tuple")
 | dK {a:Addr} {kvs:List (Key × V)} (e:H a=some (.dK kvs)):TyOf K H (.ref a) (.type "dict")
 | dT {a:Addr} {kvs:List (List Key × V)} (e:H a=some (.dT kvs)):TyOf K H (.ref a) (.type "dict")
 | ins {a C dx:Addr} {fs:List (Str × V)} (e:H a=some (.ins C dx fs)) (cl:Cls K C) (ha:PySem.W.findIn K (.ref C) "__class__" = some (some (.builtin "object.__class__")))
   (hn:PySem.W.specialIn K (.builtin "object.__class__") "__get__" = some (some (.builtin "getset_descriptor.__get__"))) (htk:PySem.W.takesIn K (.builtin "object.__class__")=some true)
   (hm:PySem.W.mroIn K C (.type "object")=some true):TyOf K H (.ref a) (.ref C)
theorem isinst_ok {x:V} {u t:Value} (I:Inv X pins σ H s) (rx:RelV x u) (ty:TyOf X.K H x t) (e:PySem.W.kitOne X.K t c=some b) (h:∀ tk,Q (.bool b) { s with toks:=tk }) :
  wpAny (model X.prog X.w) A (call (.builtin "isinstance") [u,c]) Q E s:=by
 cases ty with
 | non=>cases (show u=Value.none from rx); exact PySem.W.kia_one PySem.W.kitx_none I.kIn True.intro e (fun z=>nomatch z) h
 | bl y=>cases (show u=Value.bool y from rx); exact PySem.W.kia_one PySem.W.kitx_bool I.kIn True.intro e (fun z=>nomatch z) h
 | int i=>obtain ⟨t,q⟩:=(show ∃ t,u=Value.int i t from rx); cases q; exact PySem.W.kia_one PySem.W.kitx_int I.kIn True.intro e (fun z=>nomatch z) h
 | str y=>obtain ⟨t,q⟩:=(show ∃ t,u=Value.str y t from rx); cases q; exact PySem.W.kia_one PySem.W.kitx_str I.kIn True.intro e (fun z=>nomatch z) h
 | flt y=>obtain ⟨t,q⟩:=(show ∃ t,u=Value.float y t from rx); cases q; exact PySem.W.kia_one PySem.W.kitx_float I.kIn True.intro e (fun z=>nomatch z) h
 | @lst a xs ea =>
  cases (show u=Value.ref a from rx)
  obtain ⟨_,_,n,_,h1⟩:=(show ObjOk X.prog X.w H s.heap a (.lst xs) from I.hok a _ ea)
  exact PySem.W.kia_one PySem.W.kitx_list I.kIn ⟨_,h1,rfl⟩ e (fun z=>nomatch z) h
 | @frz a ob xs ea =>
  cases (show u=Value.ref a from rx)
  obtain ⟨_,_,_,n,_,h1⟩:=(show ObjOk X.prog X.w H s.heap a (.frz ob (.lst xs)) from I.hok a _ ea)
  exact PySem.W.kia_one PySem.W.kitx_list I.kIn ⟨_,h1,rfl⟩ e (fun z=>nomatch z) h
 | @tup a xs ea =>
  cases (show u=Value.ref a from rx)
  obtain ⟨_,_,_,p⟩:=(show ObjOk X.prog X.w H s.heap a (.tup xs) from I.hok a _ ea)
  obtain ⟨o,h1,h2,_⟩:=p
  exact PySem.W.kia_one PySem.W.kitx_tuple I.kIn ⟨o,h1,h2⟩ e (fun z=>nomatch z) h
 | @dK a kvs ea =>
  cases (show u=Value.ref a from rx)
  obtain ⟨_,_,vs,_,p⟩:=(show ObjOk X.prog X.w H s.heap a (.dK kvs) from I.hok a _ ea)
  obtain ⟨o,es,ep,h1,h2,_⟩:=p
  exact PySem.W.kia_one PySem.W.kitx_dict I.kIn ⟨o,h1,h2.1⟩ e (fun z=>nomatch z) h
 | @dT a kvs ea =>
  cases (show u=Value.ref a from rx)
  obtain ⟨_,_,xs,_,o,es,ep,h1,h2,_⟩:=(show ObjOk X.prog X.w H s.heap a (.dT kvs) from I.hok a _ ea)
  exact PySem.W.kia_one PySem.W.kitx_dict I.kIn ⟨o,h1,h2.1⟩ e (fun z=>nomatch z) h
 | @ins a C dx fs ea cl ha hn htk hm =>
  cases (show u=Value.ref a from rx)
  obtain ⟨mA,O,_⟩:=ins_get I.hok ea
  obtain ⟨od,J,_⟩:=O.look
  exact PySem.W.kia_one (PySem.W.kitx_own (cl.get _) cl.hd ha hn htk hm) I.kIn J e (fun z=>nomatch z) h
end
end L2
namespace L2
open PySem PySem.Spec PyProof.Rows
structure Room (k:Nat) (A:Around):Prop where
 hd:A.handled=none
 dp:A.depth + 3 * k + 5 < recursionLimit
 un:A.units + 16 * k + 200 < cLine
 gd:A.guards=some []
theorem Room.mono {j k:Nat} {A:Around} (r:Room k A) (h:j≤k):Room j A:=⟨r.hd,by have:=r.dp; omega,by have:=r.un; omega,r.gd⟩
theorem Room.deeper {k:Nat} {A:Around} (r:Room (k + 1) A) (env:Env):Room k (A.deeper env) :=
 ⟨r.hd,by have:=r.dp; show A.depth + 1 + 3 * k + 5 < _; omega,by have:=r.un; show A.units + 3 + 16 * k + 200 < _; omega,r.gd⟩
theorem make_depth {A:Around} {C:Addr} {us:List Value} {kw:List (Str × Value)}:(A.under (.builtin "type.__call__" ⟨.ref C :: us,kw⟩)).depth=A.depth + 1:=by
 first | rfl | simp [Around.under,Code.weight,Code.isCreation,Code.isGuard,Code.isCaller,Code.frames,Code.isFrame,guardIds]
theorem make_units {A:Around} {C:Addr} {us:List Value} {kw:List (Str × Value)}:(A.under (.builtin "type.__call__" ⟨.ref C :: us,kw⟩)).units=A.units + 1:=by
 first | rfl | simp [Around.under,Code.cUnits,Code.frames,Code.isFrame]
theorem Room.make {k:Nat} {A:Around} (r:Room (k + 1) A) (C:Addr) (us:List Value) (kw:List (Str × Value)):Room k (A.under (.builtin "type.__call__" ⟨.ref C :: us,kw⟩)) :=
 ⟨r.hd,by have:=r.dp; rw [make_depth]; omega,by have:=r.un; rw [make_units]; omega,by first | exact r.gd | (simpa [Around.under,Code.isGuard,guardIds] using r.gd)⟩
theorem Room.depth {k:Nat} {A:Around} (r:Room k A):A.depth < recursionLimit:=by have:=r.dp; omega
theorem Room.units {k:Nat} {A:Around} (r:Room k A):A.units + 64 < cLine:=by have:=r.un; omega
def tNil:TA:=fun _ H Q=>Q [] H
def tCons (ta:TE) (tr:TA):TA:=fun σ H Q=>ta σ H fun x H1=>tr σ H1 fun xs H2=>Q (x :: xs) H2
section
variable {X:Cx} {e:Expr} {es:List Expr} {te:TE} {t:TA} {pos:Pos}
theorem pa_nil:PA X [] tNil:=fun _ _ _ _ H Q I h=>Calls.spliced_nil ⟨[],H,I,.nil,h⟩
theorem pa_cons (ha:PE X e te) (hr:PA X es t) (hs:starEach (e :: es) X.env=(false,eval e X.env) :: starEach es X.env:=by rfl):PA X (e :: es) (tCons te t):=by
 intro pos pins s σ H Q I h
 rw [hs]
 show wpAny _ _ (spliced ((false,eval e X.env) :: backTo pos (starEach es X.env))) _ _ s
 refine Calls.spliced_cons (thn (ha pins s σ H _ I h) fun u s1 ⟨x,H1,I1,r1,q1⟩=>?_)
 exact thn (hr pos pins s1 σ H1 _ I1 q1) fun us s2 ⟨xs,H2,I2,r2,q2⟩=>⟨x :: xs,H2,I2,.cons r1 r2,q2⟩
def tTup (t:TA):TE:=fun σ H Q=>t σ H fun xs H1=>xs.length≤sizeLine∧∀ p,H1 p=none→Q (.ref p) (upd H1 p (.tup xs))
def tLst (t:TA):TE:=fun σ H Q=>t σ H fun xs H1=>xs.length≤sizeLine∧∀ p,H1 p=none→Q (.ref p) (upd H1 p (.lst xs))
theorem pe_tup {x1} (h:PA X es t):PE X (.Tuple es x1 pos) (tTup t):=by
 intro pins s σ H Q I hq
 refine wpAny_Tuple_spliced (thn (h pos pins s σ H _ I hq) fun us s1 ⟨xs,H1,I1,r,z,q⟩=>⟨by rw [← r.length]; exact z,?_⟩)
 have hf:H1 s1.heap.objs.size=none:=I1.hok.fresh (Nat.le_refl _)
 refine ⟨.ref s1.heap.objs.size,upd H1 s1.heap.objs.size (.tup xs),I1.laid (t':=s1.toks) (fun b u e=>Heap.get?_push_of_some _ e) (Nat.le_refl _) ?_,rfl,q _ hf⟩
 exact ⟨z,us,r,⟨_,Heap.get?_push_size _ rfl,rfl,_,rfl⟩⟩
theorem pe_lst (h:PA X es t):PE X (.List es pos) (tLst t):=by
 intro pins s σ H Q I hq
 refine wpAny_List_spliced (thn (h pos pins s σ H _ I hq) fun us s1 ⟨xs,H1,I1,r,z,q⟩=>⟨by rw [← r.length]; exact z,?_⟩)
 have hf:H1 s1.heap.objs.size=none:=I1.hok.fresh (Nat.le_refl _)
 refine ⟨.ref s1.heap.objs.size,upd H1 s1.heap.objs.size (.lst xs),I1.laid (t':=s1.toks) (fun b u e=>Heap.get?_push_of_some _ e) (Nat.le_refl _) ?_,rfl,q _ hf⟩
 exact ⟨z,us,0,r,Heap.get?_push_size _ rfl⟩
end
abbrev Sp:=List V→Hp→VK→XK→Prop
abbrev CXT:=List Env→Hp→Shared→XK→Value→Shared→Prop
structure Env0 (P:Program) (w:World) (K:PySem.W.Frag) (mg:Str→Option Value) (base:Heap) (A:Around) (outer:List Env) (s:Shared) (H:Hp):Prop where
 frames:A.frames=some outer
 mod:Mod K mg base
 bs:∀ b o,base.get? b=some o→s.heap.get? b=some o∧H b=none
 bsz:base.objs.size≤s.heap.objs.size
 funs:s.heap.FunFrames base outer
 frf:∀ b ∈ frs outer,H b=none
 hok:HOk P w H s.heap
 bare:AllBare s.gens
def CE (outer:List Env) (P:Program) (w:World) (H:Hp) (s:Shared) (Q:VK) (u:Value) (s':Shared):Prop :=
 ∃ v H',s'.os=s.os∧AllBare s'.gens∧Un (frs outer) [] H H' s.heap s'.heap∧HOk P w H' s'.heap∧RelV v u∧Q v H'
def CR (CX:CXT) (outer:List Env) (P:Program) (w:World) (H:Hp) (s:Shared) (Q:VK) (E:XK) (r:Result) (s':Shared):Prop :=
 match r with
 | .ok (.ret u)=>CE outer P w H s Q u s'
 | .ok _=>False
 | .error e=>CX outer H s E e s'
structure FnOk (P:Program) (w:World) (K:PySem.W.Frag) (mg:Str→Option Value) (base:Heap) (CX:CXT) (k:Nat) (f:Addr) (fd:FuncData) (ps:List Str) (sp:Sp):Prop where
 len:∀ vs H Q E,sp vs H Q E→vs.length=ps.length
 run:∀ (A:Around) (outer:List Env) (s:Shared) (H:Hp) (args:Args) (us:List Value) (vs:List V) (Q:VK) (E:XK),Room k A→Env0 P w K mg base A outer s H→BindsTo s fd args (ps.zip us)→Vals vs us→sp vs H Q E →
  codeAny (model P w) A (.call (.ref f) args) (CR CX outer P w H s Q E) s
theorem FnOk.mono {P:Program} {w:World} {K:PySem.W.Frag} {mg:Str→Option Value} {base:Heap} {CX:CXT} {j k:Nat} {f:Addr} {fd:FuncData} {ps:List Str} {sp:Sp} (F:FnOk P w K mg base CX j f fd ps sp) (h:j≤k) :
  FnOk P w K mg base CX k f fd ps sp:=⟨F.len,fun A outer s H args us vs Q E hr=>F.run A outer s H args us vs Q E (hr.mono h)⟩
theorem Env0.make {P:Program} {w:World} {K:PySem.W.Frag} {mg:Str→Option Value} {base:Heap} {A:Around} {outer:List Env} {s:Shared} {H:Hp} (e:Env0 P w K mg base A outer s H) (C:Addr) (us:List Value) (kw:List (Str × Value)) :
  Env0 P w K mg base (A.under (.builtin "type.__call__" ⟨.ref C :: us,kw⟩)) outer s H:=⟨by first | exact e.frames | (simpa [Around.under,Code.envs,Code.isFrame,pushEnvs] using e.frames),e.mod,e.bs,e.bsz,e.funs,e.frf,e.hok,e.bare⟩
section
variable {X:Cx} {pins:List (Addr × Obj)} {σ:St} {H:Hp} {s s':Shared}
theorem Inv.env0 (I:Inv X pins σ H s):Env0 X.prog X.w X.K X.mg X.base X.A X.stack s H :=
 ⟨I.ok.frames,I.ok.mod,I.bs,Nat.le_trans I.ok.bsz I.sz,I.stack,I.stkFree,I.hok,I.bare⟩
theorem Inv.after {Q:VK} {u:Value} (I:Inv X pins σ H s) (h:CE X.stack X.prog X.w H s Q u s'):EP X pins σ Q u s':=by
 obtain ⟨v,H',os,bare,un,hok,r,q⟩:=h
 obtain ⟨hh,g,d,t,os'⟩:=s'
 obtain rfl:os'=s.os:=os
 exact ⟨v,H',I.call (h':=hh) (g':=g) (d':=d) (t':=t) (ch:=[]) un hok bare (fun b z=>absurd z (by simp)),r,q⟩
end
def tCall (sp:Sp) (dvs:List V) (E:XK) (t:TA):TE:=fun σ H Q=>t σ H fun vs H1=>sp (vs++dvs) H1 Q E
def tMeth (C:Addr) (m:Str) (sp:Sp) (dvs:List V) (E:XK) (ta:TE) (t:TA):TE:=fun σ H Q=>ta σ H fun x H1=>∃ a dx fs,x=.ref a∧H1 a=some (.ins C dx fs)∧fs.lookup m=none ∧
 t σ H1 fun vs H2=>sp (x :: (vs++dvs)) H2 Q E
def tMake (C:Addr) (sp:Sp) (dvs:List V) (E:XK) (t:TA):TE:=fun σ H Q=>t σ H fun vs H1=>∀ x dx,H1 x=none→H1 dx=none→dx ≠ x →
 sp (.ref x :: (vs++dvs)) (upd (upd H1 dx (.own x)) x (.ins C dx [])) (fun v H2=>v=.non∧Q (.ref x) H2) E
def Binds (K:PySem.W.Frag) (fd:FuncData) (ps:List Str) (ds:List Value):Prop :=
 ∀ (s:Shared) (us:List Value),K.In s.heap→(us++ds).length=ps.length→BindsTo s fd ⟨us,[]⟩ (ps.zip (us++ds))
theorem Binds.all {K:PySem.W.Frag} {fd:FuncData} {ps:List Str} (h:∀ us:List Value,us.length=ps.length→bindArgs fd ⟨us,[]⟩=pure (ps.zip us)):Binds K fd ps []:=fun s us _ hl=>by
 rw [List.append_nil] at hl ⊢
 exact .of_eq (h us hl)
def Passes (CX:CXT) (X:Cx) (E:XK):Prop:=∀ (pins:List (Addr × Obj)) (σ:St) (H:Hp) (s:Shared) (e:Value) (s':Shared),Inv X pins σ H s→CX X.stack H s E e s'→X.xe e s'
section
variable {X:Cx} {CX:CXT} {k:Nat} {f C:Addr} {fd:FuncData} {ps:List Str} {sp:Sp} {dvs:List V} {ds:List Value} {E:XK} {x m:Str} {p pos apos:Pos} {e o:Expr} {es:List Expr} {ta:TE} {t:TA}
theorem run_fn {pins:List (Addr × Obj)} {σ:St} {H:Hp} {s:Shared} {Q:VK} {us:List Value} {vs:List V} (F:FnOk X.prog X.w X.K X.mg X.base CX k f fd ps sp) (hr:Room k X.A) (hb:Binds X.K fd ps ds) (hd:Vals dvs ds) (hx:Passes CX X E)
  (I:Inv X pins σ H s) (r:Vals vs us) (h:sp (vs++dvs) H Q E):wpAny (model X.prog X.w) X.A (call (.ref f) us) (EP X pins σ Q) X.xe s:=by
 have r2:Vals (vs++dvs) (us++ds):=r.append hd
 have hl:(us++ds).length=ps.length:=by rw [← r2.length]; exact F.len _ _ _ _ h
 refine wpAny_call (codeAny_mono (F.run X.A X.stack s H ⟨us,[]⟩ (us++ds) (vs++dvs) Q E hr I.env0 (hb s us I.kIn hl) r2 h) fun r s' hq=>?_)
 cases r with
 | error e=>exact hx pins σ H s e s' I hq
 | ok fl =>
  cases fl with
  | ret u=>exact I.after hq
  | next=>exact False.elim hq
  | brk=>exact False.elim hq
  | cont=>exact False.elim hq
theorem pe_call (F:FnOk X.prog X.w X.K X.mg X.base CX k f fd ps sp) (hr:Room k X.A) (hg:Gl X x) (hm:X.mg x=some (.ref f)) (hk:PySem.W.keepIn X.K (.ref f)=true) (hb:Binds X.K fd ps ds) (hd:Vals dvs ds) (hx:Passes CX X E)
  (ha:PA X (e :: es) t) (hdb:(x == ("__debug__" : Str))=false:=by decide) (he:starEach (e :: es) X.env=(false,eval e X.env) :: starEach es X.env:=by rfl) (hpl:(backTo pos (starEach es X.env)).any (·.1)=false:=by rfl) :
  PE X (.Call (.Name x p) (e :: es) [] pos) (tCall sp dvs E t):=by
 intro pins s σ H Q I h
 refine wpAny_Call_Name_kw (ld_glob I hg hm ?_ hdb)
 refine PySem.W.callWith_K (h₀:=X.base) I.ok.mod.kin hk (thn (ha pos pins s σ H _ I h) fun us s1 ⟨vs,H1,I1,r,q⟩=>⟨I1.kIn,?_⟩) he hpl
 exact run_fn F hr hb hd hx I1 r q
theorem pe_meth {pl:Sem Bool} (he:PE X o ta) (c:Cls X.K C) (hm:Meth X.K C m f) (F:FnOk X.prog X.w X.K X.mg X.base CX k f fd ps sp) (hr:Room k X.A) (hb:Binds X.K fd ps ds) (hd:Vals dvs ds) (hx:Passes CX X E) (ha:PA X (e :: es) t)
  (hst:starEach (e :: es) X.env=(false,eval e X.env) :: starEach es X.env:=by rfl) (hpl:(backTo pos (starEach es X.env)).any (·.1)=false:=by rfl)
  (ht:eval (.Call (.Attribute o m apos) (e :: es) [] pos) X.env=(do
   let ov ← eval o X.env
   standAt apos.atName
   let (f,first) ← holding [ov] (getMethod ov m pl)
   callWith pos f first (backTo pos (starEach (e :: es) X.env)) (backToKw pos (keywordEach [] X.env))):=by rfl) :
  PE X (.Call (.Attribute o m apos) (e :: es) [] pos) (tMeth C m sp dvs E ta t):=by
 intro pins s σ H Q I h
 refine PySem.W.methodCall_KW (pl:=pl) (thn (he pins s σ H _ I h) fun u s1 ⟨x,H1,I1,rx,a,dx,fs,ex,ea,l,q⟩=>?_) ht
 subst ex
 obtain rfl:u=Value.ref a:=rx
 refine getmeth_ok I1 ea c hm l ?_
 refine PySem.W.callWith_K (first:=[.ref a]) (h₀:=X.base) I.ok.mod.kin hm.kp (thn (ha pos pins s1 σ H1 _ I1 q) fun us s2 ⟨vs,H2,I2,r,q2⟩=>⟨I2.kIn,?_⟩) hst hpl
 exact run_fn (us:=.ref a :: us) (vs:=.ref a :: vs) F hr hb hd hx I2 (.cons rfl r) q2
theorem pe_meth0 {pl:Sem Bool} (he:PE X o ta) (c:Cls X.K C) (hm:Meth X.K C m f) (F:FnOk X.prog X.w X.K X.mg X.base CX k f fd ps sp) (hr:Room k X.A) (hb:Binds X.K fd ps ds) (hd:Vals dvs ds) (hx:Passes CX X E)
  (ht:eval (.Call (.Attribute o m apos) [] [] pos) X.env=(do
   let ov ← eval o X.env
   standAt apos.atName
   let (f,first) ← holding [ov] (getMethod ov m pl)
   callWith pos f first (backTo pos (starEach [] X.env)) (backToKw pos (keywordEach [] X.env))):=by rfl) :
  PE X (.Call (.Attribute o m apos) [] [] pos) (tMeth C m sp dvs E ta tNil):=by
 intro pins s σ H Q I h
 refine PySem.W.methodCall_KW (pl:=pl) (thn (he pins s σ H _ I h) fun u s1 ⟨x,H1,I1,rx,a,dx,fs,ex,ea,l,q⟩=>?_) ht
 subst ex
 obtain rfl:u=Value.ref a:=rx
 refine getmeth_ok I1 ea c hm l ?_
 exact PySem.W.callWith_K0 (first:=[.ref a]) I1.kIn hm.kp (run_fn (us:=[.ref a]) (vs:=[.ref a]) F hr hb hd hx I1 (.cons rfl .nil) q)
structure Mk (K:PySem.W.Frag) (C f:Addr):Prop where
 makes:PySem.W.makesIn K C=true
 init:PySem.W.findIn K (.ref C) "__init__" = some (some (.ref f))
 fn:PySem.W.isFn K (.ref f)=true
 kp:PySem.W.keepIn K (.ref C)=true
theorem run_make {pins:List (Addr × Obj)} {σ:St} {H:Hp} {s:Shared} {Q:VK} {us:List Value} {vs:List V} (M:Mk X.K C f) (F:FnOk X.prog X.w X.K X.mg X.base CX k f fd ps sp) (hr:Room (k + 1) X.A) (hb:Binds X.K fd ps ds) (hd:Vals dvs ds)
  (hx:Passes CX X E) (I:Inv X pins σ H s) (r:Vals vs us)
  (h:∀ x dx,H x=none→H dx=none→dx ≠ x→sp (.ref x :: (vs++dvs)) (upd (upd H dx (.own x)) x (.ins C dx [])) (fun v H2=>v=.non∧Q (.ref x) H2) E) :
  wpAny (model X.prog X.w) X.A (call (.ref C) us) (EP X pins σ Q) X.xe s:=by
 have hq:=h (s.heap.objs.size + 1) s.heap.objs.size (I.hok.fresh (Nat.le_succ _)) (I.hok.fresh (Nat.le_refl _)) (Nat.ne_of_lt (Nat.lt_succ_self _))
 have I2:=Inv.made (C:=C) I
 have r2:Vals (V.ref (s.heap.objs.size + 1) :: (vs++dvs)) (Value.ref (s.heap.objs.size + 1) :: (us++ds)):=.cons rfl (r.append hd)
 have hl:(Value.ref (s.heap.objs.size + 1) :: us++ds).length=ps.length:=by
  have e:=r2.length
  rw [F.len _ _ _ _ hq] at e
  exact e.symm
 refine wpAny_call (make_map (f:=f) I.kIn M.makes M.init (beq_iff_eq.mp M.fn) (codeAny_mono (F.run _ X.stack _ _ ⟨Value.ref (s.heap.objs.size + 1) :: us,[]⟩ (Value.ref (s.heap.objs.size + 1) :: (us++ds)) _ _ E (hr.make C us [])
  (I2.env0.make C us []) (hb _ (Value.ref (s.heap.objs.size + 1) :: us) I2.kIn hl) r2 hq) fun r s' hq'=>?_))
 cases r with
 | error e=>exact hx pins σ _ _ e s' I2 hq'
 | ok fl =>
  cases fl with
  | ret u =>
   obtain ⟨v,H',I3,rv,ev,q3⟩:=I2.after hq'
   subst ev
   exact ⟨rv,⟨V.ref (s.heap.objs.size + 1),H',I3,rfl,q3⟩⟩
  | next=>exact False.elim hq'
  | brk=>exact False.elim hq'
  | cont=>exact False.elim hq'
theorem pe_make (M:Mk X.K C f) (F:FnOk X.prog X.w X.K X.mg X.base CX k f fd ps sp) (hr:Room (k + 1) X.A) (hg:Gl X x) (hm:X.mg x=some (.ref C)) (hb:Binds X.K fd ps ds) (hd:Vals dvs ds) (hx:Passes CX X E)
  (ha:PA X (e :: es) t) (hdb:(x == ("__debug__" : Str))=false:=by decide) (he:starEach (e :: es) X.env=(false,eval e X.env) :: starEach es X.env:=by rfl) (hpl:(backTo pos (starEach es X.env)).any (·.1)=false:=by rfl) :
  PE X (.Call (.Name x p) (e :: es) [] pos) (tMake C sp dvs E t):=by
 intro pins s σ H Q I h
 refine wpAny_Call_Name_kw (ld_glob I hg hm ?_ hdb)
 refine PySem.W.callWith_K (h₀:=X.base) I.ok.mod.kin M.kp (thn (ha pos pins s σ H _ I h) fun us s1 ⟨vs,H1,I1,r,q⟩=>⟨I1.kIn,?_⟩) he hpl
 exact run_make M F hr hb hd hx I1 r q
end
def PK (X:Cx) (kws:List Keyword) (t:TA):Prop :=
 ∀ (pos:Pos) (pins:List (Addr × Obj)) (s:Shared) (σ:St) (H:Hp) (Q:List V→Hp→Prop),Inv X pins σ H s→t σ H Q→wpAny (model X.prog X.w) X.A (evalAll ((backToKw pos (keywordEach kws X.env)).map (·.2))) (AP X pins σ Q) X.xe s
section
variable {X:Cx} {CX:CXT} {k:Nat} {f C:Addr} {fd:FuncData} {ps ks:List Str} {sp:Sp} {E:XK} {x m:Str} {p pos apos kpos:Pos} {e o:Expr} {es:List Expr} {kws:List Keyword} {te ta:TE} {t tk:TA} {nm:Option Str}
theorem pk_nil:PK X [] tNil:=fun _ _ _ _ H Q I h=>wpAny_evalAll_nil ⟨[],H,I,.nil,h⟩
theorem pk_cons (ha:PE X e te) (hr:PK X kws t):PK X (⟨nm,e,kpos⟩ :: kws) (tCons te t):=by
 intro pos pins s σ H Q I h
 show wpAny _ _ (evalAll ((do let v ← eval e X.env; standAt pos; pure v) :: (backToKw pos (keywordEach kws X.env)).map (·.2))) _ _ s
 refine wpAny_evalAll_cons (wpAny_bind (thn (ha pins s σ H _ I h) fun u s1 ⟨x,H1,I1,r1,q1⟩=>wpAny_bind (wpAny_standAt (wpAny_pure ?_))))
 exact thn (hr pos pins s1 σ H1 _ I1 q1) fun us s2 ⟨xs,H2,I2,r2,q2⟩=>⟨x :: xs,H2,I2,.cons r1 r2,q2⟩
variable {g:List Value→List Value→List Value} {gV:List V→List V→List V}
end
structure FnScope (N P:List Str) (sc:Scope):Prop where
 kind:sc.kind=.function
 co:sc.isCoroutine=false
 gen:sc.isGenerator=false
 nd:N.Nodup
 pre:N.take P.length=P
 par:∀ x ∈ P,sc.names.lookup x=some .local ∨ sc.names.lookup x=some .cell
 nofree:∀ y ∈ sc.names,y.2 ≠ .free
theorem bindL_out {kindOf:Str→Option NameKind} {x:Str}:∀ {binds:List (Str × Value)} {m:Str→Option Value},(∀ v,(x,v) ∉ binds)→bindL kindOf binds m x=m x
 | [],_,_=>rfl
 | (n,v) :: r,m,h=>by
  unfold bindL
  rw [bindL_out fun w hw=>h w (List.mem_cons_of_mem _ hw)]
  split
  ·have:x ≠ n:=by rintro rfl; exact h v List.mem_cons_self
   simp [this]
  ·rfl
theorem bindC_out {kindOf:Str→Option NameKind} {x:Str}:∀ {binds:List (Str × Value)} {m:Str→Option Value},(∀ v,(x,v) ∉ binds)→bindC kindOf binds m x=m x
 | [],_,_=>rfl
 | (n,v) :: r,m,h=>by
  unfold bindC
  rw [bindC_out fun w hw=>h w (List.mem_cons_of_mem _ hw)]
  split
  ·rfl
  ·have:x ≠ n:=by rintro rfl; exact h v List.mem_cons_self
   simp [this]
theorem bindL_get {kindOf:Str→Option NameKind} {x:Str} {v:Value}:∀ {P:List Str} {vs:List Value} {i:Nat} {m:Str→Option Value},P.Nodup→P[i]?=some x→vs[i]?=some v→kindOf x=some .local →
  bindL kindOf (P.zip vs) m x=some v
 | [],_,_,_,_,h,_,_=>by simp at h
 | _ :: _,[],_,_,_,_,h,_=>by simp at h
 | p :: P,w :: vs,0,m,nd,h1,h2,hk=>by
  simp at h1 h2; subst h1; subst h2
  show bindL kindOf ((p,w) :: P.zip vs) m p=_
  unfold bindL
  rw [bindL_out fun v hv=>(List.nodup_cons.mp nd).1 (List.of_mem_zip hv).1,if_pos hk]
  simp
 | p :: P,w :: vs,i + 1,m,nd,h1,h2,hk=>by
  show bindL kindOf ((p,w) :: P.zip vs) m x=_
  unfold bindL
  exact bindL_get (i:=i) (List.nodup_cons.mp nd).2 (by simpa using h1) (by simpa using h2) hk
theorem bindC_get {kindOf:Str→Option NameKind} {x:Str} {v:Value}:∀ {P:List Str} {vs:List Value} {i:Nat} {m:Str→Option Value},P.Nodup→P[i]?=some x→vs[i]?=some v→kindOf x ≠ some .local →
  bindC kindOf (P.zip vs) m x=some v
 | [],_,_,_,_,h,_,_=>by simp at h
 | _ :: _,[],_,_,_,_,h,_=>by simp at h
 | p :: P,w :: vs,0,m,nd,h1,h2,hk=>by
  simp at h1 h2; subst h1; subst h2
  show bindC kindOf ((p,w) :: P.zip vs) m p=_
  unfold bindC
  rw [bindC_out fun v hv=>(List.nodup_cons.mp nd).1 (List.of_mem_zip hv).1,if_neg hk]
  simp
 | p :: P,w :: vs,i + 1,m,nd,h1,h2,hk=>by
  show bindC kindOf ((p,w) :: P.zip vs) m x=_
  unfold bindC
  exact bindC_get (i:=i) (List.nodup_cons.mp nd).2 (by simpa using h1) (by simpa using h2) hk
def start (N:List Str) (vs:List V):St:=vs.map some++List.replicate (N.length - vs.length) none
def cxOf (CX:CXT) (P:Program) (w:World) (K:PySem.W.Frag) (mg:Str→Option Value) (base:Heap) (N:List Str) (qual:Str) (scope:Scope) (f:Addr) (cd:Value) (A:Around) (outer:List Env) (s:Shared) (H:Hp) (E:XK):Cx where
 prog:=P
 w:=w
 K:=K
 mg:=mg
 base:=base
 A:=A.deeper (envOfC qual scope s.heap.objs.size f cd)
 N:=N
 s₀:=s
 H₀:=H
 env:=envOfC qual scope s.heap.objs.size f cd
 outer:=outer
 stack:=envOfC qual scope s.heap.objs.size f cd :: outer
 ex:=[]
 calm:=true
 fn:=fun _=>true
 pn:=[]
 xe:=fun e s'=>wpAny (model P w) (A.deeper (envOfC qual scope s.heap.objs.size f cd)) (leaving (envOfC qual scope s.heap.objs.size f cd) e) (fun _ s''=>CX outer H s E e s'') (fun e' s''=>CX outer H s E e' s'') s'
theorem cell_has {sc:Scope} {n:Nat} {x:Str} (h:sc.names.lookup x=some .cell):∃ c,(cellsFrom n sc.names []).lookup x=some c:=by
 have q:=PySem.W.cellsFrom_some sc.names n [] (.inl h)
 exact Option.isSome_iff_exists.mp q
theorem inv_start {CX:CXT} {P:Program} {w:World} {K:PySem.W.Frag} {mg:Str→Option Value} {base:Heap} {N ps:List Str} {qual:Str} {scope:Scope} {f:Addr} {cd:Value} {A:Around} {outer:List Env} {s s1:Shared} {H:Hp} {E:XK} {us:List Value} {vs:List V}
  (S:FnScope N ps scope) (hd:A.handled=none) (e0:Env0 P w K mg base A outer s H) (hl:vs.length=ps.length) (r:Vals vs us)
  (x:InCallC s s.heap.objs.size (bindL (envOfC qual scope s.heap.objs.size f cd).kindOf (ps.zip us) fun _=>none) (cellsFrom (s.heap.objs.size + 1) scope.names []) (bindC (envOfC qual scope s.heap.objs.size f cd).kindOf (ps.zip us) fun _=>none) s1) :
  Inv (cxOf CX P w K mg base N qual scope f cd A outer s H E) [] (start N vs) H s1:=by
 have hpl:ps.length≤N.length:=by have:=congrArg List.length S.pre; rw [List.length_take] at this; omega
 obtain ⟨h1,tk,rfl,hk⟩:=x.done
 have noA:∀ b:Addr,b ∉ (cxOf CX P w K mg base N qual scope f cd A outer s H E).ex:=fun b z=>absurd (show b ∈ ([]:List Addr) from z) (by simp)
 refine ⟨⟨e0.mod,S.kind,rfl,rfl,Nat.le_refl _,fun y z c h1 h2=>?_,fun y hy=>?_,fun y c _ h=>?_,fun _=>hd,Around.frames_deeper e0.frames,.inr ⟨rfl,rfl⟩,fun b z=>absurd z (noA b),e0.bs,e0.bsz,fun b _ _=>noA b,fun b z=>absurd z (noA b),e0.funs,e0.frf⟩,
  rfl,e0.bare,Un.kept hk,⟨_,x.toInCall.ns,fun i y v h1 h2 h3=>?_⟩,fun y c h=>⟨_,x.cell y c h⟩,e0.hok.fresh (Nat.le_refl _),fun y c h=>?_,fun p hp=>absurd (show p ∈ ([]:List (Addr × Obj)) from hp) (by simp),e0.hok.kept hk,?_⟩
 ·exact name_of_addr x.apart (PySem.mem_of_lookup h1) (PySem.mem_of_lookup h2)
 ·have hy:scope.names.lookup y=some .cell ∨ scope.names.lookup y=some .free:=hy
  rcases hy with hy | hy
  ·exact cell_has hy
  ·exact absurd rfl (S.nofree _ (PySem.mem_of_lookup hy))
 ·exact Nat.le_of_lt (x.above y c (PySem.mem_of_lookup h))
 ·have hi:i < vs.length:=by
   unfold start at h2
   by_cases hi:i < vs.length
   ·exact hi
   ·rw [List.getElem?_append_right (by simpa using hi)] at h2
    rw [List.getElem?_replicate] at h2
    split at h2 <;> cases h2
  have ha:vs[i]?=some v:=by
   unfold start at h2
   rw [List.getElem?_append_left (by simpa using hi),List.getElem?_map] at h2
   cases e:vs[i]? with
   | none=>rw [e] at h2; cases h2
   | some a=>rw [e] at h2; cases h2; rfl
  obtain ⟨u,hu,rv⟩:=r.get ha
  have hp:ps[i]?=some y:=by
   rw [← S.pre,List.getElem?_take_of_lt (by omega)]; exact h1
  have ndP:ps.Nodup:=by rw [← S.pre]; exact S.nd.sublist (List.take_sublist _ _)
  refine ⟨u,rv,?_⟩
  rcases S.par y (List.mem_of_getElem? hp) with k | k
  ·exact .inl ⟨k,bindL_get ndP hp hu k⟩
  ·obtain ⟨c,e⟩:=cell_has (n:=s.heap.objs.size + 1) k
   refine .inr ⟨.inl k,c,e,?_⟩
   have q:=x.cell y c e
   rw [bindC_get ndP hp hu (by show scope.names.lookup y ≠ _; rw [k]; decide)] at q
   exact q
 ·exact e0.hok.fresh (Nat.le_of_lt (x.above y c (PySem.mem_of_lookup h)))
 ·unfold start
  show _=N.length
  rw [List.length_append,List.length_map,List.length_replicate]
  omega
theorem fn_of {CX:CXT} {P:Program} {w:World} {K:PySem.W.Frag} {mg:Str→Option Value} {base:Heap} {k:Nat} {f:Addr} {name qual:Str} {params:Arguments} {body:List Stmt} {scope:Scope} {dV kV doc pm cdv ct oc:Value} {an od:Option Addr}
  {osl:Array (Option Value)} {N ps:List Str} {sp:Sp} (lk:K.lookup f=some ⟨oc,od,.func (PySem.W.fnOf name qual params body scope dV kV doc pm an cdv ct),osl⟩) (hcd:PySem.W.codeIn K cdv qual=true) (S:FnScope N ps scope)
  (len:∀ vs H Q E,sp vs H Q E→vs.length=ps.length)
  (hbody:∀ (A:Around) (outer:List Env) (s:Shared) (H:Hp) (vs:List V) (Q:VK) (E:XK),Room k (A.deeper (envOfC qual scope s.heap.objs.size f cdv))→sp vs H Q E →
   ∃ t,PSs (cxOf CX P w K mg base N qual scope f cdv A outer s H E) body t∧t { nx:=fun _ H'=>Q .non H',rt:=Q } (start N vs) H) :
  FnOk P w K mg base CX (k + 1) f (PySem.W.fnOf name qual params body scope dV kV doc pm an cdv ct) ps sp:=by
 refine ⟨len,fun A outer s H args us vs Q E hr e0 hb r hsp=>?_⟩
 have hl:=len _ _ _ _ hsp
 have KX:K.In s.heap:=e0.mod.kin.keeps fun b o e=>(e0.bs b o e).1
 have lim:s.heap.NoLimit:=e0.mod.nolimit.keeps fun b o e=>(e0.bs b o e).1
 have hkind:∀ y ∈ ps.zip us,scope.names.lookup y.1=some .local ∨ (scope.names.lookup y.1=some .cell∧((cellsFrom (s.heap.objs.size + 1) scope.names []).lookup y.1).isSome=true):=fun ⟨n,v⟩ hy=>by
  rcases S.par n (List.of_mem_zip hy).1 with q | q
  ·exact .inl q
  ·exact .inr ⟨q,PySem.W.cellsFrom_some _ _ _ (.inl q)⟩
 refine codeAny_call_function hr.depth (KX _ _ lk) rfl S.co S.gen rfl (PySem.W.codeRec_of KX hcd) (hb _ _ _ _ ?_)
 refine wpAny_newFunctionEnv_cells S.kind hkind fun env he s1 x=>?_
 subst he
 refine ⟨lim.keeps x.toInCall.keep,codeAny_func ?_⟩
 obtain ⟨t,ht,hq⟩:=hbody A outer s H vs Q E (hr.deeper _) hsp
 have I:Inv (cxOf CX P w K mg base N qual scope f cdv A outer s H E) [] (start N vs) H s1:=inv_start S hr.hd e0 hl r x
 refine wpAny_mono (ht [] s1 (start N vs) H _ I hq) (fun fl s' hs=>?_) fun e s' hs=>hs
 have fin:∀ {σ':St} {H':Hp} {v:V} {u:Value},Inv (cxOf CX P w K mg base N qual scope f cdv A outer s H E) [] σ' H' s'→RelV v u→Q v H'→CE outer P w H s Q u s' :=
  fun {σ' H' v u} J rv q=>⟨v,H',J.os,J.bare,J.base,J.hok,rv,q⟩
 cases fl with
 | ret u =>
  obtain ⟨v,σ',H',J,rv,q⟩:=hs
  exact fin J rv q
 | next =>
  obtain ⟨σ',H',J,q⟩:=hs
  exact fin (v:=V.non) (u:=Value.none) J rfl q
 | brk =>
  obtain ⟨_,_,_,q⟩:=hs
  exact False.elim q
 | cont =>
  obtain ⟨_,_,_,q⟩:=hs
  exact False.elim q
end L2
namespace L2
open PySem PySem.Spec PyProof.Rows
section
variable {X:Cx} {x:Str} {p pos:Pos} {e:Expr} {es:List Expr} {t:TA} {id T:String} {r:List V→Hp→VK→Prop}
def tCB (r:List V→Hp→VK→Prop) (t:TA):TE:=fun σ H Q=>t σ H fun vs H1=>r vs H1 Q
theorem pe_callB (hc:CallR X (.builtin id) r) (hg:Gl X x) (hm:X.mg x=none) (hv:bootBuiltins x=some (.builtin id)) (ha:PA X (e :: es) t) (hn:x ≠ "__name__" := by decide) (hdb:(x == ("__debug__" : Str))=false:=by decide)
  (he:starEach (e :: es) X.env=(false,eval e X.env) :: starEach es X.env:=by rfl) (hpl:(backTo pos (starEach es X.env)).any (·.1)=false:=by rfl):PE X (.Call (.Name x p) (e :: es) [] pos) (tCB r t):=by
 intro pins s σ H Q I h
 refine wpAny_Call_Name_kw (ld_blt I hg hm hv ?_ hn hdb)
 exact PyProof.Rows.callWith_builtin1 (thn (ha pos pins s σ H _ I h) fun us s1 ⟨vs,H1,I1,r1,q1⟩=>hc pins s1 σ H1 vs us Q I1 r1 q1) he hpl
theorem pe_callTy (hc:CallR X (.type T) r) (hg:Gl X x) (hm:X.mg x=none) (hv:bootBuiltins x=some (.type T)) (ha:PA X (e :: es) t) (hn:x ≠ "__name__" := by decide) (hdb:(x == ("__debug__" : Str))=false:=by decide)
  (he:starEach (e :: es) X.env=(false,eval e X.env) :: starEach es X.env:=by rfl) (hpl:(backTo pos (starEach es X.env)).any (·.1)=false:=by rfl):PE X (.Call (.Name x p) (e :: es) [] pos) (tCB r t):=by
 intro pins s σ H Q I h
 refine wpAny_Call_Name_kw (ld_blt I hg hm hv ?_ hn hdb)
 exact PyProof.Rows.callWith_type1 (thn (ha pos pins s σ H _ I h) fun us s1 ⟨vs,H1,I1,r1,q1⟩=>hc pins s1 σ H1 vs us Q I1 r1 q1) he hpl
end
end L2
namespace L2
open PySem PySem.Spec PyProof.Rows
section
variable {κ:Type} [DecidableEq κ]
end
theorem kV_is {P:Program} {w:World} {k:Key} {u:Value} (r:RelV (kV k) u):(mixKind P w).is k u=true:=by
 cases k with
 | inl i=>obtain ⟨t,e⟩:=(show ∃ t,u=Value.int i t from r); subst e; exact mixKind_int P w i t
 | inr x=>obtain ⟨t,e⟩:=(show ∃ t,u=Value.str x t from r); subst e; exact mixKind_str P w x t
section
variable {P:Program} {w:World} {H:Hp} {h:Heap} {a:Addr}
end
section
variable {X:Cx} {pins:List (Addr × Obj)} {σ:St} {H:Hp} {s:Shared} {a:Addr} {y v:V} {u r:Value} {o:Option V} {A:Around} {E:Value→Shared→Prop}
end
section
variable {X:Cx} {pins:List (Addr × Obj)} {σ:St} {H:Hp} {s:Shared} {a:Addr} {kvs:List (Key × V)} {k:Key} {u:Value} {A:Around} {E:Value→Shared→Prop}
end
def NoSl (i:Expr):Prop:=∀ ov iv,subscripted i false ov iv=operate [ov,iv] (getItem ov iv)
theorem subD_of {prog:Program} {w:World} {A:Around} {E:Value→Shared→Prop} {s:Shared} {env:Env} {value slice:Expr} {pos:Pos} {T id:String} {Q:Value→Shared→Prop}
  (hl:typeLookup (.type T) "__getitem__" = pure (some (.builtin id))) (hs:NoSl slice)
  (h:wpAny (model prog w) A (eval value env) (fun o s₁=>wpAny (model prog w) A (eval slice env) (fun i s₂=>s₂.TypeIs o T∧wpAny (model prog w) A (getItem o i) Q E s₂) E s₁) E s) :
  wpAny (model prog w) A (eval (.Subscript value slice pos) env) Q E s:=by
 refine Subscript_ (wpAny_mono h (fun o s₁ h₁=>wpAny_mono h₁ (fun i s₂ h₂=>?_) fun _ _ x=>x) fun _ _ x=>x)
 obtain ⟨hT,h₂⟩:=h₂
 unfold subscriptTail
 refine wpAny_bind ?_
 rw [getitemInPython_of_ne hT.not_modules]
 refine wpAny_bind (wpAny_specialOf hT hl ?_)
 have fin:wpAny (model prog w) A (subscripted slice false o i) (fun r s₃=>wpAny (model prog w) A (letTemporaryGo value o r >>= fun _=>pure r) Q E s₃) E s₂:=by
  rw [hs o i]
  exact wpAny_operating (wpAny_mono h₂ (fun r s₃ h₃=>wpAny_bind (wpAny_letTemporaryGo (wpAny_pure h₃))) fun _ _ x=>x)
 first
  | exact wpAny_pure (wpAny_bind fin)
  | exact wpAny_bind (wpAny_pure (wpAny_bind fin))
  | exact wpAny_bind fin
section
variable {X:Cx} {o i e value:Expr} {pos pos' tpos:Pos} {td ty tv:TE}
end
section
variable {X:Cx} {pos:Pos}
end
section
variable {X:Cx} {pins:List (Addr × Obj)} {σ:St} {H:Hp} {s:Shared} {a:Addr} {y d:V} {u r:Value} {o:Option V} {A:Around} {E:Value→Shared→Prop}
end
section
variable {X:Cx} {o e f:Expr} {apos cpos:Pos} {td ty tx:TE}
end
section
variable {X:Cx} {pins:List (Addr × Obj)} {σ:St} {H:Hp} {s:Shared} {a:Addr} {kvs:List (Key × V)} {A:Around} {E:Value→Shared→Prop}
end
section
variable {X:Cx} {pins:List (Addr × Obj)} {σ:St} {H:Hp} {s:Shared} {a:Addr} {y:V} {u:Value} {A:Around} {E:Value→Shared→Prop}
end
end L2
namespace HT
open PySem PyProof.Rows
section
open PySem.SeqAt
open PySem.AutoSeq1 (wpAny_loadPart')
open PySem.MeetsSeq PySem.MeetsSeq2 PySem.MeetsSeq3
end
section
variable {prog:Program} {w:World} {A:Around} {E:Value→Shared→Prop} {s:Shared}
theorem cat_tup {t b:Addr} {vs ws:List Value} {Q:Value→Shared→Prop} (ht:IsTup s.heap t vs.toArray) (hb:IsTup s.heap b ws.toArray) (hv:vs ≠ [])
  (h1:ws=[]→Q (.ref t) s) (h2:ws ≠ []→Q (.ref s.heap.objs.size) { s with heap:=s.heap.push { cls:=.type "tuple",data:=.seq (vs++ws).toArray } })
  (hsz:vs.length + ws.length≤sizeLine):wpAny (model prog w) A (binaryOp .Add (.ref t) (.ref b)) Q E s:=by
 obtain ⟨⟨cls,dd,data,sl⟩,ho,hc,n,hd⟩:=id ht
 obtain ⟨⟨cls2,dd2,data2,sl2⟩,ho2,hc2,n2,hd2⟩:=id hb
 simp only at hc hd hc2 hd2
 subst hc hd hc2 hd2
 have e:vs.toArray++ws.toArray=(vs++ws).toArray:=by simp
 by_cases hw:ws=[]
 ·exact concat_meets ⟨_,ho,rfl⟩ ⟨_,ho2,rfl⟩ noFill_tuple_add seq_tuple_add PySem.F.slot_tuple_add PySem.F.entry_tuple_add (PySem.F.args_tuple_add_2 _ _)
   (tuple_addW1 t b vs.toArray ws.toArray n n2 dd dd2 sl sl2 (by simpa using hv) (by simp [hw])) ⟨ho,ho2,h1 hw⟩
 ·refine concat_meets ⟨_,ho,rfl⟩ ⟨_,ho2,rfl⟩ noFill_tuple_add seq_tuple_add PySem.F.slot_tuple_add PySem.F.entry_tuple_add (PySem.F.args_tuple_add_2 _ _)
   (tuple_addW2 t b vs.toArray ws.toArray n n2 dd dd2 sl sl2 (by simpa using hv) (by simpa using hw) (by rw [List.size_toArray,List.size_toArray]; exact hsz)) ⟨ho,ho2,?_⟩
  rw [e]
  exact h2 hw
def sIx (n d:Nat):Option Int→Nat
 | none=>d
 | some v=>if v < 0 then (v + (n:Int)).toNat else min v.toNat n
theorem sIx_none (n d:Nat):sIx n d none=d:=rfl
theorem sIx_nat (n d k:Nat):sIx n d (some (k:Int))=min k n:=by
 show (if (k:Int) < 0 then ((k:Int) + (n:Int)).toNat else min (k:Int).toNat n)=min k n
 rw [if_neg (by omega),Int.toNat_natCast]
theorem sIx_le (n d:Nat) (hd:d≤n) (o:Option Int):sIx n d o≤n:=by
 cases o with
 | none=>exact hd
 | some v =>
  show (if v < 0 then (v + (n:Int)).toNat else min v.toNat n)≤n
  by_cases hv:v < 0
  ·rw [if_pos hv]; omega
  ·rw [if_neg hv]; exact Nat.min_le_right _ _
theorem clip_eq (v:Int) (n d:Nat):(if v < 0 then max (v + (n:Int)) 0 else min v (n:Int))=((sIx n d (some v):Nat):Int):=by
 show (if v < 0 then max (v + (n:Int)) 0 else min v (n:Int))=(((if v < 0 then (v + (n:Int)).toNat else min v.toNat n):Nat):Int)
 by_cases hv:v < 0
 ·simp only [if_pos hv]; omega
 ·simp only [if_neg hv]; omega
theorem adjust_gen (lo hi:Option Int) (n:Nat):Builtin.Slice.sliceAdjust lo hi 1 (n:Int)=(((sIx n 0 lo:Nat):Int),((sIx n n hi:Nat):Int)):=by
 have h1:¬ ((1:Int) < 0):=by omega
 unfold Builtin.Slice.sliceAdjust
 simp only [h1,if_false]
 refine Prod.ext ?_ ?_
 ·cases lo with
  | none=>rfl
  | some v=>exact clip_eq v n 0
 ·cases hi with
  | none=>rfl
  | some v=>exact clip_eq v n n
theorem places_gen (i j:Nat):Builtin.Slice.slicePlaces (i:Int) (j:Int) 1=j - i:=by
 unfold Builtin.Slice.slicePlaces
 have h1:(1:Int) > 0:=by omega
 simp only [h1,if_true,Int.ediv_one]
 split <;> omega
theorem slicePart_ {v:Value} {o:Option Int} {Q:Option Int→Shared→Prop} (p:IsPart v o) (h:Q o s):wpAny (model prog w) A (Builtin.Slice.slicePartIndex v) Q E s:=by
 cases p with
 | none=>exact slicePart_none h
 | int i t=>exact slicePart_int h
theorem sliceApplied_gen {sl:Addr} {vl vu:Value} {lo hi:Option Int} {n:Nat} {Q:Int × Int × Nat→Shared→Prop} (hs:s.heap.IsSliceOf sl vl vu .none) (pl:IsPart vl lo) (pu:IsPart vu hi)
  (h:Q (((sIx n 0 lo:Nat):Int),1,sIx n n hi - sIx n 0 lo) s):wpAny (model prog w) A (Builtin.Slice.sliceApplied (.ref sl) (pure (n:Int))) Q E s:=by
 obtain ⟨os,hos,hcs,hds⟩:=id hs
 unfold Builtin.Slice.sliceApplied Builtin.Slice.sliceFields
 refine wpAny_bind (wpAny_bind (wpAny_field hos hds (x:=vl) rfl (wpAny_bind (wpAny_field hos hds (x:=vu) rfl (wpAny_bind (wpAny_field hos hds (x:=.none) rfl (wpAny_pure ?_)))))))
 refine wpAny_bind (slicePart_none ?_)
 show wpAny _ _ (if ((1:Int) == 0)=true then _ else _) _ _ s
 rw [if_neg (by decide)]
 refine wpAny_bind (slicePart_ pl (wpAny_bind (slicePart_ pu (wpAny_bind (wpAny_pure ?_)))))
 show wpAny _ _ (match Builtin.Slice.sliceAdjust lo hi 1 (n:Int) with | (lo,hi)=>pure (lo,(1:Int),Builtin.Slice.slicePlaces lo hi 1)) _ _ s
 rw [adjust_gen lo hi n]
 show wpAny _ _ (pure (((sIx n 0 lo:Nat):Int),(1:Int),Builtin.Slice.slicePlaces ((sIx n 0 lo:Nat):Int) ((sIx n n hi:Nat):Int) 1)) _ _ s
 rw [places_gen]
 exact wpAny_pure h
theorem pick_gen (xs:Array Value) (i k:Nat):((List.range k).filterMap fun (m:Nat)=>xs[((i:Int) + (m:Int) * 1).toNat]?).toArray=((xs.toList.drop i).take k).toArray:=by
 have e:(fun (m:Nat)=>xs[((i:Int) + (m:Int) * 1).toNat]?)=fun m=>xs[i + m]?:=by
  funext m
  have:((i:Int) + (m:Int) * 1).toNat=i + m:=by omega
  rw [this]
 rw [e]
 have:=pick_run xs i k
 rw [List.filterMap_map] at this
 have e2:((fun x=>xs[x]?) ∘ fun x=>i + x)=fun m=>xs[i + m]?:=rfl
 rw [e2] at this
 rw [this]
theorem getItem_tuple_cut {t sl:Addr} {items:Array Value} {vl vu:Value} {lo hi:Option Int} {Q:Value→Shared→Prop} (ht:IsTup s.heap t items) (hs:s.heap.IsSliceOf sl vl vu .none) (pl:IsPart vl lo) (pu:IsPart vu hi)
  (hw:¬ (sIx items.size 0 lo=0∧sIx items.size items.size hi=items.size))
  (h:Q (.ref s.heap.objs.size) { s with heap:=s.heap.push { cls:=.type "tuple",data:=.seq ((items.toList.drop (sIx items.size 0 lo)).take (sIx items.size items.size hi - sIx items.size 0 lo)).toArray } })
  (hsz:items.size≤sizeLine):wpAny (model prog w) A (getItem (.ref t) (.ref sl)) Q E s:=by
 have htake:sizeOk (.seq ((items.toList.drop (sIx items.size 0 lo)).take (sIx items.size items.size hi - sIx items.size 0 lo)).toArray):=by
  show ((items.toList.drop (sIx items.size 0 lo)).take (sIx items.size items.size hi - sIx items.size 0 lo)).toArray.size≤sizeLine
  rw [List.size_toArray,List.length_take,List.length_drop,Array.length_toList]
  omega
 have hj:sIx items.size items.size hi≤items.size:=sIx_le _ _ (Nat.le_refl _) hi
 obtain ⟨os,hos,hcs,hds⟩:=id hs
 have hTs:s.TypeIs (.ref sl) "slice" := ⟨os,hos,hcs⟩
 unfold getItem
 try with_reducible refine wpAny_holding ?_
 first | refine wpAny_bind (wpAny_pure ?_) | skip
 refine wpAny_bind (wpAny_sequenceKey ht.typeIs (by decide) ?_)
 refine wpAny_bind (wpAny_callSpecial?_slot (name:=Str.ofString "__getitem__") ht.typeIs PyProof.Rows.slot_tuple_getitem
  (wpAny_call_entry PyProof.Rows.slot_tuple_getitem ht.typeIs entry_tuple_getitem ?_ (args_tuple_getitem _ _)))
 show wpAny _ _ (Builtin.Tuple.tupleItemsOf (.ref t) >>= _) _ _ s
 refine wpAny_bind (tupleItemsOf_ ht ?_)
 refine wpAny_bind (wpAny_typeOf hTs ?_)
 rw [if_pos (by decide)]
 refine wpAny_bind (sliceApplied_gen hs pl pu ?_)
 have hno:¬ ((((sIx items.size 0 lo:Nat):Int) == 0 && (1:Int) == 1 && (sIx items.size items.size hi - sIx items.size 0 lo) == items.size)=true):=by
  intro q
  rw [Bool.and_eq_true,Bool.and_eq_true] at q
  have q1:((sIx items.size 0 lo:Nat):Int)=0:=eq_of_beq q.1.1
  have q2:sIx items.size items.size hi - sIx items.size 0 lo=items.size:=eq_of_beq q.2
  exact hw ⟨by omega,by omega⟩
 show wpAny _ _ (if (((sIx items.size 0 lo:Nat):Int) == 0 && (1:Int) == 1 && (sIx items.size items.size hi - sIx items.size 0 lo) == items.size)=true then _ else _) _ _ s
 rw [if_neg hno,pick_gen]
 first
  | exact wpAny_bind (m:=Builtin.Tuple.tupleExact _) (wpAny_newObj_type (wpAny_pure ⟨_,rfl,wpAny_pure h⟩) htake)
  | exact wpAny_bind (m:=Builtin.Tuple.tupleExact _) (wpAny_newObj_type (wpAny_bind (wpAny_pure (wpAny_pure ⟨_,rfl,wpAny_pure h⟩))) htake)
  | exact wpAny_bind (wpAny_bind (m:=Builtin.Tuple.tupleExact _) (wpAny_newObj_type (wpAny_pure (wpAny_pure ⟨_,rfl,wpAny_pure h⟩)) htake))
  | exact wpAny_bind (wpAny_bind (m:=Builtin.Tuple.tupleExact _) (wpAny_newObj_type (wpAny_pure ⟨_,rfl,wpAny_pure h⟩) htake))
end
end HT
namespace L2
open PySem PySem.Spec PyProof.Rows
abbrev TO:=St→Hp→(Option Int→Hp→Prop)→Prop
def PO (X:Cx) (e:Option Expr) (t:TO):Prop :=
 ∀ (pins:List (Addr × Obj)) (s:Shared) (σ:St) (H:Hp) (Q:Option Int→Hp→Prop),Inv X pins σ H s→t σ H Q →
  wpAny (model X.prog X.w) X.A (evalPart e X.env) (fun u s'=>∃ o H',Inv X pins σ H' s'∧IsPart u o∧Q o H') X.xe s
def tNoPart:TO:=fun _ H Q=>Q none H
def tPart (t:TE):TO:=fun σ H Q=>t σ H fun x H1=>∃ i,x=.int i∧Q (some i) H1
theorem intsAre_of {ns:List Int}:∀ {us:List Value},Vals (ns.map V.int) us→IntsAre us ns:=by
 induction ns with
 | nil=>intro us r; rw [List.map_nil] at r; cases r; exact .nil
 | cons n ns ih =>
  intro us r
  rw [List.map_cons] at r
  cases r with
  | cons r1 r2 =>
   obtain ⟨t,e⟩:=r1
   subst e
   exact .cons n t (ih r2)
section
variable {X:Cx} {e:Expr} {te:TE} {lo hi:Option Expr} {tl th:TO} {pos p2:Pos}
theorem po_none:PO X none tNoPart:=by
 intro pins s σ H Q I h
 rw [evalPart_none]
 exact wpAny_pure ⟨none,H,I,.none,h⟩
theorem po_some (h:PE X e te):PO X (some e) (tPart te):=by
 intro pins s σ H Q I hw
 rw [evalPart_some]
 refine thn (h pins s σ H _ I hw) fun u s1 ⟨x,H1,I1,r1,q1⟩=>?_
 obtain ⟨i,rfl,q⟩:=q1
 obtain ⟨t,rfl⟩:=r1
 exact ⟨some i,H1,I1,.int i t,q⟩
def SlR (X:Cx) (r:V→Option Int→Option Int→Hp→VK→Prop):Prop :=
 ∀ (pins:List (Addr × Obj)) (s:Shared) (σ:St) (H:Hp) (x:V) (v vl vu:Value) (lo hi:Option Int) (sl:Addr) (Q:VK),Inv X pins σ H s→RelV x v→s.heap.IsSliceOf sl vl vu .none→IsPart vl lo→IsPart vu hi→r x lo hi H Q →
  ∃ T id,typeLookup (.type T) "__getitem__" = pure (some (.builtin id))∧s.TypeIs v T∧wpAny (model X.prog X.w) X.A (getItem v (.ref sl)) (EP X pins σ Q) X.xe s
def tSl (r:V→Option Int→Option Int→Hp→VK→Prop) (te:TE) (tl th:TO):TE:=fun σ H Q=>te σ H fun x H1=>tl σ H1 fun l H2=>th σ H2 fun u H3=>r x l u H3 Q
theorem pe_slice {r:V→Option Int→Option Int→Hp→VK→Prop} (hr:SlR X r) (he:PE X e te) (hl:PO X lo tl) (hu:PO X hi th):PE X (.Subscript e (.Slice lo hi none p2) pos) (tSl r te tl th):=by
 intro pins s σ H Q I h
 refine Subscript_ (thn (he pins s σ H _ I h) fun v s1 ⟨x,H1,I1,r1,q1⟩=>?_)
 refine wpAny_Slice (thn (hl pins s1 σ H1 _ I1 q1) fun vl s2 ⟨l,H2,I2,pl,q2⟩=>thn (hu pins s2 σ H2 _ I2 q2) fun vu s3 ⟨u,H3,I3,pu,q3⟩=>?_)
 rw [evalPart_none]
 refine wpAny_pure ?_
 have I4:Inv X pins σ H3 { s3 with heap:=s3.heap.push { cls:=.type "slice",data:=.fields #[vl,vu,.none] } }:=I3.kept (t':=s3.toks) fun b ob q=>Heap.get?_push_of_some _ q
 obtain ⟨T,id,hT,ht,hg⟩:=hr pins { s3 with heap:=s3.heap.push { cls:=.type "slice",data:=.fields #[vl,vu,.none] } } σ H3 x v vl vu l u s3.heap.objs.size Q I4 r1 (Heap.IsSliceOf.new ..) pl pu q3
 show wpAny (model X.prog X.w) X.A (subscriptTail e (.Slice lo hi none p2) v (.ref s3.heap.objs.size)) (EP X pins σ Q) X.xe { s3 with heap:=s3.heap.push { cls:=.type "slice",data:=.fields #[vl,vu,.none] } }
 exact tail_any (ops:=[.ref s3.heap.objs.size,v]) ht hT hg (by with_unfolding_all rfl)
def cutV (xs:List V) (lo hi:Option Int):List V:=(xs.drop (HT.sIx xs.length 0 lo)).take (HT.sIx xs.length xs.length hi - HT.sIx xs.length 0 lo)
theorem cutV_length (xs:List V) (lo hi:Option Int):(cutV xs lo hi).length≤xs.length:=by
 unfold cutV
 rw [List.length_take,List.length_drop]
 omega
def rSlT (K:PySem.W.Frag):V→Option Int→Option Int→Hp→VK→Prop:=fun x lo hi H Q=>∃ a xs,x=.ref a∧SqT K H a xs ∧
 ¬ (HT.sIx xs.length 0 lo=0∧HT.sIx xs.length xs.length hi=xs.length)∧∀ p,H p=none→Q (.ref p) (upd H p (.tup (cutV xs lo hi)))
theorem sl_tup:SlR X (rSlT X.K):=by
 intro pins s σ H x v vl vu lo hi sl Q I rx hs pl pu h
 obtain ⟨a,xs,rfl,hx,hw,q⟩:=h
 cases rx
 obtain ⟨its,r,ht,hz⟩:=I.tuple hx
 have hlen:its.toArray.size=xs.length:=by rw [List.size_toArray]; exact r.length.symm
 refine ⟨"tuple",_,PyProof.Rows.slot_tuple_getitem.lookup,ht.typeIs,?_⟩
 refine HT.getItem_tuple_cut ht hs pl pu (by rw [hlen]; exact hw) ?_ (by rw [hlen]; exact hz)
 rw [hlen]
 refine ⟨.ref s.heap.objs.size,_,I.laid (t':=s.toks) (o:=.tup (cutV xs lo hi)) (fun b ob q=>Heap.get?_push_of_some _ q) (Nat.le_refl _) ?_,rfl,q _ (I.hok.fresh (Nat.le_refl _))⟩
 exact ⟨Nat.le_trans (cutV_length xs lo hi) hz,_,(r.drop (HT.sIx xs.length 0 lo)).take (HT.sIx xs.length xs.length hi - HT.sIx xs.length 0 lo),IsTup.new _ _⟩
def rCatT (K:PySem.W.Frag):R2:=fun x y H Q=>∃ a b xs ys,x=.ref a∧y=.ref b∧SqT K H a xs∧SqT K H b ys∧xs ≠ []∧xs.length + ys.length≤sizeLine ∧
 (ys=[]→Q (.ref a) H)∧(ys ≠ []→∀ p,H p=none→Q (.ref p) (upd H p (.tup (xs++ys))))
theorem Vals.nil_iff {xs:List V} {us:List Value} (r:Vals xs us):us=[] ↔ xs=[]:=by
 cases r with
 | nil=>simp
 | cons _ _=>simp
theorem op_catT:OpR X (binaryOp .Add) (rCatT X.K):=by
 intro pins s σ H x y v u Q I rx ry h
 obtain ⟨a,b,xs,ys,rfl,rfl,ha,hb,hx,hz,q1,q2⟩:=h
 cases rx
 cases ry
 obtain ⟨its,r1,p1,_⟩:=I.tuple ha
 obtain ⟨its2,r2,p2,_⟩:=I.tuple hb
 refine HT.cat_tup p1 p2 (fun z=>hx (r1.nil_iff.mp z)) (fun z=>⟨.ref a,H,I,rfl,q1 (r2.nil_iff.mp z)⟩) (fun z=>?_) (by rw [← r1.length,← r2.length]; exact hz)
 refine ⟨.ref s.heap.objs.size,_,I.laid (t':=s.toks) (o:=.tup (xs++ys)) (fun b ob q=>Heap.get?_push_of_some _ q) (Nat.le_refl _) ?_,rfl,q2 (fun w=>z (r2.nil_iff.mpr w)) _ (I.hok.fresh (Nat.le_refl _))⟩
 exact ⟨by rw [List.length_append]; exact hz,_,r1.append r2,IsTup.new _ _⟩
end
end L2
namespace L2
open PySem PySem.Spec PyProof.Rows
def ixN (n:Nat) (i:Int):Option Nat:=if 0≤i then (if i < n then some i.toNat else none) else if -(n:Int)≤i then some (i + n).toNat else none
def atI {α:Type} (xs:List α) (i:Int):Option α:=(ixN xs.length i).bind fun j=>xs[j]?
theorem ixN_seq {n:Nat} {i:Int} {j:Nat} (h:ixN n i=some j):seqIndex? i n=some j∧j < n∧-(n:Int)≤i∧i < n:=by
 unfold ixN at h
 by_cases h0:0≤i
 ·rw [if_pos h0] at h
  by_cases h1:i < n
  ·rw [if_pos h1] at h
   have e:i.toNat=j:=Option.some.inj h
   exact ⟨by rw [seqIndex_of h0 h1,e],by omega,by omega,h1⟩
  ·rw [if_neg h1] at h; cases h
 ·rw [if_neg h0] at h
  by_cases h1:-(n:Int)≤i
  ·rw [if_pos h1] at h
   have e:(i + n).toNat=j:=Option.some.inj h
   exact ⟨by rw [seqIndex_neg (by omega) h1,e],by omega,h1,by omega⟩
  ·rw [if_neg h1] at h; cases h
theorem atI_get {α:Type} {xs:List α} {i:Int} {v:α} (h:atI xs i=some v):∃ j,seqIndex? i xs.length=some j∧xs[j]?=some v∧j < xs.length∧-(xs.length:Int)≤i∧i < xs.length:=by
 unfold atI at h
 cases e:ixN xs.length i with
 | none=>rw [e] at h; cases h
 | some j =>
  rw [e] at h
  obtain ⟨h1,h2,h3,h4⟩:=ixN_seq e
  exact ⟨j,h1,h,h2,h3,h4⟩
theorem atI_nat {α:Type} {xs:List α} {j:Nat} {v:α} (h:xs[j]?=some v):atI xs (j:Int)=some v:=by
 have hj:j < xs.length:=(List.getElem?_eq_some_iff.mp h).1
 have e:ixN xs.length (j:Int)=some j:=by
  unfold ixN
  rw [if_pos (by omega),if_pos (by omega)]; simp
 unfold atI; rw [e]; exact h
theorem atI_last {α:Type} (xs:List α) (v:α):atI (xs++[v]) (-1)=some v:=by
 have hl:(xs++[v]).length=xs.length + 1:=by simp
 have e:ixN (xs++[v]).length (-1)=some xs.length:=by
  unfold ixN
  rw [hl,if_neg (by decide),if_pos (by omega)]
  congr 1
  omega
 unfold atI
 rw [e]
 show (xs++[v])[xs.length]?=some v
 simp
def PlainIx (b:Expr):Prop:=∀ o i,subscripted b false o i=operate [o,i] (getItem o i)
def IxR (X:Cx) (r:R2):Prop :=
 ∀ (value slice:Expr) (pins:List (Addr × Obj)) (s:Shared) (σ:St) (H:Hp) (x y:V) (v u:Value) (Q:VK),Inv X pins σ H s→RelV x v→RelV y u→r x y H Q →
  subscripted slice false v u=operate [v,u] (getItem v u)→wpAny (model X.prog X.w) X.A (subscriptTail value slice v u) (EP X pins σ Q) X.xe s
def MtR (X:Cx) (id:String) (r:V→List V→Hp→VK→Prop):Prop :=
 ∀ (pins:List (Addr × Obj)) (s:Shared) (σ:St) (H:Hp) (x:V) (xs:List V) (v:Value) (us:List Value) (Q:VK),Inv X pins σ H s→RelV x v→Vals xs us→r x xs H Q →
  wpAny (model X.prog X.w) X.A (call (.builtin id) (v :: us)) (EP X pins σ Q) X.xe s
section
variable {X:Cx} {a b:Expr} {ta tb:TE} {pos:Pos}
theorem pe_ix {r:R2} (hr:IxR X r) (ha:PE X a ta) (hb:PE X b tb) (hs:PlainIx b):PE X (.Subscript a b pos) (tOp r ta tb):=by
 intro pins s σ H Q I h
 exact Subscript_ (binT ha hb I h fun v u s2 x y H2 I2 rx ry q=>hr a b pins s2 σ H2 x y v u Q I2 rx ry q (hs _ _))
def rIxL (K:PySem.W.Frag):R2:=fun x y H Q=>∃ p xs i v,x=.ref p∧y=.int i∧SqL K H p xs∧atI xs i=some v∧Q v H
def rIxT (K:PySem.W.Frag):R2:=fun x y H Q=>∃ p xs i v,x=.ref p∧y=.int i∧SqT K H p xs∧atI xs i=some v∧Q v H
def rIxS:R2:=fun x y H Q=>∃ z i c,x=.str z∧y=.int i∧z.length≤sizeLine∧atI z.cps.toList i=some c∧Q (.str ⟨#[c]⟩) H
theorem ix_list:IxR X (rIxL X.K):=by
 intro value slice pins s σ H x y v u Q I rx ry h hs
 obtain ⟨p,xs,i,z,rfl,rfl,hq,he,q⟩:=h
 cases rx
 obtain ⟨t,rfl⟩:=ry
 obtain ⟨its,r,pl,hz⟩:=I.list hq
 obtain ⟨j,h1,h2,h3,h4,h5⟩:=atI_get he
 obtain ⟨w,ew,rw'⟩:=r.get h2
 have hl:=r.length
 have hn:=line63
 have fin:EP X pins σ Q w s:=⟨z,H,I,rw',q⟩
 by_cases h0:0≤i
 ·have hj:i.toNat=j:=by
   rw [seqIndex_of h0 h5] at h1
   exact Option.some.inj h1
  exact item_listR pl.isList h0 (by omega) (by rw [hj]; simpa using ew) fin hs
 ·have hj:(i + (its.toArray.size:Int)).toNat=j:=by
   rw [seqIndex_neg (by omega) h4] at h1
   rw [List.size_toArray,← hl]
   exact Option.some.inj h1
  exact subscriptTail_builtinR (x:=w) pl.isList.typeIs slot_list_getitem.lookup
   (wpAny_getItem_list_neg (Q:=fun r s'=>r=w∧EP X pins σ Q r s') pl.isList (by omega) (by rw [List.size_toArray] <;> omega) (by omega) (by rw [hj]; simpa using ew) ⟨rfl,fin⟩) hs
theorem ix_tup:IxR X (rIxT X.K):=by
 intro value slice pins s σ H x y v u Q I rx ry h hs
 obtain ⟨p,xs,i,z,rfl,rfl,hq,he,q⟩:=h
 cases rx
 obtain ⟨t,rfl⟩:=ry
 obtain ⟨its,r,pl,hz⟩:=I.tuple hq
 obtain ⟨j,h1,h2,h3,h4,h5⟩:=atI_get he
 obtain ⟨w,ew,rw'⟩:=r.get h2
 have hl:=r.length
 have hn:=line63
 have fin:EP X pins σ Q w s:=⟨z,H,I,rw',q⟩
 exact subscriptTail_builtinR (x:=w) pl.typeIs slot_tuple_getitem.lookup
  (getItem_tuple (j:=j) (Q:=fun r s'=>r=w∧EP X pins σ Q r s') pl (by omega) (by omega) (by rw [List.size_toArray,← hl]; exact h1) (by simpa using ew) ⟨rfl,fin⟩) hs
theorem ix_str:IxR X rIxS:=by
 intro value slice pins s σ H x y v u Q I rx ry h hs
 obtain ⟨z,i,c,rfl,rfl,hz,he,q⟩:=h
 obtain ⟨t,rfl⟩:=rx
 obtain ⟨t',rfl⟩:=ry
 obtain ⟨j,h1,h2,h3,h4,h5⟩:=atI_get he
 have hl:z.cps.toList.length=z.length:=by simp [Str.length]
 rw [hl] at h1 h4 h5
 have hn:=line63
 exact tail_any (typeIs_str s z t) slot_str_getitem.lookup (getItem_str (c:=c) (by
  have e1:decide (i < -(2 ^ 63:Int))=false:=decide_eq_false (by omega)
  have e2:decide (i ≥ 2 ^ 63)=false:=decide_eq_false (by omega)
  rw [e1,e2,Bool.or_false]) (by rw [h1]; simpa using h2) ⟨.str ⟨#[c]⟩,H,I.tok _,⟨_,rfl⟩,q⟩) hs
theorem slice_bounds (lo hi:Option Int) (n:Nat):(sliceBounds lo hi none n).1=((HT.sIx n 0 lo:Nat):Int)∧(sliceBounds lo hi none n).2.1=((HT.sIx n n hi:Nat):Int)∧(sliceBounds lo hi none n).2.2=1:=by
 refine ⟨?_,?_,rfl⟩
 ·cases lo with
  | none=>simp [sliceBounds,HT.sIx]
  | some i =>
   simp only [sliceBounds,HT.sIx,Option.getD_none,show (1:Int) > 0 by decide,if_true]
   by_cases h:i < 0
   ·simp only [h,if_true] <;> omega
   ·simp only [h,if_false] <;> omega
 ·cases hi with
  | none=>simp [sliceBounds,HT.sIx]
  | some i =>
   simp only [sliceBounds,HT.sIx,Option.getD_none,show (1:Int) > 0 by decide,if_true]
   by_cases h:i < 0
   ·simp only [h,if_true] <;> omega
   ·simp only [h,if_false] <;> omega
theorem slicePick_cut (its:List Value) (lo hi:Option Int):slicePick its.toArray lo hi none=((its.drop (HT.sIx its.length 0 lo)).take (HT.sIx its.length its.length hi - HT.sIx its.length 0 lo)).toArray:=by
 obtain ⟨h1,h2,h3⟩:=slice_bounds lo hi its.toArray.size
 unfold slicePick
 rw [h1,h2,h3]
 simp only [sliceRange_one,pick_run,List.size_toArray] <;> rfl
def rSlL (K:PySem.W.Frag):V→Option Int→Option Int→Hp→VK→Prop:=fun x lo hi H Q=>∃ a xs,x=.ref a∧SqL K H a xs∧∀ p,H p=none→Q (.ref p) (upd H p (.lst (cutV xs lo hi)))
theorem sl_list:SlR X (rSlL X.K):=by
 intro pins s σ H x v vl vu lo hi sl Q I rx hs pl pu h
 obtain ⟨a,xs,rfl,hx,q⟩:=h
 cases rx
 obtain ⟨its,r,ht,hz⟩:=I.list hx
 have hlen:=r.length
 refine ⟨"list",_,slot_list_getitem.lookup,ht.isList.typeIs,?_⟩
 refine wpAny_getItem_list_slice ht.isList hs pl pu .none (by simp) ?_ (by rw [List.size_toArray] <;> omega)
 rw [slicePick_cut,← hlen]
 refine ⟨.ref s.heap.objs.size,_,I.laid (t':=s.toks) (o:=.lst (cutV xs lo hi)) (fun b ob q=>Heap.get?_push_of_some _ q) (Nat.le_refl _) ?_,rfl,q _ (I.hok.fresh (Nat.le_refl _))⟩
 exact ⟨Nat.le_trans (cutV_length xs lo hi) hz,_,0,(r.drop (HT.sIx xs.length 0 lo)).take (HT.sIx xs.length xs.length hi - HT.sIx xs.length 0 lo),Heap.get?_push_size _ rfl⟩
def flatV:V→Bool
 | .non=>true
 | .bl _=>true
 | .int _=>true
 | .str _=>true
 | _=>false
def eqV:V→V→Bool
 | .non,.non=>true
 | .bl a,.bl b=>a == b
 | .bl a,.int b=>(if a then 1 else 0) == b
 | .int a,.bl b=>a == (if b then 1 else 0)
 | .int a,.int b=>a == b
 | .str a,.str b=>a == b
 | _,_=>false
theorem eqAt_V {A:Around} {s:Shared} {y x:V} {u v:Value} (ry:RelV y u) (rx:RelV x v) (fy:flatV y=true) (fx:flatV x=true):SeqAt.EqAt A s u v (eqV y x):=by
 cases y with
 | non =>
  cases ry
  cases x with
  | non=>cases rx; exact SeqAt.EqAt.same _
  | bl b=>cases rx; exact SeqAt.EqAt.none_bool b
  | int b=>obtain ⟨t,rfl⟩:=rx; exact SeqAt.EqAt.none_int b t
  | str b=>obtain ⟨t,rfl⟩:=rx; exact SeqAt.EqAt.none_str b t
  | _=>exact absurd (show false=true from fx) Bool.false_ne_true
 | bl a =>
  cases ry
  cases x with
  | non=>cases rx; exact SeqAt.EqAt.bool_none a
  | bl b=>cases rx; exact SeqAt.EqAt.bool_bool a b
  | int b=>obtain ⟨t,rfl⟩:=rx; exact SeqAt.EqAt.bool_int a b t
  | str b=>obtain ⟨t,rfl⟩:=rx; exact SeqAt.EqAt.bool_str a b t
  | _=>exact absurd (show false=true from fx) Bool.false_ne_true
 | int a =>
  obtain ⟨t',rfl⟩:=ry
  cases x with
  | non=>cases rx; exact SeqAt.EqAt.int_none a t'
  | bl b=>cases rx; exact SeqAt.EqAt.int_bool a t' b
  | int b=>obtain ⟨t,rfl⟩:=rx; exact SeqAt.EqAt.int_int a t' b t
  | str b=>obtain ⟨t,rfl⟩:=rx; exact SeqAt.EqAt.int_str a t' b t
  | _=>exact absurd (show false=true from fx) Bool.false_ne_true
 | str a =>
  obtain ⟨t',rfl⟩:=ry
  cases x with
  | non=>cases rx; exact SeqAt.EqAt.str_none a t'
  | bl b=>cases rx; exact SeqAt.EqAt.str_bool a t' b
  | int b=>obtain ⟨t,rfl⟩:=rx; exact SeqAt.EqAt.str_int a t' b t
  | str b=>obtain ⟨t,rfl⟩:=rx; exact SeqAt.EqAt.str_str a t' b t
  | _=>exact absurd (show false=true from fx) Bool.false_ne_true
 | _=>exact absurd (show false=true from fy) Bool.false_ne_true
def eqU (x:V) (u:Value):Bool:=match u with
 | .none=>eqV .non x
 | .bool b=>eqV (.bl b) x
 | .int i _=>eqV (.int i) x
 | .str z _=>eqV (.str z) x
 | _=>false
theorem eqU_of {x y:V} {u:Value} (r:RelV y u) (f:flatV y=true):eqU x u=eqV y x:=by
 cases y with
 | non=>cases r; rfl
 | bl b=>cases r; rfl
 | int i=>obtain ⟨t,rfl⟩:=r; rfl
 | str z=>obtain ⟨t,rfl⟩:=r; rfl
 | _=>exact absurd (show false=true from f) Bool.false_ne_true
theorem any_eqU {x:V}:∀ {xs:List V} {us:List Value},Vals xs us→xs.all flatV=true→us.any (eqU x)=xs.any fun y=>eqV y x
 | _,_,.nil,_=>rfl
 | y :: xs,u :: us,.cons r t,f=>by
  rw [List.all_cons,Bool.and_eq_true] at f
  rw [List.any_cons,List.any_cons,eqU_of r f.1,any_eqU t f.2]
theorem mem_eqAt {A:Around} {s:Shared} {x:V} {v:Value} (rx:RelV x v) (fx:flatV x=true):∀ {xs:List V} {us:List Value},Vals xs us→xs.all flatV=true→∀ u ∈ us,SeqAt.EqAt A s u v (eqU x u)
 | _,_,.nil,_=>fun u hu=>by cases hu
 | y :: xs,u :: us,.cons r t,f=>fun u' hu=>by
  rw [List.all_cons,Bool.and_eq_true] at f
  rcases List.mem_cons.mp hu with rfl | hu
  ·rw [eqU_of r f.1]; exact eqAt_V r rx f.1 fx
  ·exact mem_eqAt rx fx t f.2 u' hu
def inV (x:V) (xs:List V):Bool:=xs.any fun y=>eqV y x
def rIn (K:PySem.W.Frag) (neg:Bool):R2:=fun x y H Q=>∃ p xs,y=.ref p∧(SqL K H p xs ∨ SqT K H p xs)∧flatV x=true∧xs.all flatV=true∧Q (.bl (if neg then !inV x xs else inV x xs)) H
theorem op_in_seq:OpR X (compareOp .In) (rIn X.K false):=by
 intro pins s σ H x y v u Q I rx ry h
 obtain ⟨p,xs,rfl,hq,fx,fs,q⟩:=h
 cases ry
 rcases hq with hq | hq
 ·obtain ⟨its,r,pl,hz⟩:=I.list hq
  refine SeqAt.in_listAt (eqU x) pl.isList (fun w hw=>mem_eqAt rx fx r fs w (by simpa using hw)) ⟨.bl _,H,I,rfl,?_⟩
  rw [show its.toArray.any (eqU x)=its.any (eqU x) by simp,any_eqU r fs]
  exact q
 ·obtain ⟨its,r,pl,hz⟩:=I.tuple hq
  refine SeqAt.in_tupleAt (eqU x) pl (fun w hw=>mem_eqAt rx fx r fs w (by simpa using hw)) ⟨.bl _,H,I,rfl,?_⟩
  rw [show its.toArray.any (eqU x)=its.any (eqU x) by simp,any_eqU r fs]
  exact q
theorem op_notIn_seq:OpR X (compareOp .NotIn) (rIn X.K true):=by
 intro pins s σ H x y v u Q I rx ry h
 obtain ⟨p,xs,rfl,hq,fx,fs,q⟩:=h
 cases ry
 rcases hq with hq | hq
 ·obtain ⟨its,r,pl,hz⟩:=I.list hq
  refine SeqAt.notIn_listAt (eqU x) pl.isList (fun w hw=>mem_eqAt rx fx r fs w (by simpa using hw)) ⟨.bl _,H,I,rfl,?_⟩
  rw [show its.toArray.any (eqU x)=its.any (eqU x) by simp,any_eqU r fs]
  exact q
 ·obtain ⟨its,r,pl,hz⟩:=I.tuple hq
  refine SeqAt.notIn_tupleAt (eqU x) pl (fun w hw=>mem_eqAt rx fx r fs w (by simpa using hw)) ⟨.bl _,H,I,rfl,?_⟩
  rw [show its.toArray.any (eqU x)=its.any (eqU x) by simp,any_eqU r fs]
  exact q
theorem call_len_seq:CallR X (.builtin "len") (fun xs H Q=>∃ p ys,xs=[.ref p]∧(SqL X.K H p ys ∨ SqT X.K H p ys)∧Q (.int ys.length) H):=by
 intro pins s σ H xs us Q I r h
 obtain ⟨p,ys,rfl,hq,q⟩:=h
 obtain ⟨u,rfl,rx⟩:=vals1 r
 cases rx
 have hn:=line63
 rcases hq with hq | hq
 ·obtain ⟨its,r',pl,hz⟩:=I.list hq
  have hlen:=r'.length
  exact Calls.call_len_list pl.isList (by simp only [List.size_toArray] <;> omega) ⟨.int ys.length,H,I.tok _,⟨s.toks + 1,by rw [List.size_toArray,hlen]⟩,q⟩
 ·obtain ⟨its,r',pl,hz⟩:=I.tuple hq
  have hlen:=r'.length
  exact len_tuple pl (by simp only [List.size_toArray] <;> omega) ⟨.int ys.length,H,I.tok _,⟨s.toks + 1,by rw [List.size_toArray,hlen]⟩,q⟩
theorem call_len_str:CallR X (.builtin "len") (fun xs H Q=>∃ z,xs=[.str z]∧z.length≤sizeLine∧Q (.int z.length) H):=by
 intro pins s σ H xs us Q I r h
 obtain ⟨z,rfl,hz,q⟩:=h
 obtain ⟨u,rfl,t,rfl⟩:=vals1 r
 have hn:=line63
 exact len_str (by omega) ⟨.int z.length,H,I.tok _,⟨_,rfl⟩,q⟩
theorem call_tuple_of:CallR X (.type "tuple") (fun xs H Q=>∃ p ys,xs=[.ref p]∧((SqL X.K H p ys∧∀ l,H l=none→Q (.ref l) (upd H l (.tup ys))) ∨ (SqT X.K H p ys∧Q (.ref p) H))):=by
 intro pins s σ H xs us Q I r h
 obtain ⟨p,ys,rfl,h⟩:=h
 obtain ⟨u,rfl,rx⟩:=vals1 r
 cases rx
 rcases h with ⟨hq,q⟩ | ⟨hq,q⟩
 ·obtain ⟨its,r',pl,hz⟩:=I.list hq
  have hlen:=r'.length
  refine call_tuple_list pl.isList (fun h' kp=>?_) (by simp only [List.size_toArray] <;> omega)
  have I1:Inv X pins σ H { s with heap:=h' }:=I.kept (t':=s.toks) kp
  have I2:Inv X pins σ (upd H h'.objs.size (.tup ys)) { s with heap:=h'.push { cls:=.type "tuple",data:=.seq its.toArray } } :=
   I1.laid (t':=s.toks) (fun b o e=>Heap.get?_push_of_some _ e) (Nat.le_refl _) (show ObjOk X.prog X.w _ _ _ (.tup ys) from ⟨hz,its,r',IsTup.new _ _⟩)
  exact ⟨.ref h'.objs.size,_,I2,rfl,q _ (I1.hok.fresh (Nat.le_refl _))⟩
 ·obtain ⟨its,r',pl,hz⟩:=I.tuple hq
  exact call_tuple_same pl ⟨.ref p,H,I,rfl,q⟩
def tyV (K:PySem.W.Frag) (T:String) (x:V) (H:Hp):Prop:=match x with
 | .str _=>T = "str"
 | .int _=>T = "int"
 | .ref p=>(T = "list" ∧ ∃ xs,SqL K H p xs) ∨ (T = "tuple" ∧ ∃ o,K.lookup p=some o∧o.cls=.type "tuple" ∧ o.dict=none) ∨
   (T = "dict" ∧ ((∃ kvs,H p=some (.dK kvs)) ∨ ∃ kvs,H p=some (.dT kvs))) ∨ (T = "set" ∧ ∃ S n,H p=some (.set S n))
 | _=>False
theorem tyV_is {pins:List (Addr × Obj)} {σ:St} {H:Hp} {s:Shared} {T:String} {x:V} {v:Value} (I:Inv X pins σ H s) (r:RelV x v) (ty:tyV X.K T x H) :
  s.TypeIs v T∧∀ a,v=.ref a→∃ ob,s.heap.get? a=some ob∧ob.dict=none:=by
 cases x with
 | str z =>
  obtain ⟨t,rfl⟩:=r
  cases (show T = "str" from ty)
  exact ⟨typeIs_str s z t,fun _ e=>nomatch e⟩
 | int i =>
  obtain ⟨t,rfl⟩:=r
  cases (show T = "int" from ty)
  exact ⟨typeIs_int s i t,fun _ e=>nomatch e⟩
 | ref p =>
  cases r
  rcases ty with ⟨rfl,xs,hq⟩ | ⟨rfl,o,hk,hc,hd⟩ | ⟨rfl,hk⟩ | ⟨rfl,S,n,hk⟩
  ·obtain ⟨its,_,pl,_⟩:=I.list hq
   refine ⟨pl.isList.typeIs,fun a e=>?_⟩
   cases e
   obtain ⟨o,n,e,c,hd,_⟩:=pl
   exact ⟨o,e,hd⟩
  ·refine ⟨⟨o,I.kIn p o hk,hc⟩,fun a e=>?_⟩
   cases e
   exact ⟨o,I.kIn _ o hk,hd⟩
  ·have z:∃ o,s.heap.get? p=some o∧o.ExactDict:=by
    rcases hk with ⟨kvs,hk⟩ | ⟨kvs,hk⟩
    ·obtain ⟨_,_,_,_,o,_,_,e,ex,_⟩:=I.hok p _ hk
     exact ⟨o,e,ex⟩
    ·obtain ⟨_,_,_,_,o,_,_,e,ex,_⟩:=I.hok p _ hk
     exact ⟨o,e,ex⟩
   obtain ⟨o,e,ex⟩:=z
   refine ⟨⟨o,e,ex.1⟩,fun a e2=>?_⟩
   cases e2
   exact ⟨o,e,ex.2.1⟩
  ·obtain ⟨o,_,_,_,e,ex,_⟩:=I.hok p _ hk
   refine ⟨⟨o,e,ex.1⟩,fun a e2=>?_⟩
   cases e2
   exact ⟨o,e,ex.2.1⟩
 | _=>exact False.elim ty
def tBM0 (K:PySem.W.Frag) (T:String) (r:V→List V→Hp→VK→Prop) (to:TE):TE:=fun σ H Q=>to σ H fun x H1=>tyV K T x H1∧r x [] H1 Q
def tBM (K:PySem.W.Frag) (T:String) (r:V→List V→Hp→VK→Prop) (to:TE) (t:TA):TE:=fun σ H Q=>to σ H fun x H1=>tyV K T x H1∧t σ H1 fun xs H2=>r x xs H2 Q
variable {o e:Expr} {es:List Expr} {to:TE} {t:TA} {name:Str} {apos cpos:Pos} {T id:String} {r:V→List V→Hp→VK→Prop}
theorem pe_bm0 (pa:PlainAttrs T) (slot:Slot T name id) (hty:typeOf (.builtin id)=pure (.type "method_descriptor")) (hm:MtR X id r) (ho:PE X o to)
  (hbase:attributeBase o name X.env (eval o X.env)=eval o X.env:=by rfl) (hline:(apos.endLine == cpos.line)=true:=by rfl):PE X (.Call (.Attribute o name apos) [] [] cpos) (tBM0 X.K T r to):=by
 intro pins s σ H Q I h
 refine wpAny_Call_method0_late hbase hline (thn (ho pins s σ H _ I h) fun v s1 ⟨x,H1,I1,r1,ty,q1⟩=>?_)
 obtain ⟨h1,h2⟩:=tyV_is I1 r1 ty
 exact ⟨T,id,pa,slot,hty,h1,h2,Calls.callWith_builtin rfl (PySem.evalArgs_none (hm pins s1 σ H1 x [] v [] Q I1 r1 .nil q1))⟩
theorem pe_bm (pa:PlainAttrs T) (slot:Slot T name id) (hty:typeOf (.builtin id)=pure (.type "method_descriptor")) (hm:MtR X id r) (ho:PE X o to) (ha:PA X (e :: es) t)
  (hbase:attributeBase o name X.env (eval o X.env)=eval o X.env:=by rfl)
  (hfew:((backTo cpos (starEach (e :: es) X.env)).all (fun x=>!x.1) && (backToKw cpos (keywordEach [] X.env)).all (fun x=>x.1.isSome)
   && decide ((e :: es).length + ([]:List Keyword).length + (if ([]:List Keyword).isEmpty then 0 else 1) < 30))=true:=by rfl)
  (hline:(apos.endLine == cpos.line)=true:=by rfl) (hs:starEach (e :: es) X.env=(false,eval e X.env) :: starEach es X.env:=by rfl) (hplain:(backTo cpos (starEach es X.env)).any (·.1)=false:=by rfl) :
  PE X (.Call (.Attribute o name apos) (e :: es) [] cpos) (tBM X.K T r to t):=by
 intro pins s σ H Q I h
 refine wpAny_Call_method_late hbase hfew hline rfl (thn (ho pins s σ H _ I h) fun v s1 ⟨x,H1,I1,r1,ty,q1⟩=>?_)
 obtain ⟨h1,h2⟩:=tyV_is I1 r1 ty
 refine ⟨T,id,pa,slot,hty,h1,h2,?_⟩
 have hA:=ha cpos pins s1 σ H1 _ I1 q1
 rw [hs] at hA ⊢
 refine Calls.callWith_builtin (by show (false || (backTo cpos (starEach es X.env)).any (·.1))=false; rw [hplain] <;> rfl) (Calls.evalArgs_plain ?_)
 exact thn hA fun us s2 ⟨vs,H2,I2,r2,q2⟩=>hm pins s2 σ H2 x vs v us Q I2 r1 r2 q2
end
end L2
namespace L2
open PySem PySem.Spec PyProof.Rows
def MtM (X:Cx) (id:String) (r:V→List V→Hp→VK→Prop):Prop :=
 ∀ (pins:List (Addr × Obj)) (s:Shared) (σ:St) (H:Hp) (x:V) (xs:List V) (v:Value) (us:List Value) (Q:VK),Inv X pins σ H s→RelV x v→Vals xs us→r x xs H Q →
  wpAny (model X.prog X.w) X.A (call (.builtin id) (v :: us)) (EP X pins σ Q) X.xe s
theorem Vals.one:∀ {x:V} {us:List Value},Vals [x] us→∃ u,us=[u]∧RelV x u
 | _,_,.cons r .nil=>⟨_,rfl,r⟩
theorem Vals.zero:∀ {us:List Value},Vals [] us→us=[]
 | _,.nil=>rfl
theorem Vals.dropLast {xs:List V} {us:List Value} (h:Vals xs us):Vals xs.dropLast us.dropLast:=by
 induction h with
 | nil=>exact .nil
 | cons r t ih =>
  cases t with
  | nil=>exact .nil
  | cons q t'=>exact .cons r ih
theorem erase_last {α:Type} (l:List α):l.eraseIdx (l.length - 1)=l.dropLast:=by
 induction l with
 | nil=>rfl
 | cons a r ih =>
  cases r with
  | nil=>rfl
  | cons b r =>
   have e:(a :: b :: r).length - 1=((b :: r).length - 1) + 1:=by
    have h1:(a :: b :: r).length=r.length + 2:=rfl
    have h2:(b :: r).length=r.length + 1:=rfl
    omega
   rw [e,List.eraseIdx_cons_succ,ih]
   all_goals rfl
section
variable {X:Cx} {pins:List (Addr × Obj)} {σ:St} {H:Hp} {s:Shared} {l b:Addr} {xs ys zs:List V}
theorem Inv.lset {its its':List Value} {n:Nat} {f:Array Value→Array Value} {t':Nat} (I:Inv X pins σ H s) (hH:H l=some (.lst xs))
  (e:s.heap.get? l=some { cls:=.type "list",data:=.seq its.toArray n }) (hf:f its.toArray=its'.toArray) (hv:Vals ys its') (hz:ys.length≤sizeLine) :
  Inv X pins σ (upd H l (.lst ys)) { s with heap:=s.heap.update l (Obj.mapSeq f),toks:=t' }:=by
 have q:=PySem.IsL.update e f
 rw [hf] at q
 refine I.write (x:=l) (e:=l) (by rw [hH]; exact trivial) (.inl rfl) (fun b' u hb hu=>(Heap.get?_update_other s.heap (Obj.mapSeq f) (Ne.symm hb)).trans hu) ⟨_,q⟩ ?_
 exact ⟨hz,its',_,hv,q⟩
theorem Inv.lnew {its:List Value} {t':Nat} (I:Inv X pins σ H s) (hv:Vals ys its) (hz:ys.length≤sizeLine) :
  Inv X pins σ (upd H s.heap.objs.size (.lst ys)) { s with heap:=s.heap.push { cls:=.type "list",data:=.seq its.toArray },toks:=t' } :=
 I.laid (fun _ _ q=>Heap.get?_push_of_some _ q) (Nat.le_refl _) ⟨hz,its,0,hv,Heap.get?_push_size _ rfl⟩
theorem Inv.fresh (I:Inv X pins σ H s):H s.heap.objs.size=none:=I.hok.fresh (Nat.le_refl _)
theorem Inv.lstM (I:Inv X pins σ H s) (hH:H l=some (.lst xs)):xs.length≤sizeLine∧∃ (its:List Value) (n:Nat),Vals xs its∧xs.length=its.length∧s.heap.get? l=some { cls:=.type "list",data:=.seq its.toArray n }:=by
 obtain ⟨z,its,n,r,e⟩:=I.hok l _ hH
 exact ⟨z,its,n,r,r.length,e⟩
end
section
variable {X:Cx}
def rAppend:V→List V→Hp→VK→Prop:=fun x vs H Q=>∃ l xs y,x=.ref l∧vs=[y]∧H l=some (.lst xs)∧xs.length < sizeLine∧Q .non (upd H l (.lst (xs++[y])))
theorem mt_append:MtM X "list.append" rAppend:=by
 intro pins s σ H x vs v us Q I rx rv h
 obtain ⟨l,xs,y,rfl,rfl,hH,hz,q⟩:=h
 cases rx
 obtain ⟨u,rfl,ru⟩:=rv.one
 obtain ⟨z,its,n,r,hl,e⟩:=I.lstM hH
 refine call_meets F.slot_list_append ⟨_,e,rfl⟩ F.entry_list_append (F.args_list_append_2 _ _) (PySem.list_append l its.toArray n u (by rw [List.size_toArray]; omega)) ⟨e,?_⟩
 refine ⟨.non,_,I.lset (its':=its++[u]) hH e (by simp) (r.append (.cons ru .nil)) ?_,rfl,q⟩
 rw [List.length_append,List.length_singleton]
 omega
def rPop:V→List V→Hp→VK→Prop:=fun x vs H Q=>∃ l xs y,x=.ref l∧vs=[]∧H l=some (.lst xs)∧xs[xs.length - 1]?=some y∧Q y (upd H l (.lst xs.dropLast))
theorem mt_pop:MtM X "list.pop" rPop:=by
 intro pins s σ H x vs v us Q I rx rv h
 obtain ⟨l,xs,y,rfl,rfl,hH,hy,q⟩:=h
 cases rx
 have hus:=rv.zero
 subst hus
 obtain ⟨z,its,n,r,hl,e⟩:=I.lstM hH
 obtain ⟨u,hu,ru⟩:=r.get hy
 have hy':its.toArray[its.toArray.size - 1]?=some u:=by
  show its.toArray[its.length - 1]?=some u
  rw [← Array.getElem?_toList,← hl]
  exact hu
 refine call_meets F.slot_list_pop ⟨_,e,rfl⟩ F.entry_list_pop (F.args_list_pop_1 _) (MeetsSeq.list_pop_last l its.toArray n u hy' (by rw [List.size_toArray]; omega)) ⟨e,?_⟩
 refine ⟨y,_,I.lset (its':=its.dropLast) hH e ?_ r.dropLast ?_,ru,q⟩
 ·show its.toArray.eraseIdxIfInBounds (its.toArray.size - 1)=its.dropLast.toArray
  rw [List.size_toArray,List.eraseIdxIfInBounds_toArray,erase_last]
 ·rw [List.length_dropLast]
  omega
def rCat:R2:=fun x y H Q=>∃ l b xs zs,x=.ref l∧y=.ref b∧H l=some (.lst xs)∧H b=some (.lst zs)∧xs.length + zs.length≤sizeLine∧∀ p,H p=none→Q (.ref p) (upd H p (.lst (xs++zs)))
theorem op_cat:OpR X (binaryOp .Add) rCat:=by
 intro pins s σ H x y v u Q I rx ry h
 obtain ⟨l,b,xs,zs,rfl,rfl,hH,hB,hz,q⟩:=h
 cases rx
 cases ry
 obtain ⟨z,its,n,r,hl,e⟩:=I.lstM hH
 obtain ⟨z2,its2,n2,r2,hl2,e2⟩:=I.lstM hB
 refine PySem.P.add_list e e2 ?_ (by rw [List.size_toArray,List.size_toArray]; omega)
 have ea:its.toArray++its2.toArray=(its++its2).toArray:=by simp
 rw [ea]
 exact ⟨.ref _,_,I.lnew (t':=s.toks) (r.append r2) (by rw [List.length_append]; omega),rfl,q _ I.fresh⟩
end
section
variable {prog:Program} {w:World} {A:Around} {E:Value→Shared→Prop} {s:Shared}
set_option maxRecDepth 100000 in
end
section
variable {X:Cx}
end
end L2
namespace Att
open PySem PySem.W PySem.Calls PyProof.Rows
theorem ints_of_wellAll {P:Params} {h:Heap}:∀ (ns:List Int) (vs:List Value),WellAll P h vs (ns.map WData.int)→IntsAre vs ns:=by
 intro ns
 induction ns with
 | nil =>
  intro vs w
  rw [List.map_nil] at w
  cases w
  exact .nil
 | cons n ns ih =>
  intro vs w
  rw [List.map_cons] at w
  cases w with
  | cons a b =>
   cases a
   exact .cons _ _ (ih _ b)
theorem script_of {l:OpenLaw} {n:Nat} (hn:l.most=some n) {P:Params} {h:Heap} {args:List WData} {vals:List Value}
  (hpre:l.row.toRowW.claim.pre args=true) (hwl:WellAll P h vals args) :
  ∃ a vs ns,vals=[Value.ref a]∧args=[WData.list (ns.map WData.int)]∧h.get? a=some { cls:=.type "list",data:=.seq vs.toArray }∧IntsAre vs ns∧ns.length≤n:=by
 have hsh:WShape.hasAll [] args [.list .int]=true:=(pre_splitW hpre).1
 have hc:l.pre.holds [] { args:=args }=true:=(pre_splitW hpre).2
 obtain ⟨d,r,rfl,h1,h2⟩:=hasAllW_cons hsh
 obtain rfl:=hasAllW_nil h2
 obtain ⟨xs,rfl,h3⟩:=hasW_list h1
 obtain ⟨ns,rfl⟩:=items_int h3
 have hlen:ns.length≤n:=by
  unfold OpenLaw.pre at hc
  have h4:(WTm.not (.lt (.lit (.int (n:Int))) (.len (.arg 0)))).holds [] { args:=[.list (ns.map .int)] }=true:=by
   have h4:=(holds_andW hc).1
   rw [hn] at h4
   exact h4
  have h5:=condW_of h4 (w_not (w_lt w_lit (w_len_list (w_arg rfl))))
  rw [List.length_map] at h5
  refine Nat.le_of_not_lt fun q=>?_
  have q':(n:Int) < ((ns.length:Nat):Int):=by omega
  first
   | (rw [decide_eq_true q'] at h5; exact absurd h5 (by decide))
   | (simp at h5; omega)
 cases hwl with
 | cons w1 w2 =>
  cases w2
  cases w1 with
  | list ho hall=>exact ⟨_,_,ns,rfl,rfl,ho,ints_of_wellAll ns _ hall,hlen⟩
theorem post_true (l:OpenLaw) (args:List WData):l.row.toRowW.claim.post args (.bool true) args=true :=
 postW_of (r:=l.row.toRowW) (X:=(true == true))
  (show WShape.has [] (.bool true) .bool=true by first | rfl | decide | simp [WShape.has,WShape.arms,WShape.armsAll])
  (show (WTm.eq .res (.lit (.bool true))).value [] { args:=args,res:=some (.bool true),after:=args }=some (.bool (true == true)) from w_eq_bool (w_res rfl) w_lit) rfl
theorem attach_call {l:OpenLaw} {n:Nat} {q:Program} {loose:List Str} {XP:(Str→Option Value)→Heap→Prop} {YP:World→Heap→Prop} {d:DefRec}
  (hn:l.most=some n) (hdf:d.params.defaults=[])
  (call:∀ (w:World) (s₀ s₁:Shared) (mg mb:Str→Option Value) (fa:Addr) (o:Obj) (pm cd doc:Value) (a:Addr) (vs:List Value) (ns:List Int),
   Ground q loose [] XP w s₀ mg mb s₁.heap→YP w s₁.heap →
   s₁.heap.get? fa=some o→o.data=.func (docDef d.name d.params d.body d.scope pm cd doc)→s₁.heap.CodeRec cd d.name→mg d.name=some (.ref fa) →
   s₁.heap.get? a=some { cls:=.type "list",data:=.seq vs.toArray }→IntsAre vs ns→ns.length≤n→s₁.gens=#[] →
   codeAny (model l.prog w) callerA (.call (.ref fa) ⟨[.ref a],[]⟩) (fun r s'=>r=.ok (.ret (.bool true))∧OldK s₁.heap s'.heap∧s'.os=s₁.os∧AllBare s'.gens) s₁) :
  WalkO q loose XP YP l.row.toRowW d [] (fun f vs=>PySem.call f vs):=by
 intro w s₀ s₁ mg mb G Y fa o pm cd doc dV kV ho hd hcd hD hmg hg args vals as hpre hlay hrd hwl hlo
 obtain rfl:dV=.none:=Dflts.none hD hdf
 obtain rfl:kV=.none:=Dflts.noKw hD
 obtain ⟨a,vs,ns,rfl,rfl,hobj,hints,hlen⟩:=script_of hn hpre hwl
 refine enter_call (codeAny_mono (call w s₀ s₁ mg mb fa o pm cd doc a vs ns G Y ho (fd_plain hd) hcd hmg hobj hints hlen hg) fun r s' hq=>?_)
 obtain ⟨rfl,h2,h3,h4⟩:=hq
 exact ⟨.inl ⟨.bool true,.bool true,[],rfl,fun _=>rfl,.bool true,post_true l _,fun _=>⟨List.Pairwise.nil,fun _ hm=>(nomatch hm)⟩⟩,h2,h3,h4⟩
section
variable {prog:Program} {w:World} {A:Around} {E:Value→Shared→Prop} {s:Shared} {K:Frag}
end
end Att
namespace L2
open PySem PySem.Spec PyProof.Rows
theorem vals_ints:∀ {vs:List Value} {ns:List Int},IntsAre vs ns→Vals (ns.map V.int) vs
 | _,_,.nil=>.nil
 | _,_,.cons n t h=>.cons ⟨t,rfl⟩ (vals_ints h)
def Only (H:Hp):Prop:=∀ b,H b=none ∨ ∃ o xs,H b=some (.frz o (.lst xs))
theorem law_call {P:Program} {w:World} {K:PySem.W.Frag} {mg mb:Str→Option Value} {CX:CXT} {k:Nat} {fa a:Addr} {fd:FuncData} {x:Str} {sp:Sp} {s₁:Shared} {vs:List Value} {ns:List Int}
  (KX:K.In s₁.heap) (hns:s₁.heap.Ns mainGlobals mg) (hb:s₁.heap.Ns builtinsNs mb) (hbb:∀ x:Str,x ≠ "__name__" → mb x=bootBuiltins x) (hlim:s₁.heap.NoLimit) (hg:s₁.gens=#[])
  (ha:s₁.heap.get? a=some { cls:=.type "list",data:=.seq vs.toArray }) (hi:IntsAre vs ns) (hl:ns.length≤sizeLine) (hr:Room k callerA)
  (F:∀ base:Heap,K.In base→base.Ns mainGlobals mg→FnOk P w K mg base CX k fa fd [x] sp) (hbind:∀ (s:Shared) (u:Value),BindsTo s fd ⟨[u],[]⟩ [(x,u)])
  (hsp:∀ H:Hp,Only H→SqL K H a (ns.map V.int)→sp [.ref a] H (fun v _=>v=.bl true) fun _ _ _=>False)
  (hCX:∀ H e s',CX [] H s₁ (fun _ _ _=>False) e s'→False) :
  codeAny (model P w) callerA (.call (.ref fa) ⟨[.ref a],[]⟩) (fun r s'=>r=.ok (.ret (.bool true))∧OldK s₁.heap s'.heap∧s'.os=s₁.os∧AllBare s'.gens) s₁:=by
 have rv:=vals_ints hi
 have lenV:=hi.length
 have core:∀ H:Hp,Only H→SqL K H a (ns.map V.int)→HOk P w H s₁.heap→(∀ b,H b ≠ none→b=a)→(H a ≠ none→K.lookup a=none) →
   codeAny (model P w) callerA (.call (.ref fa) ⟨[.ref a],[]⟩) (fun r s'=>r=.ok (.ret (.bool true))∧OldK s₁.heap s'.heap∧s'.os=s₁.os∧AllBare s'.gens) s₁:=by
  intro H hO hS hok hA hK
  have base_of:∀ {b:Addr} {o:Obj},s₁.heap.get? b=some o→H b=none→(hidT s₁.heap H).get? b=some o:=fun e n=>hidT_get e n
  have noA:∀ {b:Addr} {o:Obj} {es:Array DictEntry} {ep:Nat},s₁.heap.get? b=some o→o.data=.dict es ep→H b=none:=fun {b o es ep} e d=>by
   cases q:H b with
   | none=>rfl
   | some u =>
    have e':b=a:=hA b (by rw [q]; simp)
    subst e'
    rw [ha] at e; cases e
    have d':Data.seq vs.toArray _=Data.dict es ep:=d
    cases d'
  have nsK:∀ {b:Addr} {m:Str→Option Value},s₁.heap.Ns b m→(hidT s₁.heap H).Ns b m:=fun {b m} ⟨o,es,ep,e,d,r⟩=>⟨o,es,ep,base_of e (noA e d),d,r⟩
  have hKb:K.In (hidT s₁.heap H):=fun b o e=>base_of (KX b o e) (by
   cases q:H b with
   | none=>rfl
   | some u =>
    have e':b=a:=hA b (by rw [q]; simp)
    subst e'
    rw [hK (by rw [q]; simp)] at e; cases e)
  have hM:Mod K mg (hidT s₁.heap H):=⟨hKb,nsK hns,⟨mb,nsK hb,hbb⟩,let ⟨mc,h1,h2⟩:=hlim; ⟨mc,nsK h1,h2⟩⟩
  have e0:Env0 P w K mg (hidT s₁.heap H) callerA [] s₁ H:=⟨rfl,hM,fun b o e=>of_hidT e,Nat.le_of_eq (hidT_size _ _),trivial,fun b hb=>absurd (show b ∈ ([]:List Addr) from hb) (by simp),hok,.of_eq hg⟩
  refine codeAny_mono ((F _ hKb (nsK hns)).run callerA [] s₁ H ⟨[.ref a],[]⟩ [.ref a] [.ref a] _ _ hr e0 (hbind s₁ (.ref a)) (.cons rfl .nil) (hsp H hO hS)) fun r s' h=>?_
  cases r with
  | error e=>exact (hCX H e s' h).elim
  | ok fl =>
   cases fl with
   | next=>exact False.elim h
   | brk=>exact False.elim h
   | cont=>exact False.elim h
   | ret u =>
    obtain ⟨v,H',os,bare,un,hok',r',q⟩:=h
    have q':v=.bl true:=q
    subst q'
    obtain rfl:u=Value.bool true:=r'
    refine ⟨rfl,OldK.of_keep fun b o e=>?_,os,bare⟩
    cases q:H b with
    | none=>exact un.keep b o e q (by intro z; exact absurd (show b ∈ ([]:List Addr) from z) (by simp)) (by simp)
    | some u =>
     rcases hO b with z | ⟨ob,xs,z⟩
     ·rw [q] at z; cases z
     ·have z2:=un.frzs b ob _ z
      obtain ⟨e1,_⟩:=hok b _ z
      obtain ⟨e2,_⟩:=hok' b _ z2
      rw [e] at e1; cases e1
      exact e2
 cases hk:K.lookup a with
 | some o =>
  have e:=KX a o hk
  rw [ha] at e
  cases e
  refine core (fun _=>none) (fun _=>.inl rfl) (.inr ⟨_,vs.toArray,_,hk,rfl,rfl,rfl,by rw [List.size_toArray,lenV]; exact hl,by simpa using rv⟩) (fun b u z=>by have z':(none:Option HO)=some u:=z; cases z') (fun b z=>absurd rfl z) fun z=>absurd rfl z
 | none =>
  refine core (fun b=>if b=a then some (.frz { cls:=.type "list",data:=.seq vs.toArray } (.lst (ns.map V.int))) else none) (fun b=>?_) (.inl (.inr ⟨{ cls:=.type "list",data:=.seq vs.toArray },if_pos rfl⟩)) (fun b u z=>?_) (fun b z=>?_) fun _=>hk
  ·by_cases hb:b=a
   ·exact .inr ⟨_,_,if_pos hb⟩
   ·exact .inl (if_neg hb)
  ·by_cases hb:b=a
   ·have z':=(if_pos hb).symm.trans z
    cases z'
    subst hb
    exact ⟨ha,by rw [List.length_map]; exact hl,vs,_,rv,ha⟩
   ·have z':=(if_neg hb).symm.trans z
    cases z'
  ·by_cases hb:b=a
   ·exact hb
   ·exact absurd (if_neg hb) z
end L2
namespace L2
open PySem PySem.Spec PyProof.Rows
theorem walk_of {l:PySem.W.OpenLaw} {n k:Nat} {q:Program} {loose:List Str} {XP:(Str→Option Value)→Heap→Prop} {YP:World→Heap→Prop} {d:DefRec} {K:Params→PySem.W.Frag} {CX:World→CXT} {sp:World→Sp} {x:Str}
  (hn:l.most=some n) (hn2:n≤sizeLine) (hdf:d.params.defaults=[]) (hr:Room k callerA)
  (hY:∀ (w:World) (h:Heap),YP w h→(K w.params).In h)
  (F:∀ (w:World) (mg:Str→Option Value) (fa:Addr) (h:Heap),(K w.params).In h→h.Ns mainGlobals mg→mg d.name=some (.ref fa) →
   ∃ fd:FuncData,(∀ (s:Shared) (u:Value),BindsTo s fd ⟨[u],[]⟩ [(x,u)]) ∧
    ∀ base:Heap,(K w.params).In base→base.Ns mainGlobals mg→FnOk l.prog w (K w.params) mg base (CX w) k fa fd [x] (sp w))
  (hsp:∀ (w:World) (H:Hp) (a:Addr) (ns:List Int),ns.length≤n→Only H→SqL (K w.params) H a (ns.map V.int)→sp w [.ref a] H (fun v _=>v=.bl true) fun _ _ _=>False)
  (hCX:∀ (w:World) (H:Hp) (s:Shared) (e:Value) (s':Shared),CX w [] H s (fun _ _ _=>False) e s'→False) :
  PySem.W.WalkO q loose XP YP l.row.toRowW d [] (fun f vs=>PySem.call f vs):=by
 refine Att.attach_call hn hdf fun w s₀ s₁ mg mb fa o pm cd doc a vs ns G Y ho hd hcd hmg hobj hints hlen hg=>?_
 have KX:=hY w _ Y
 obtain ⟨fd,hb,hF⟩:=F w mg fa _ KX G.T.g hmg
 exact law_call KX G.T.g G.T.b G.T.builtins G.T.nolimit hg hobj hints (Nat.le_trans hlen hn2) hr hF hb (fun H hO hS=>hsp w H a ns hlen hO hS) fun H e s'=>hCX w H s₁ e s'
end L2
namespace L2
open PySem PySem.Spec PyProof.Rows
def inClass (s:Stmt) (j:Nat):Stmt:=match s with
 | .ClassDef _ _ _ body _ _ _ _ _ _ _=>body.getD j (.Pass ⟨0,0,0,0⟩)
 | _=>.Pass ⟨0,0,0,0⟩
def defArgs (s:Stmt):Arguments:=match s with
 | .FunctionDef _ a _ _ _ _ _ _ _ _=>a
 | _=>{ posonlyargs:=[],args:=[],vararg:=none,kwonlyargs:=[],kw_defaults:=[],kwarg:=none,defaults:=[] }
def defBody (s:Stmt):List Stmt:=match s with
 | .FunctionDef _ _ b _ _ _ _ _ _ _=>b
 | _=>[]
def defScope (s:Stmt):Scope:=match s with
 | .FunctionDef _ _ _ _ _ _ sc _ _ _=>sc
 | _=>{ kind:=.function,names:=[],isGenerator:=false,isCoroutine:=false }
abbrev CX0:CXT:=fun _ _ _ _ _ _=>False
abbrev E0:XK:=fun _ _ _=>False
theorem pass0 {X:Cx}:Passes CX0 X E0:=fun _ _ _ _ _ _ _ h=>h.elim
structure Fun (K:PySem.W.Frag) (x qual:Str) (st:Stmt) (f:Addr) (fd:FuncData):Prop where
 ex:∃ (oc:Value) (od:Option Addr) (kV doc pm:Value) (an:Option Addr) (cdv ct:Value) (osl:Array (Option Value)),
  fd=PySem.W.fnOf x qual (defArgs st) (defBody st) (defScope st) .none kV doc pm an cdv ct∧K.lookup f=some ⟨oc,od,.func fd,osl⟩∧PySem.W.codeIn K cdv qual=true
 kp:PySem.W.keepIn K (.ref f)=true
section
variable {P:Program} {w:World} {K:PySem.W.Frag} {mg:Str→Option Value} {base:Heap}
theorem Fun.ok {x qual:Str} {st:Stmt} {f:Addr} {fd:FuncData} {N ps:List Str} {k:Nat} {sp:Sp} (F:Fun K x qual st f fd) (S:FnScope N ps (defScope st)) (len:∀ vs H Q E,sp vs H Q E→vs.length=ps.length)
  (hbody:∀ (cdv:Value) (A:Around) (outer:List Env) (s:Shared) (H:Hp) (vs:List V) (Q:VK) (E:XK),Room k (A.deeper (envOfC qual (defScope st) s.heap.objs.size f cdv))→sp vs H Q E →
   ∃ t,PSs (cxOf CX0 P w K mg base N qual (defScope st) f cdv A outer s H E).nox (defBody st) t∧t { nx:=fun _ H'=>Q .non H',rt:=Q } (start N vs) H):FnOk P w K mg base CX0 (k + 1) f fd ps sp:=by
 obtain ⟨oc,od,kV,doc,pm,an,cdv,ct,osl,rfl,lk,hcd⟩:=F.ex
 refine fn_of lk hcd S len fun A outer s H vs Q E hr hsp=>?_
 obtain ⟨t,h,q⟩:=hbody cdv A outer s H vs Q E hr hsp
 exact ⟨t,h.nox,q⟩
theorem Fun.binds {x qual:Str} {st:Stmt} {f:Addr} {fd:FuncData} {ps:List Str} (F:Fun K x qual st f fd)
  (h:∀ (kV doc pm:Value) (an:Option Addr) (cdv ct:Value) (us:List Value),us.length=ps.length→bindArgs (PySem.W.fnOf x qual (defArgs st) (defBody st) (defScope st) .none kV doc pm an cdv ct) ⟨us,[]⟩=pure (ps.zip us)):Binds K fd ps []:=by
 obtain ⟨oc,od,kV,doc,pm,an,cdv,ct,osl,rfl,lk,hcd⟩:=F.ex
 exact .all (h kV doc pm an cdv ct)
theorem fun_mk {x qual:Str} {st:Stmt} {f:Addr} {oc:Value} {od an:Option Addr} {osl:Array (Option Value)} {kV doc pm cdv ct:Value} (l:K.lookup f=some ⟨oc,od,.func (PySem.W.fnOf x qual (defArgs st) (defBody st) (defScope st) .none kV doc pm an cdv ct),osl⟩)
  (c:PySem.W.codeIn K cdv qual=true) (k:PySem.W.keepIn K (.ref f)=true):Fun K x qual st f (PySem.W.fnOf x qual (defArgs st) (defBody st) (defScope st) .none kV doc pm an cdv ct):=⟨⟨oc,od,kV,doc,pm,an,cdv,ct,osl,rfl,l,c⟩,k⟩
end
section
variable {X:Cx}
theorem pv (i:Nat) {x:Str} {pos:Pos} (hN:X.N[i]?=some x:=by rfl) (hv:Vis X.env.scope x:=by first | exact Or.inl rfl | exact Or.inr (Or.inl rfl) | exact Or.inr (Or.inr rfl)) (hd:(x == ("__debug__" : Str))=false:=by decide)
  (hcd:(x == ("__classdict__" : Str))=false:=by decide):PE X (.Name x pos) (tVar i):=pe_var hN hv hd hcd
end
theorem iteF {A B:Prop} (h:B):if false=true then A else B:=by
 rw [if_neg Bool.false_ne_true]
 exact h
theorem iteT {A B:Prop} (h:A):if true=true then A else B:=by
 rw [if_pos rfl]
 exact h
theorem ite2 {c A B:Prop} [Decidable c] (h1:c→A) (h2:¬ c→B):if c then A else B:=by
 by_cases h:c
 ·rw [if_pos h]
  exact h1 h
 ·rw [if_neg h]
  exact h2 h
def Same (H H':Hp):Prop:=∀ b o,H b=some o→H' b=some o
theorem Same.refl (H:Hp):Same H H:=fun _ _ h=>h
theorem Same.trans {H H1 H2:Hp} (a:Same H H1) (b:Same H1 H2):Same H H2:=fun c o h=>b c o (a c o h)
theorem Same.seq {K:PySem.W.Frag} {H H':Hp} {a:Addr} {xs:List V} (e:Same H H') (h:SqL K H a xs):SqL K H' a xs:=by
 rcases h with (h | ⟨o,h⟩) | h
 ·exact .inl (.inl (e _ _ h))
 ·exact .inl (.inr ⟨o,e _ _ h⟩)
 ·exact .inr h
section
variable {κ:Type} [DecidableEq κ]
end
end L2
set_option maxHeartbeats 4000000
namespace L2
open PySem PySem.Spec PyProof.Rows
section
variable {prog:Program} {w:World} {A:Around} {R:Result→Shared→Prop} {s:Shared}
theorem compLoop_go {elt target iter:Expr} {ifs:List Expr} {scope:Scope} {pos:Pos} {it acc:Value} {env:Env} (I:Nat→Shared→Prop)
  (turn:∀ n s,I n s→wpAny (model prog w) A (pyNext it) (fun r s₁=>match r with
   | none=>R (.ok .next) s₁
   | some v=>wpAny (model prog w) A (letOwnedTupleGo target it v) (fun _ s₀=>wpAny (model prog w) A (assign target env v) (fun _ s₂ =>
     wpAny (model prog w) A (forIn ifs true fun c r=>if r=true then do let ok ← isTrue c env (eval c env); pure (ForInStep.yield ok) else pure (ForInStep.yield r)) (fun ok s₃ =>
      if ok=true then wpAny (model prog w) A (eval elt env) (fun x s₄ =>
       wpAny (model prog w) A (call (.builtin "list.append") [acc,x]) (fun _ s₅=>∃ m,m < n∧I m s₅) (fun _ _=>False) s₄) (fun _ _=>False) s₃
      else ∃ m,m < n∧I m s₃) (fun _ _=>False) s₂) (fun _ _=>False) s₀) (fun _ _=>False) s₁) (fun _ _=>False) s)
  (n:Nat) (h:I n s) :
  codeAny (model prog w) A (.compLoop (.ListComp elt [⟨target,iter,ifs,0⟩] scope pos) 0 it acc env) R s:=by
 refine codeAny_loop rfl I (fun n s hI=>?_) n h
 show wpAny _ A ((compTurn (.ListComp elt [⟨target,iter,ifs,0⟩] scope pos) 0 it acc env).onRaise (fun x=>do noteFrame x env; theTreesLotGoes x)) _ _ s
 refine wpAny_noted ?_
 rw [compTurn_list]
 refine wpAny_bind (wpAny_standAt (wpAny_bind (wpAny_mono (turn n s hI) (fun r s₁ h₁=>?_) fun _ _ h'=>h'.elim)))
 cases r with
 | none=>exact wpAny_pure h₁
 | some v =>
  refine wpAny_bind (wpAny_mono h₁ (fun _ s₀ h₀=>?_) fun _ _ h'=>h'.elim)
  refine wpAny_bind (wpAny_mono h₀ (fun _ s₂ h₂=>wpAny_bind (wpAny_mono h₂ (fun ok s₃ h₃=>?_) fun _ _ h'=>h'.elim)) fun _ _ h'=>h'.elim)
  cases ok with
  | false=>exact wpAny_pure ⟨rfl,h₃⟩
  | true =>
   exact wpAny_bind (wpAny_bind (wpAny_mono h₃ (fun x s₄ h₄=>wpAny_bind (wpAny_mono h₄ (fun _ s₅ h₅=>wpAny_pure (wpAny_pure ⟨rfl,h₅⟩)) fun _ _ h'=>h'.elim)) fun _ _ h'=>h'.elim))
end
theorem closure_ok {scope:Scope} {env:Env} (hf:∀ y ∈ scope.names,y.2=.free→∃ c,env.cells.lookup y.1=some c) :
  ∃ cl,closureFor scope env=pure cl∧(∀ x c,cl.lookup x=some c→env.cells.lookup x=some c)∧(∀ y ∈ scope.names,y.2=.free→∃ c,cl.lookup y.1=some c):=by
 have key:∀ (l:List (Str × NameKind)) (acc:List (Str × Addr)),(∀ y ∈ l,y.2=.free→∃ c,env.cells.lookup y.1=some c)→(∀ x c,acc.lookup x=some c→env.cells.lookup x=some c) →
   ∃ cl,(forIn (m:=Sem) l acc (fun (y:Str × NameKind) cs=>if (y.2 == .free)=true then do let c ← cellOf env y.1; pure (ForInStep.yield ((y.1,c) :: cs)) else pure (ForInStep.yield cs)))=pure cl ∧
    (∀ x c,cl.lookup x=some c→env.cells.lookup x=some c)∧(∀ x,(∃ c,acc.lookup x=some c)→∃ c,cl.lookup x=some c)∧(∀ y ∈ l,y.2=.free→∃ c,cl.lookup y.1=some c):=by
  intro l
  induction l with
  | nil=>intro acc _ ha; exact ⟨acc,rfl,ha,fun _ h=>h,fun _ h=>nomatch h⟩
  | cons p r ih =>
   intro acc hl ha
   obtain ⟨n,k⟩:=p
   by_cases hk:k=.free
   ·subst hk
    obtain ⟨c,hc⟩:=hl (n,.free) List.mem_cons_self rfl
    have ha':∀ x d,((n,c) :: acc).lookup x=some d→env.cells.lookup x=some d:=fun x d e=>by
     rw [List.lookup_cons] at e
     cases hx:x == n with
     | true =>
      rw [hx] at e
      rw [eq_of_beq hx,hc]
      exact e
     | false =>
      rw [hx] at e
      exact ha x d e
    obtain ⟨cl,e1,e2,e3,e4⟩:=ih ((n,c) :: acc) (fun y hy=>hl y (List.mem_cons_of_mem _ hy)) ha'
    refine ⟨cl,?_,e2,fun x ⟨d,e⟩=>e3 x ?_,fun y hy hf=>?_⟩
    ·rw [List.forIn_cons]
     simp only [beq_self_eq_true,if_true,cellOf,hc,pure_bind]
     exact e1
    ·rw [List.lookup_cons]
     cases hx:x == n with
     | true=>exact ⟨c,rfl⟩
     | false=>exact ⟨d,e⟩
    ·rcases List.mem_cons.mp hy with rfl | hy
     ·exact e3 _ ⟨c,by simp⟩
     ·exact e4 y hy hf
   ·have hb:(k == NameKind.free)=false:=by simpa using hk
    obtain ⟨cl,e1,e2,e3,e4⟩:=ih acc (fun y hy=>hl y (List.mem_cons_of_mem _ hy)) ha
    refine ⟨cl,?_,e2,e3,fun y hy hf=>?_⟩
    ·rw [List.forIn_cons]
     simp only [hb,Bool.false_eq_true,if_false,pure_bind]
     exact e1
    ·rcases List.mem_cons.mp hy with rfl | hy
     ·exact absurd hf hk
     ·exact e4 y hy hf
 obtain ⟨cl,e1,e2,_,e4⟩:=key scope.names [] hf (fun _ _ h=>by simp at h)
 refine ⟨cl,?_,e2,e4⟩
 unfold closureFor
 show (forIn scope.names [] _ >>= fun r=>pure r)=pure cl
 rw [bind_pure]
 exact e1
theorem relabel_kind {scope:Scope} {env:Env} {x:Str}:∀ {names:List (Str × NameKind)},
    ((names.map fun (n, k)=>if (k == NameKind.free && env.scope.kind == .function && env.kindOf n == some .cell) then (n, NameKind.cell) else (n, k)).lookup x=some .cell ∨
     (names.map fun (n, k)=>if (k == NameKind.free && env.scope.kind == .function && env.kindOf n == some .cell) then (n, NameKind.cell) else (n, k)).lookup x=some .free) →
    (∃ y ∈ names, y.1=x∧(y.2=.free ∨ y.2=.cell))
  | [], h=>by rcases h with h | h <;> simp at h
  | (n, k) :: r, h=>by
    by_cases hx:x=n
    · subst hx
      refine ⟨(x, k), List.mem_cons_self, rfl, ?_⟩
      by_cases hc:(k == NameKind.free && env.scope.kind == .function && env.kindOf x == some .cell)=true
      · have:=(Bool.and_eq_true_iff.mp (Bool.and_eq_true_iff.mp hc).1).1
        exact .inl (by simpa using this)
      · simp only [List.map_cons, hc, Bool.false_eq_true, if_false, List.lookup_cons, beq_self_eq_true] at h
        rcases h with h | h
        · exact .inr (Option.some.inj h)
        · exact .inl (Option.some.inj h)
    · have hb:(x == n)=false:=by simpa using hx
      have h':((r.map fun (n, k)=>if (k == NameKind.free && env.scope.kind == .function && env.kindOf n == some .cell) then (n, NameKind.cell) else (n, k)).lookup x=some .cell ∨
        (r.map fun (n, k)=>if (k == NameKind.free && env.scope.kind == .function && env.kindOf n == some .cell) then (n, NameKind.cell) else (n, k)).lookup x=some .free):=by
        rw [List.map_cons] at h
        by_cases hc:(k == NameKind.free && env.scope.kind == .function && env.kindOf n == some .cell)=true
        · simp only [hc, if_true, List.lookup_cons, hb] at h; exact h
        · simp only [hc, Bool.false_eq_true, if_false, List.lookup_cons, hb] at h; exact h
      obtain ⟨y, hy, e⟩:=relabel_kind (scope:=scope) h'
      exact ⟨y, List.mem_cons_of_mem _ hy, e⟩
def capOf (σ:St) (js:List Nat):St:=js.map fun j=>(σ[j]?).getD none
def cxComp (X:Cx) (N:List Str) (scope:Scope) (cl:List (Str × Addr)) (s:Shared) (H:Hp) (ex:List Addr):Cx :=
 { X with N:=N,s₀:=s,H₀:=H,env:=compEnvC scope cl s.heap.objs.size X.env,outer:=X.stack,stack:=X.stack,ex:=ex,fn:=fun _=>false,pn:=[],xe:=fun _ _=>False }
def PTs (X:Cx) (ifs:List Expr) (t:TT):Prop :=
 ∀ (pins:List (Addr × Obj)) (s:Shared) (σ:St) (H:Hp) (Q:Bool→Hp→Prop),Inv X pins σ H s→t σ H Q →
  wpAny (model X.prog X.w) X.A (forIn ifs true fun c r=>if r=true then do let ok ← isTrue c X.env (eval c X.env); pure (ForInStep.yield ok) else pure (ForInStep.yield r)) (TP X pins σ Q) X.xe s
def tNoTest:TT:=fun _ H Q=>Q true H
theorem pts_nil {X:Cx}:PTs X [] tNoTest:=fun _ _ _ H _ I h=>wpAny_pure ⟨H,I,h⟩
theorem pts_one {X:Cx} {c:Expr} {t:TT} (h:PT X c t):PTs X [c] t:=fun pins s σ H Q I q=>wpAny_tests_one (h pins s σ H Q I q)
def compOk (N₀:List Str) (sc₀ scope:Scope) (N:List Str) (xs:Nat) (js:List Nat):Bool :=
 scope.kind == .function && (scope.names.all fun y=>y.2 != .cell) && (scope.names.all fun y=>y.2 != .local || scope.names.lookup y.1 == some .local) &&
 (scope.names.all fun y=>y.2 != .free || (sc₀.names.lookup y.1 == some .cell || sc₀.names.lookup y.1 == some .free)) && N.length == xs + js.length &&
 (List.range js.length).all fun i=>match js[i]?,N[xs + i]? with
  | some j,some x=>N₀[j]? == some x && scope.names.lookup x == some .free
  | _,_=>false
structure CompScope (X:Cx) (scope:Scope) (N:List Str) (xs:Nat) (js:List Nat):Prop where
 kind:scope.kind=.function
 nocell:∀ y ∈ scope.names,y.2 ≠ .cell
 once:∀ y ∈ scope.names,y.2=.local→scope.names.lookup y.1=some .local
 caught:∀ y ∈ scope.names,y.2=.free→X.env.kindOf y.1=some .cell ∨ X.env.kindOf y.1=some .free
 len:N.length=xs + js.length
 at_:∀ (i j:Nat) (x:Str),js[i]?=some j→N[xs + i]?=some x→X.N[j]?=some x∧scope.names.lookup x=some .free
theorem compScope_of {X:Cx} {scope:Scope} {N:List Str} {xs:Nat} {js:List Nat} (h:compOk X.N X.env.scope scope N xs js=true):CompScope X scope N xs js:=by
 unfold compOk at h
 simp only [Bool.and_eq_true] at h
 obtain ⟨⟨⟨⟨⟨h1,h2⟩,h3⟩,h4⟩,h5⟩,h6⟩:=h
 refine ⟨by simpa using h1,fun y hy=>?_,fun y hy e=>?_,fun y hy e=>?_,by simpa using h5,fun i j x e1 e2=>?_⟩
 ·have:=List.all_eq_true.mp h2 y hy
  simpa using this
 ·have:=List.all_eq_true.mp h3 y hy
  rw [e] at this
  simpa using this
 ·have:=List.all_eq_true.mp h4 y hy
  rw [e] at this
  simpa [Env.kindOf] using this
 ·have hi:i < js.length:=(List.getElem?_eq_some_iff.mp e1).1
  have:=List.all_eq_true.mp h6 i (List.mem_range.mpr hi)
  rw [e1,e2] at this
  simpa using this
theorem lookup_mem {α:Type} {x:Str} {k:α}:∀ {l:List (Str × α)},l.lookup x=some k→(x,k) ∈ l
 | [],h=>by simp at h
 | (n,j) :: r,h=>by
  rw [List.lookup_cons] at h
  cases hx:x == n with
  | true =>
   rw [hx] at h
   cases h
   rw [eq_of_beq hx]
   exact List.mem_cons_self
  | false =>
   rw [hx] at h
   exact List.mem_cons_of_mem _ (lookup_mem h)
theorem relabel_free {env:Env} {x:Str}:∀ {names:List (Str × NameKind)}, names.lookup x=some .free →
    ((names.map fun (n, k)=>if (k == NameKind.free && env.scope.kind == .function && env.kindOf n == some .cell) then (n, NameKind.cell) else (n, k)).lookup x=some .cell ∨
     (names.map fun (n, k)=>if (k == NameKind.free && env.scope.kind == .function && env.kindOf n == some .cell) then (n, NameKind.cell) else (n, k)).lookup x=some .free)
  | [], h=>by simp at h
  | (n, k) :: r, h=>by
    rw [List.map_cons]
    cases hx:x == n with
    | true =>
      rw [List.lookup_cons, hx] at h
      cases h
      by_cases hc:(NameKind.free == NameKind.free && env.scope.kind == .function && env.kindOf n == some .cell)=true
      · left; simp only [hc, if_true, List.lookup_cons, hx]
      · right; simp only [hc, Bool.false_eq_true, if_false, List.lookup_cons, hx]
    | false =>
      rw [List.lookup_cons, hx] at h
      have ih:=relabel_free (env:=env) h
      by_cases hc:(k == NameKind.free && env.scope.kind == .function && env.kindOf n == some .cell)=true
      · simp only [hc, if_true, List.lookup_cons, hx]; exact ih
      · simp only [hc, Bool.false_eq_true, if_false, List.lookup_cons, hx]; exact ih
section
variable {X:Cx} {pins:List (Addr × Obj)} {σ:St} {H:Hp} {s:Shared} {scope:Scope} {N:List Str} {xs:Nat} {js:List Nat} {cl:List (Str × Addr)} {fp:List Addr} {o:Obj}
theorem Inv.nostk (I:Inv X pins σ H s) {a:Addr} (h:s.heap.objs.size≤a):a ∉ frs X.stack:=fun hb=>by
 rcases List.mem_cons.mp (I.stkSub a hb) with e | hb
 ·exact absurd (Nat.lt_of_lt_of_le I.lt h) (by rw [e]; exact Nat.lt_irrefl _)
 ·exact I.nofs h hb
theorem comp_ok (I:Inv X pins σ H s) (S:CompScope X scope N xs js) (h2:∀ x c,cl.lookup x=some c→X.env.cells.lookup x=some c) (h4:∀ y ∈ scope.names,y.2=.free→∃ c,cl.lookup y.1=some c)
  (hf:∀ b ∈ fp,FpOk X pins H b) (hfo:∀ b ∈ fp,∃ u,s.heap.get? b=some u) :
  (cxComp X N scope cl { s with heap:=s.heap.push o } H (s.heap.objs.size :: fp)).Ok:=by
 have I3:Inv X pins σ H { s with heap:=s.heap.push o }:=I.kept (t':=s.toks) fun b u e=>Heap.get?_push_of_some _ e
 have hsz:(s.heap.push o).objs.size=s.heap.objs.size + 1:=Heap.size_push ..
 have hcl:∀ x c,cl.lookup x=some c→c < s.heap.objs.size:=fun x c e=>by
  obtain ⟨v,u,hu,_⟩:=I.cell x c (h2 x c e)
  exact Heap.lt_size hu
 refine ⟨I.ok.mod,S.kind,I.ok.glob,I.ok.blt,Nat.le_refl _,fun x y c e1 e2=>I.ok.inj x y c (h2 x c e1) (h2 y c e2),fun x hx=>?_,fun x c e _=>absurd e (by simp [cxComp]),I.ok.hd,I.ok.frames,.inl rfl,fun b hb=>?_,I3.bs,Nat.le_trans I3.ok.bsz I3.sz,
  fun b u e hb=>?_,fun b hb=>?_,I3.stack,I3.stkFree⟩
 ·obtain ⟨y,hy,rfl,hk⟩:=relabel_kind (scope:=scope) (env:=X.env) (x:=x) (names:=scope.names) hx
  rcases hk with hk | hk
  ·exact h4 y hy hk
  ·exact absurd hk (S.nocell y hy)
 ·show b ≠ (s.heap.push o).objs.size∧_
  rcases List.mem_cons.mp hb with rfl | hb
  ·exact ⟨by rw [hsz]; exact Nat.ne_of_lt (Nat.lt_succ_self _),fun x c e=>Nat.ne_of_lt (hcl x c e)⟩
  ·obtain ⟨u,hu⟩:=hfo b hb
   have:=Heap.lt_size hu
   exact ⟨by rw [hsz]; exact Nat.ne_of_lt (Nat.lt_succ_of_lt this),fun x c e=>(hf b hb).2.2.2.2.1 x c (h2 x c e)⟩
 ·rcases List.mem_cons.mp hb with rfl | hb
  ·exact absurd (Heap.lt_size (I.bk _ u e)) (Nat.lt_irrefl _)
  ·rcases (hf b hb).2.2.2.1 with z | z
   ·exact I.ok.noex b u e z
   ·exact absurd (Nat.lt_of_lt_of_le (Heap.lt_size e) (Nat.le_trans I.ok.bsz z)) (Nat.lt_irrefl _)
 ·rcases List.mem_cons.mp hb with rfl | hb
  ·exact I.nostk (Nat.le_refl _)
  ·intro z
   rcases List.mem_cons.mp (I.stkSub b z) with e | e
   ·exact (hf b hb).2.1 e
   ·exact (hf b hb).2.2.1 e
theorem getElem_capOf {i:Nat} {v:V} (h:(List.replicate xs none++capOf σ js)[i]?=some (some v)):∃ k j,i=xs + k∧js[k]?=some j∧σ[j]?=some (some v):=by
 by_cases hi:i < xs
 ·rw [List.getElem?_append_left (by simpa using hi)] at h
  rw [List.getElem?_replicate] at h
  split at h <;> cases h
 ·rw [List.getElem?_append_right (by simpa using Nat.le_of_not_lt hi)] at h
  rw [List.length_replicate] at h
  unfold capOf at h
  rw [List.getElem?_map] at h
  cases e:js[i - xs]? with
  | none=>rw [e] at h; cases h
  | some j =>
   rw [e] at h
   refine ⟨i - xs,j,by omega,e,?_⟩
   have h':(σ[j]?).getD none=some v:=Option.some.inj h
   cases q:σ[j]? with
   | none=>rw [q] at h'; cases h'
   | some w =>
    rw [q] at h'
    exact congrArg some h'
theorem comp_inv {h₁:Heap} {tk:Nat} (I:Inv X pins σ H s) (S:CompScope X scope N xs js) (h2:∀ x c,cl.lookup x=some c→X.env.cells.lookup x=some c) (h4:∀ y ∈ scope.names,y.2=.free→∃ c,cl.lookup y.1=some c)
  (hf:∀ b ∈ fp,FpOk X pins H b) (hfo:∀ b ∈ fp,∃ u,s.heap.get? b=some u) (hd:∀ v,o.data ≠ .cell v) (ho:o.isFreed=false) {m:Str→Option Value}
  (hns:h₁.Ns (s.heap.push o).objs.size m) (k3:∀ b u,(s.heap.push o).get? b=some u→h₁.get? b=some u) :
  Inv (cxComp X N scope cl { s with heap:=s.heap.push o } H (s.heap.objs.size :: fp)) [(s.heap.objs.size,o)] (List.replicate xs none++capOf σ js) H { s with heap:=h₁,toks:=tk }:=by
 have hsz:(s.heap.push o).objs.size=s.heap.objs.size + 1:=Heap.size_push ..
 have k2:∀ b u,s.heap.get? b=some u→h₁.get? b=some u:=fun b u e=>k3 b u (Heap.get?_push_of_some _ e)
 refine ⟨comp_ok I S h2 h4 hf hfo,rfl,I.bare,Un.kept k3,⟨m,hns,fun i x v e1 e2 e3=>?_⟩,fun x c e=>?_,I.hok.fresh (show s.heap.objs.size≤(s.heap.push o).objs.size by rw [hsz]; exact Nat.le_succ _),fun x c e=>I.freeC x c (h2 x c e),fun p hp=>?_,I.hok.kept k2,?_⟩
 ·obtain ⟨k,j,rfl,hj,hσ⟩:=getElem_capOf e2
  obtain ⟨hN,hl⟩:=S.at_ k j x hj e1
  have hmem:=lookup_mem hl
  have hk:=S.caught _ hmem rfl
  obtain ⟨m',_,hloc⟩:=I.loc
  obtain ⟨u,r,l⟩:=hloc j x v hN hσ (by rcases hk with z | z; exact .inr (.inl z); exact .inr (.inr z))
  refine ⟨u,r,?_⟩
  rcases l with ⟨z,_⟩ | ⟨_,c,ec,oc,hoc,hdc⟩
  ·rcases hk with q | q <;> rw [q] at z <;> cases z
  ·obtain ⟨c',ec'⟩:=h4 _ hmem rfl
   have:=h2 _ _ ec'
   have e:c=c':=Option.some.inj (ec.symm.trans this)
   subst e
   exact .inr ⟨relabel_free (env:=X.env) hl,c,ec',oc,k2 _ _ hoc,hdc⟩
 ·obtain ⟨v,oc,hoc,hdc⟩:=I.cell x c (h2 x c e)
  exact ⟨v,oc,k2 _ _ hoc,hdc⟩
 ·have e:p=(s.heap.objs.size,o):=by simpa [cxComp] using hp
  subst e
  exact ⟨k3 _ _ (Heap.get?_push_size _ ho),I.hok.fresh (Nat.le_refl _),(show s.heap.objs.size ≠ (s.heap.push o).objs.size by rw [hsz]; exact Nat.ne_of_lt (Nat.lt_succ_self _)),I.nostk (Nat.le_refl _),hd⟩
 ·rw [List.length_append,List.length_replicate]
  unfold capOf
  rw [List.length_map]
  exact S.len.symm
theorem comp_back {s':Shared} {H':Hp} {σ':St} {its:List Value} {n:Nat} {acc:List V} (I:Inv X pins σ H s) (hf:∀ b ∈ fp,FpOk X pins H b)
  (J:Inv (cxComp X N scope cl { s with heap:=s.heap.push o } H (s.heap.objs.size :: fp)) [(s.heap.objs.size,({ cls:=.type "list",data:=.seq its.toArray n }:Obj))] σ' H' s')
  (rv:Vals acc its) (hz:acc.length≤sizeLine) :
  Inv X pins σ (upd H' s.heap.objs.size (.lst acc)) s'∧FpOk X pins (upd H' s.heap.objs.size (.lst acc)) (s.heap.push o).objs.size∧H' s.heap.objs.size=none:=by
 have hsz:(s.heap.push o).objs.size=s.heap.objs.size + 1:=Heap.size_push ..
 obtain ⟨hD,hn,_,_,_⟩:=J.pin (s.heap.objs.size,({ cls:=.type "list",data:=.seq its.toArray n }:Obj)) (by simp [cxComp])
 have nd:∀ b u,H' b=some u→b ≠ s.heap.objs.size:=fun b u e=>ne_of_none e hn
 have lt:∀ b u,s.heap.get? b=some u→b ∉ fp→b ∉ s.heap.objs.size :: fp:=fun b u e hb z=>by
  rcases List.mem_cons.mp z with z | z
  ·exact absurd (Heap.lt_size e) (by rw [z]; exact Nat.lt_irrefl _)
  ·exact hb z
 have ps:∀ b u,s.heap.get? b=some u→(s.heap.push o).get? b=some u:=fun b u e=>Heap.get?_push_of_some _ e
 refine ⟨I.call' (ch:=fp) J.os ⟨fun b u e q hb hx=>J.base.keep b u (ps b u e) q hb (lt b u e hx),fun b u e q hb hx=>J.base.slot b u (ps b u e) q hb (lt b u e hx),fun b u e q hx=>?_,fun b u e hx=>J.base.there b u (ps b u e) (lt b u e hx),
  fun b ys e=>?_,fun b u ys e=>?_,fun b ys e=>?_⟩ (fun b u e=>?_) J.bare (fun b hb=>?_),?_,hn⟩
 ·rw [upd_ne (Nat.ne_of_lt (Heap.lt_size e))]
  exact J.base.free b u (ps b u e) q (lt b u e hx)
 ·have z:=J.base.tups b ys e
  rw [upd_ne (nd _ _ z)]; exact z
 ·have z:=J.base.frzs b u ys e
  rw [upd_ne (nd _ _ z)]; exact z
 ·obtain ⟨more,z⟩:=J.base.tbls b ys e
  exact ⟨more,by rw [upd_ne (nd _ _ z)]; exact z⟩
 ·by_cases hb:b=s.heap.objs.size
  ·subst hb
   rw [upd_same] at e
   cases e
   exact ⟨hz,its,n,rv,hD⟩
  ·rw [upd_ne hb] at e
   exact (J.hok b u e).stay (fun c v _ q=>q) (fun c q=>by rw [upd_ne (nd _ _ q)]; exact q) fun c ys q=>by rw [upd_ne (nd _ _ q)]; exact q
 ·obtain ⟨_,f1,_,f3,f4,f5⟩:=hf b hb
  exact ⟨f3,f1,f4,f5⟩
 ·have I3:Inv X pins σ H { s with heap:=s.heap.push o }:=I.kept (t':=s.toks) fun b u e=>Heap.get?_push_of_some _ e
  refine I3.fpOk (Nat.le_refl _) ?_
  rw [upd_ne (show (s.heap.push o).objs.size ≠ s.heap.objs.size by rw [hsz]; exact Nat.succ_ne_self _)]
  exact J.free
end
def CompGoal (xs:Nat) (js:List Nat) (g:TG) (tt:TT) (te:TE) (σ:St) (Q:VK) (J:It) (H1:Hp):Prop :=
 ∃ W:Nat→Nat→List V→St→Hp→Prop,(∃ m,W 0 m [] (List.replicate xs none++capOf σ js) H1)∧∀ i m acc σ' H,W i m acc σ' H →
  (J.stop i H∧∀ p,H p=none→Q (.ref p) (upd H p (.lst acc))) ∨
  (J.go i H∧acc.length < sizeLine∧∃ N:List V→St→Hp→Prop,(∀ acc' σ' H',N acc' σ' H'→∃ m',m' < m∧W (i + 1) m' acc' σ' H')∧∀ x H',J.yld i H x H'→g x σ' H' fun σ2 H2=>tt σ2 H2 fun b H3 =>
   if b=true then te σ2 H3 fun y H4=>N (acc++[y]) σ2 H4 else N acc σ2 H3)
def tComp (xs:Nat) (js:List Nat) (ti:TI) (g:TG) (tt:TT) (te:TE):TE:=fun σ H Q=>ti σ H fun J H1=>CompGoal xs js g tt te σ Q J H1
section
variable {X:Cx} {scope:Scope} {N:List Str} {xs:Nat} {js:List Nat} {tg iter elt:Expr} {ifs:List Expr} {pos:Pos} {ti:TI} {g:TG} {tt:TT} {te:TE}
theorem comp_block {pins:List (Addr × Obj)} {s:Shared} {σ:St} {H:Hp} {Q:VK} {RR:Value→Addr→Result→Shared→Prop} {E:Value→Shared→Prop} {it:Addr} {fp:List Addr} {tn:Nat→Heap→Prop} {J:It} {cl:List (Str × Addr)}
  (hc:X.calm=true) (S:CompScope X scope N xs js) (hg:∀ cl s H ex,PG (cxComp X N scope cl s H ex) tg g) (ht:∀ cl s H ex,PTs (cxComp X N scope cl s H ex) ifs tt) (he:∀ cl s H ex,PE (cxComp X N scope cl s H ex) elt te)
  (h2:∀ x c,cl.lookup x=some c→X.env.cells.lookup x=some c) (h4:∀ y ∈ scope.names,y.2=.free→∃ c,cl.lookup y.1=some c)
  (I:Inv X pins σ H s) (T:Turn X.prog X.w X.K tg J fp it tn) (st:tn 0 s.heap) (hf:∀ b ∈ fp,FpOk X pins H b)
  (hW:CompGoal xs js g tt te σ Q J H)
  (hR:∀ (D C:Addr) (H':Hp) (s':Shared) (m:Str→Option Value),Inv X pins σ H' s'→s'.heap.Ns C m→FpOk X pins H' C→Q (.ref D) H'→RR (.ref D) C (.ok .next) s') :
  wpAny (model X.prog X.w) X.A (newList []) (fun acc s₃=>wpAny (model X.prog X.w) X.A (newFunctionEnv scope X.env.globals cl [] X.env.qual none .none (some X.env)) (fun cenv s₄ =>
   codeAny (model X.prog X.w) X.A (.compStart (.ListComp elt [⟨tg,iter,ifs,0⟩] scope pos) 0 (.ref it) acc { cenv with scope:=relabel scope X.env }) (RR acc cenv.locals) s₄) E s₃) E s:=by
 refine wpAny_newObj_type (wpAny_newFunctionEnv S.nocell (by intro y hy; simp at hy) (fun h₁ hns₁ hsb₁=>?_) S.kind)
 dsimp only at hns₁ hsb₁ ⊢
 obtain ⟨W,⟨m0,w0⟩,turn⟩:=hW
 have hfo:∀ b ∈ fp,∃ u,s.heap.get? b=some u:=fun b hb=>let ⟨u,hu,_⟩:=T.obj _ _ st b hb; ⟨u,hu⟩
 have hsz:(s.heap.push ({ cls:=.type "list",dict:=none,data:=.seq ([]:List Value).toArray }:Obj)).objs.size=s.heap.objs.size + 1:=Heap.size_push ..
 have k3:∀ b u,(s.heap.push ({ cls:=.type "list",dict:=none,data:=.seq ([]:List Value).toArray }:Obj)).get? b=some u→h₁.get? b=some u:=fun b u e =>
  (hsb₁.2 b (Nat.ne_of_lt (Heap.lt_size e))).trans (Heap.get?_push_of_some _ e)
 have B0:=comp_inv (X:=X) (N:=N) (xs:=xs) (js:=js) (tk:=s.toks + ([]:List (Str × Value)).length) I S h2 h4 hf hfo (fun v z=>by cases z) rfl hns₁ k3
 generalize hXc:cxComp X N scope cl { s with heap:=s.heap.push ({ cls:=.type "list",dict:=none,data:=.seq ([]:List Value).toArray }:Obj) } H (s.heap.objs.size :: fp)=Xc at B0
 have eP:Xc.prog=X.prog:=by rw [← hXc]; rfl
 have eW:Xc.w=X.w:=by rw [← hXc]; rfl
 have eK:Xc.K=X.K:=by rw [← hXc]; rfl
 have eA:Xc.A=X.A:=by rw [← hXc]; rfl
 have eC:Xc.calm=true:=by rw [← hXc]; exact hc
 have eX:Xc.xe=fun _ _=>False:=by rw [← hXc]; rfl
 have eE:Xc.env=compEnvC scope cl (s.heap.push ({ cls:=.type "list",dict:=none,data:=.seq ([]:List Value).toArray }:Obj)).objs.size X.env:=by rw [← hXc]; rfl
 have eF:Xc.fs=frs X.stack:=by rw [← hXc]; rfl
 have eex:Xc.ex=s.heap.objs.size :: fp:=by rw [← hXc]; rfl
 have hg':PG Xc tg g:=by rw [← hXc]; exact hg _ _ _ _
 have ht':PTs Xc ifs tt:=by rw [← hXc]; exact ht _ _ _ _
 have he':PE Xc elt te:=by rw [← hXc]; exact he _ _ _ _
 have ecl:∀ x c,Xc.env.cells.lookup x=some c→X.env.cells.lookup x=some c:=by rw [eE]; exact h2
 have fpk:∀ {H':Hp} {ob:Obj},(∀ b ∈ fp,H' b=none)→∀ b ∈ fp,FpOk Xc [(s.heap.objs.size,ob)] H' b:=fun {H' ob} hn b hb=>by
  obtain ⟨u,hu⟩:=hfo b hb
  have hlt:=Heap.lt_size hu
  obtain ⟨_,f1,f2,f3,f4,f5⟩:=hf b hb
  refine ⟨hn b hb,?_,?_,.inl ?_,fun x c e=>f4 x c (ecl x c e),fun p hp=>?_⟩
  ·rw [eE]
   show b ≠ (s.heap.push _).objs.size
   rw [hsz]; exact Nat.ne_of_lt (Nat.lt_succ_of_lt hlt)
  ·rw [eF]
   intro z
   rcases List.mem_cons.mp (I.stkSub b z) with e | e
   ·exact f1 e
   ·exact f2 e
  ·rw [eex]; exact List.mem_cons_of_mem _ hb
  ·have e:p=(s.heap.objs.size,ob):=by
    rw [← hXc] at hp
    simpa [cxComp] using hp
   subst e
   show s.heap.objs.size ≠ b
   exact Nat.ne_of_gt hlt
 have loop:∀ s₃:Shared,s₃={ s with heap:=h₁,toks:=s.toks + ([]:List (Str × Value)).length } →
   codeAny (model X.prog X.w) X.A (.compLoop (.ListComp elt [⟨tg,iter,ifs,0⟩] scope pos) 0 (.ref it) (.ref s.heap.objs.size) (compEnvC scope cl (s.heap.push ({ cls:=.type "list",dict:=none,data:=.seq ([]:List Value).toArray }:Obj)).objs.size X.env))
    (RR (.ref s.heap.objs.size) (s.heap.push ({ cls:=.type "list",dict:=none,data:=.seq ([]:List Value).toArray }:Obj)).objs.size) s₃:=by
  rintro s₃ rfl
  refine compLoop_go (fun n s'=>∃ (i:Nat) (acc:List V) (its:List Value) (c:Nat) (σ':St) (H':Hp),Inv Xc [(s.heap.objs.size,({ cls:=.type "list",data:=.seq its.toArray c }:Obj))] σ' H' s'∧Vals acc its∧tn i s'.heap ∧
   (∀ b ∈ fp,H' b=none)∧acc.length≤sizeLine∧W i n acc σ' H') ?_ m0 ⟨0,[],[],0,_,H,B0,.nil,T.keep _ _ _ st fun b _ u e=>k3 b u (Heap.get?_push_of_some _ e),fun b hb=>(hf b hb).1,Nat.zero_le _,w0⟩
  rintro n s3 ⟨i,acc,its,c,σ3,H3,I3,rv,st3,fr3,hz,w3⟩
  rcases turn i n acc σ3 H3 w3 with ⟨stop,qn⟩ | ⟨go,hlen,NN,hNN,step⟩
  ·have h:=T.done Xc eP eW eK eC i _ s3 σ3 H3 (fun _ _=>False) I3 (fpk fr3) st3 stop
   rw [eA] at h
   refine thn h fun r s4 ⟨hr,I4⟩=>?_
   subst hr
   rw [← hXc] at I4
   obtain ⟨a1,a2,a3⟩:=comp_back I hf I4 rv hz
   obtain ⟨mC,hmC,_⟩:=I4.loc
   exact hR _ _ _ _ mC a1 hmC a2 (qn _ a3)
  ·have h:=T.item Xc eP eW eK eC i _ s3 σ3 H3 (fun _ _=>False) I3 (fpk fr3) st3 go
   rw [eA] at h
   refine thn h fun r s4 ⟨u,hr,h4⟩=>?_
   subst hr
   refine thn h4 fun _ s5 ⟨x,H5,I5,r5,y5,st5,fr5⟩=>?_
   have I5':=I5.pinned (fpk fr5) (T.obj _ _ st5)
   have ha:=hg' _ s5 σ3 H5 x u _ I5' r5 (step x H5 y5)
   rw [eP,eW,eA,eE,eX] at ha
   refine thn ha fun _ s6 ⟨σ6,H6,I6,q6⟩=>?_
   have hb:=ht' _ s6 σ6 H6 _ I6 q6
   rw [eP,eW,eA,eE,eX] at hb
   refine thn hb fun ok s7 ⟨H7,I7,q7⟩=>?_
   have tn':∀ {σ8:St} {H8:Hp} {s8:Shared},Inv Xc ([(s.heap.objs.size,({ cls:=.type "list",data:=.seq its.toArray c }:Obj))]++pinsAt fp s5.heap) σ8 H8 s8→tn (i + 1) s8.heap∧∀ b ∈ fp,H8 b=none:=fun {σ8 H8 s8} I8=>by
    refine ⟨T.keep _ _ _ st5 fun b hb o e=>(I8.pin (b,o) (List.mem_append_right _ (List.mem_append_right _ (mem_pinsAt hb e)))).1,fun b hb=>?_⟩
    obtain ⟨o,e,d⟩:=T.obj _ _ st5 b hb
    exact (I8.pin (b,o) (List.mem_append_right _ (List.mem_append_right _ (mem_pinsAt hb e)))).2.1
   cases ok with
   | false =>
    obtain ⟨m',hm,w7⟩:=hNN _ _ _ q7
    obtain ⟨t1,t2⟩:=tn' I7
    exact ⟨m',hm,i + 1,acc,its,c,σ6,H7,I7.unpinned,rv,t1,t2,hz,w7⟩
   | true =>
    have hd:=he' _ s7 σ6 H7 _ I7 q7
    rw [eP,eW,eA,eE,eX] at hd
    refine thn hd fun v s8 ⟨y,H8,I8,r8,q8⟩=>?_
    obtain ⟨m',hm,w8⟩:=hNN _ _ _ q8
    obtain ⟨t1,t2⟩:=tn' I8
    have I9:=I8.unpinned
    obtain ⟨eD,nD,nC,nF,_⟩:=I9.pin (s.heap.objs.size,({ cls:=.type "list",data:=.seq its.toArray c }:Obj)) (by simp)
    have hln:=rv.length
    refine call_meets F.slot_list_append ⟨_,eD,rfl⟩ F.entry_list_append (F.args_list_append_2 _ _) (PySem.list_append s.heap.objs.size its.toArray c v (by rw [List.size_toArray]; omega)) ⟨eD,?_⟩
    obtain ⟨n9,q⟩:∃ n9,(s8.heap.update s.heap.objs.size (Obj.mapSeq fun a=>a.push v)).get? s.heap.objs.size=some ({ cls:=.type "list",data:=.seq (its++[v]).toArray n9 }:Obj):=by
     have q:=PySem.IsL.update eD (fun a=>a.push v)
     have ea:its.toArray.push v=(its++[v]).toArray:=by simp
     rw [ea] at q
     exact ⟨_,q⟩
    have I10:Inv Xc [] σ6 H8 { s8 with heap:=s8.heap.update s.heap.objs.size (Obj.mapSeq fun a=>a.push v) }:=by
     refine (I9.pins_of (pins':=[]) fun p hp=>nomatch hp).turned (it:=s.heap.objs.size) (t':=s8.toks) (fun b u hb e=>(Heap.get?_update_other s8.heap _ (Ne.symm hb)).trans e) nD nC (.inl (by rw [eex]; exact List.mem_cons_self)) (fun x cc e=>?_) (fun p hp=>?_)
     ·obtain ⟨w0,oc,hoc,_⟩:=I.cell x cc (ecl x cc e)
      exact Nat.ne_of_lt (Heap.lt_size hoc)
     ·rw [← hXc] at hp
      exact absurd hp (by simp [cxComp])
    refine ⟨m',hm,i + 1,acc++[y],its++[v],n9,σ6,H8,I10.pins_of fun p hp=>?_,rv.append (.cons r8 .nil),T.keep _ _ _ t1 fun b hb u e=>?_,t2,by rw [List.length_append,List.length_singleton]; omega,w8⟩
    ·have e:p=(s.heap.objs.size,({ cls:=.type "list",data:=.seq (its++[v]).toArray n9 }:Obj)):=by simpa using hp
     subst e
     exact ⟨q,nD,nC,nF,fun w z=>by cases z⟩
    ·have hb':b ≠ s.heap.objs.size:=by
      obtain ⟨z,hz'⟩:=hfo b hb
      exact Nat.ne_of_lt (Heap.lt_size hz')
     exact (Heap.get?_update_other s8.heap _ (Ne.symm hb')).trans e
 exact codeAny_compStart_list (loop _ rfl) (T.self _ 0 _ _ _ (T.keep _ _ _ st fun b _ u e=>k3 b u (Heap.get?_push_of_some _ e)) (loop _ rfl))
theorem pe_comp (hc:X.calm=true) (S:CompScope X scope N xs js) (hi:PI X tg iter ti) (hg:∀ cl s H ex,PG (cxComp X N scope cl s H ex) tg g) (ht:∀ cl s H ex,PTs (cxComp X N scope cl s H ex) ifs tt)
  (he:∀ cl s H ex,PE (cxComp X N scope cl s H ex) elt te) (hs:∀ x,foldedSetIterable iter X.env x=pure x:=by intro _; rfl) :
  PE X (.ListComp elt [⟨tg,iter,ifs,0⟩] scope pos) (tComp xs js ti g tt te):=by
 intro pins s σ H Q I h
 obtain ⟨cl,e1,h2,h4⟩:=closure_ok (scope:=scope) (env:=X.env) fun y hy e=>I.ok.has y.1 (S.caught y hy e)
 rw [eval_ListComp]
 refine wpAny_comprehension_free (use:=none) rfl hs e1 S.kind S.once (thn (hi pins s σ H _ I h) fun v s1 h1=>thn h1 fun itv s2 h2'=>?_)
 obtain ⟨it,fp,tn,J,H2,e,I2,T,st2,f2,hW⟩:=h2'
 subst e
 refine comp_block (RR:=fun acc C=>compPost (model X.prog X.w) X.A X.xe none (EP X pins σ Q) acc C) hc S hg ht he h2 h4 I2 T st2 f2 hW fun D C H' s' m I' hn hC q=>?_
 obtain ⟨f0,f1,_,f3,f4,f5⟩:=hC
 exact ⟨m,hn,fun h' hs'=>⟨.ref D,H',I'.turned (it:=C) (t':=s'.toks) (fun b u hb e=>(hs'.2 b hb).trans e) f0 f1 f3 f4 f5,rfl,q⟩⟩
theorem ps_comp {j:Nat} {y:Str} {py spos:Pos} (hc:X.calm=true) (hN:X.N.Nodup) (hj:X.N[j]?=some y) (hy:X.env.scope.names.lookup y=some .local) (S:CompScope X scope N xs js) (hi:PI X tg iter ti) (hg:∀ cl s H ex,PG (cxComp X N scope cl s H ex) tg g) (ht:∀ cl s H ex,PTs (cxComp X N scope cl s H ex) ifs tt)
  (he:∀ cl s H ex,PE (cxComp X N scope cl s H ex) elt te)
  (hsw:swapsWith (.ListComp elt [⟨tg,iter,ifs,0⟩] scope pos) (some (.Name y py)) spos.line X.env=pure true)
  (hs:∀ x,foldedSetIterable iter X.env x=pure x:=by intro _; rfl) :
  PS X (.Assign [.Name y py] (.ListComp elt [⟨tg,iter,ifs,0⟩] scope pos) spos) (tAsg (tComp xs js ti g tt te) (gName j)):=by
 intro pins s σ H D I h
 obtain ⟨cl,e1,h2,h4⟩:=closure_ok (scope:=scope) (env:=X.env) fun y hy e=>I.ok.has y.1 (S.caught y hy e)
 rw [exec_Assign_Name_used _ _ _ _ hsw]
 refine wpAny_bind (wpAny_standAt (wpAny_bind ?_))
 show wpAny _ X.A (do let _ ← comprehension (.ListComp elt [⟨tg,iter,ifs,0⟩] scope pos) scope X.env _ (newList []) false (eval iter X.env) (some (assign (.Name y py) X.env))) _ _ s
 refine wpAny_bind (wpAny_mono (wpAny_comprehension_free (use:=some (assign (.Name y py) X.env)) (Q:=fun _ s'=>SP X pins D .next s') rfl hs e1 S.kind S.once
  (thn (hi pins s σ H _ I h) fun v s1 h1=>thn h1 fun itv s2 h2'=>?_)) (fun _ s' hq=>wpAny_pure (wpAny_pure hq)) fun _ _ e=>e)
 obtain ⟨it,fp,tn,J,H2,e,I2,T,st2,f2,hW⟩:=h2'
 subst e
 refine comp_block (Q:=fun x H1=>gName j x σ H1 D.nx) (RR:=fun acc C=>compPost (model X.prog X.w) X.A X.xe (some (assign (.Name y py) X.env)) (fun _ s'=>SP X pins D .next s') acc C) hc S hg ht he h2 h4 I2 T st2 f2 hW fun A C H' s' m I' hn hC q=>?_
 obtain ⟨f0,f1,f2',f3,f4,f5⟩:=hC
 show wpAny _ X.A (assign (.Name y py) X.env (.ref A)) _ _ _
 refine wpAny_assign_Name (store_ok2 I' hN hj (.inl hy) (show RelV (.ref A) (.ref A) from rfl) (fun s'' I'' ⟨a,sb,ha⟩=>?_) (.inr hy))
 have hCa:C ≠ a:=by
  rcases ha with e | e
  ·rw [e]; exact f1
  ·exact fun z=>f4 y a e z.symm
 refine ⟨m,hn.sameBut sb hCa,fun h' hs'=>?_⟩
 exact ⟨_,H',I''.turned (it:=C) (t':=s''.toks) (fun b u hb e=>(hs'.2 b hb).trans e) f0 f1 f3 f4 f5,q⟩
end
section
variable {K:PySem.W.Frag} {xs:Nat} {js:List Nat} {g:TG} {tt:TT} {te:TE} {σ:St} {Q:VK} {H:Hp}
theorem comp_walk {J:It} {n:Nat} (Pv:Nat→List V→St→Hp→Prop) (h0:Pv 0 [] (List.replicate xs none++capOf σ js) H) (hl:∀ i acc σ' H',Pv i acc σ' H'→acc.length≤i) (hz:n≤sizeLine)
  (hgo:∀ i acc σ' H',i < n→Pv i acc σ' H'→J.go i H') (hst:∀ acc σ' H',Pv n acc σ' H'→J.stop n H')
  (hs:∀ i x acc σ' H' H2,i < n→Pv i acc σ' H'→J.yld i H' x H2→g x σ' H2 fun σ2 H2=>tt σ2 H2 fun b H3=>if b=true then te σ2 H3 fun y H4=>Pv (i + 1) (acc++[y]) σ2 H4 else Pv (i + 1) acc σ2 H3)
  (hd:∀ acc σ' H',Pv n acc σ' H'→∀ p,H' p=none→Q (.ref p) (upd H' p (.lst acc))):CompGoal xs js g tt te σ Q J H:=by
 refine ⟨fun i m acc σ' H'=>m=n - i∧i≤n∧Pv i acc σ' H',⟨n,by simp,Nat.zero_le _,h0⟩,?_⟩
 rintro i m acc σ' H' ⟨rfl,hi,p⟩
 by_cases hlt:i < n
 ·have:=hl _ _ _ _ p
  exact .inr ⟨hgo i acc σ' H' hlt p,by omega,fun a s h=>Pv (i + 1) a s h,fun a s h q=>⟨n - (i + 1),by omega,rfl,hlt,q⟩,fun x H2 y=>hs i x acc σ' H' H2 hlt p y⟩
 ·have e:i=n:=by omega
  subst e
  exact .inl ⟨hst _ _ _ p,hd _ _ _ p⟩
theorem comp_list {a:Addr} {ys:List V} (Pv:Nat→List V→St→Hp→Prop) (h0:Pv 0 [] (List.replicate xs none++capOf σ js) H) (hl:∀ i acc σ' H',Pv i acc σ' H'→acc.length≤i) (hz:ys.length≤sizeLine)
  (hq:∀ i acc σ' H',i≤ys.length→Pv i acc σ' H'→SqL K H' a ys)
  (hs:∀ i x acc σ' H',ys[i]?=some x→Pv i acc σ' H'→g x σ' H' fun σ2 H2=>tt σ2 H2 fun b H3=>if b=true then te σ2 H3 fun y H4=>Pv (i + 1) (acc++[y]) σ2 H4 else Pv (i + 1) acc σ2 H3)
  (hd:∀ acc σ' H',Pv ys.length acc σ' H'→∀ p,H' p=none→Q (.ref p) (upd H' p (.lst acc))):CompGoal xs js g tt te σ Q (Itl K a) H :=
 comp_walk Pv h0 hl hz (fun i acc σ' H' h p=>⟨ys,ys[i],hq _ _ _ _ (Nat.le_of_lt h) p,by simp [h]⟩) (fun acc σ' H' p=>⟨ys,hq _ _ _ _ (Nat.le_refl _) p,Nat.le_refl _⟩)
  (fun i x acc σ' H' H2 h p y=>by
   obtain ⟨e,y⟩:=y
   subst e
   exact hs i x acc σ' _ (y ys (hq _ _ _ _ (Nat.le_of_lt h) p)) p) hd
theorem comp_tup {a:Addr} {ys:List V} (Pv:Nat→List V→St→Hp→Prop) (h0:Pv 0 [] (List.replicate xs none++capOf σ js) H) (hl:∀ i acc σ' H',Pv i acc σ' H'→acc.length≤i) (hz:ys.length≤sizeLine)
  (hq:∀ i acc σ' H',i≤ys.length→Pv i acc σ' H'→SqT K H' a ys)
  (hs:∀ i x acc σ' H',ys[i]?=some x→Pv i acc σ' H'→g x σ' H' fun σ2 H2=>tt σ2 H2 fun b H3=>if b=true then te σ2 H3 fun y H4=>Pv (i + 1) (acc++[y]) σ2 H4 else Pv (i + 1) acc σ2 H3)
  (hd:∀ acc σ' H',Pv ys.length acc σ' H'→∀ p,H' p=none→Q (.ref p) (upd H' p (.lst acc))):CompGoal xs js g tt te σ Q (Itt K a) H :=
 comp_walk Pv h0 hl hz (fun i acc σ' H' h p=>⟨ys,ys[i],hq _ _ _ _ (Nat.le_of_lt h) p,by simp [h]⟩) (fun acc σ' H' p=>⟨ys,hq _ _ _ _ (Nat.le_refl _) p,Nat.le_refl _⟩)
  (fun i x acc σ' H' H2 h p y=>by
   obtain ⟨e,y⟩:=y
   subst e
   exact hs i x acc σ' _ (y ys (hq _ _ _ _ (Nat.le_of_lt h) p)) p) hd
theorem comp_range {lo:Int} {n:Nat} (Pv:Nat→List V→St→Hp→Prop) (h0:Pv 0 [] (List.replicate xs none++capOf σ js) H) (hl:∀ i acc σ' H',Pv i acc σ' H'→acc.length≤i) (hz:n≤sizeLine)
  (hs:∀ i acc σ' H',i < n→Pv i acc σ' H'→g (.int (lo + i)) σ' H' fun σ2 H2=>tt σ2 H2 fun b H3=>if b=true then te σ2 H3 fun y H4=>Pv (i + 1) (acc++[y]) σ2 H4 else Pv (i + 1) acc σ2 H3)
  (hd:∀ acc σ' H',Pv n acc σ' H'→∀ p,H' p=none→Q (.ref p) (upd H' p (.lst acc))):CompGoal xs js g tt te σ Q (Itr lo n) H :=
 comp_walk Pv h0 hl hz (fun i acc σ' H' h p=>h) (fun acc σ' H' p=>Nat.le_refl _)
  (fun i x acc σ' H' H2 h p y=>by
   obtain ⟨e,y⟩:=y
   subst e y
   exact hs i acc σ' _ h p) hd
end
def Its (x:Str):It:=⟨fun i _=>i < x.cps.size,fun i H v H'=>H'=H∧∃ c,x.cps[i]?=some c∧v=.str ⟨#[c]⟩,fun i _=>i=x.cps.size⟩
def iStr (tl:TE):TI:=fun σ H R=>tl σ H fun v H1=>∃ x,v=.str x∧R (Its x) H1
theorem comp_str {xs:Nat} {js:List Nat} {g:TG} {tt:TT} {te:TE} {σ:St} {Q:VK} {H:Hp} {x:Str} (Pv:Nat→List V→St→Hp→Prop) (h0:Pv 0 [] (List.replicate xs none++capOf σ js) H) (hl:∀ i acc σ' H',Pv i acc σ' H'→acc.length≤i) (hz:x.cps.size≤sizeLine)
  (hs:∀ i c acc σ' H',x.cps[i]?=some c→Pv i acc σ' H'→g (.str ⟨#[c]⟩) σ' H' fun σ2 H2=>tt σ2 H2 fun b H3=>if b=true then te σ2 H3 fun y H4=>Pv (i + 1) (acc++[y]) σ2 H4 else Pv (i + 1) acc σ2 H3)
  (hd:∀ acc σ' H',Pv x.cps.size acc σ' H'→∀ p,H' p=none→Q (.ref p) (upd H' p (.lst acc))):CompGoal xs js g tt te σ Q (Its x) H :=
 comp_walk Pv h0 hl hz (fun i acc σ' H' h p=>h) (fun acc σ' H' p=>rfl)
  (fun i v acc σ' H' H2 h p y=>by
   obtain ⟨e,c,y1,y2⟩:=y
   subst e y2
   exact hs i c acc σ' _ y1 p) hd
def StrAt (it:Addr) (x:Str) (t:Tok) (i:Nat) (h:Heap):Prop:=h.IsStrIter it "str_ascii_iterator" x t i ∨ h.IsStrIter it "str_iterator" x t i
theorem StrAt.obj {it:Addr} {x:Str} {t:Tok} {i:Nat} {h:Heap} (st:StrAt it x t i h):∃ o n vs,h.get? it=some o∧o.cls=.type n∧o.data=.fields vs∧(n = "str_ascii_iterator" ∨ n = "str_iterator"):=by
 rcases st with ⟨o,e,c,d⟩ | ⟨o,e,c,d⟩
 ·exact ⟨o,_,_,e,c,d,.inl rfl⟩
 ·exact ⟨o,_,_,e,c,d,.inr rfl⟩
theorem StrAt.go {M:Model} {A:Around} {E:Value→Shared→Prop} {s:Shared} {tg:Expr} {it:Addr} {u:Value} {x:Str} {t:Tok} {i:Nat} {Q:Unit→Shared→Prop} (st:StrAt it x t i s.heap) (hQ:Q () s):wpAny M A (letOwnedTupleGo tg (.ref it) u) Q E s:=by
 obtain ⟨o,n,vs,e,c,d,hn⟩:=st.obj
 rcases hn with rfl | rfl
 ·exact go_of e c d (by decide) hQ
 ·exact go_of e c d (by decide) hQ
theorem turn_str {P:Program} {w:World} {K:PySem.W.Frag} {tg:Expr} (it:Addr) (x:Str) (t:Tok):Turn P w K tg (Its x) [it] it (StrAt it x t) where
 mem:=by simp
 obj:=fun i h st b hb=>by
  have e:b=it:=by simpa using hb
  subst e
  obtain ⟨o,n,vs,e,c,d,hn⟩:=st.obj
  exact ⟨o,e,fun v z=>by rw [d] at z; cases z⟩
 keep:=fun i h h' st k=>by
  rcases st with ⟨o,e,r⟩ | ⟨o,e,r⟩
  ·exact .inl ⟨o,k it (by simp) o e,r⟩
  ·exact .inr ⟨o,k it (by simp) o e,r⟩
 item:=by
  intro X hP hw hK hc i pins s σ H E I hf st hg
  subst hP hw hK
  obtain ⟨f0,f1,f2,f3,f4,f5⟩:=hf it (by simp)
  have fin:∀ (v:Value) (h':Heap) (tk:Nat),SignAt x i v→StrAt it x t (i + 1) h'→(∀ b o,b ∉ [it]→s.heap.get? b=some o→h'.get? b=some o) →
    ∃ u,some v=some u∧wpAny (model X.prog X.w) X.A (letOwnedTupleGo tg (.ref it) u) (fun _ s2=>∃ y H',Inv X pins σ H' s2∧RelV y u∧(Its x).yld i H y H'∧StrAt it x t (i + 1) s2.heap∧∀ b ∈ [it],H' b=none) E { s with heap:=h',toks:=tk }:=by
   rintro v h' tk ⟨c,u,hc',rfl⟩ st' k
   exact ⟨_,rfl,st'.go (s:={ s with heap:=h',toks:=tk }) ⟨.str ⟨#[c]⟩,H,I.turned (t':=tk) (fun b o hb e=>k b o (by simpa using hb) e) f0 f1 f3 f4 f5,⟨_,rfl⟩,⟨rfl,c,hc',rfl⟩,st',fun b hb=>(hf b hb).1⟩⟩
  rcases st with st | st
  ·exact (Walks.strAscii (I.ok.hd hc) it x t).item i s _ _ hg st fun v h' tk hv st' k=>fin v h' tk hv (.inl st') k
  ·exact (Walks.strWide (I.ok.hd hc) it x t).item i s _ _ hg st fun v h' tk hv st' k=>fin v h' tk hv (.inr st') k
 done:=by
  intro X hP hw hK hc i pins s σ H E I hf st hg
  subst hP hw hK
  obtain ⟨f0,f1,f2,f3,f4,f5⟩:=hf it (by simp)
  have hg':i=x.cps.size:=hg
  subst hg'
  rcases st with st | st
  ·exact (Walks.strAscii (I.ok.hd hc) it x t).done s _ _ st fun h' tk k=>⟨rfl,I.turned (t':=tk) (fun b o hb e=>k b o (by simpa using hb) e) f0 f1 f3 f4 f5⟩
  ·exact (Walks.strWide (I.ok.hd hc) it x t).done s _ _ st fun h' tk k=>⟨rfl,I.turned (t':=tk) (fun b o hb e=>k b o (by simpa using hb) e) f0 f1 f3 f4 f5⟩
 self:=fun A i s Q E st h=>by
  rcases st with st | st
  ·exact wpAny_pyIter_striter_ascii st h
  ·exact wpAny_pyIter_striter_wide st h
theorem pi_str {X:Cx} {tg l:Expr} {tl:TE} (hl:PE X l tl):PI X tg l (iStr tl):=by
 intro pins s σ H R I h
 refine thn (hl pins s σ H _ I h) fun v s1 ⟨y,H1,I1,r1,q1⟩=>?_
 obtain ⟨x,rfl,q⟩:=q1
 obtain ⟨t,rfl⟩:=r1
 have fin:∀ o,StrAt s1.heap.objs.size x t 0 (s1.heap.push o)→PIE X pins σ tg R (.ref s1.heap.objs.size) { s1 with heap:=s1.heap.push o }:=fun o st=>by
  refine ⟨s1.heap.objs.size,[s1.heap.objs.size],_,_,H1,rfl,I1.kept (t':=s1.toks) fun b o e=>Heap.get?_push_of_some _ e,turn_str _ x t,st,fun b hb=>?_,q⟩
  have e:b=s1.heap.objs.size:=by simpa using hb
  subst e
  exact I1.fpOk (Nat.le_refl _) (I1.hok.fresh (Nat.le_refl _))
 cases ha:x.cps.all (· < 128)
 ·exact wpAny_pyIter_wide ha (fin _ (.inr ⟨_,Heap.get?_push_size _ rfl,rfl,rfl⟩))
 ·exact wpAny_pyIter_ascii ha (fin _ (.inl ⟨_,Heap.get?_push_size _ rfl,rfl,rfl⟩))
theorem all_range (bs:List Bool):(List.range bs.length).all (fun i=>(bs[i]?).getD true)=bs.all id:=by
 rw [Bool.eq_iff_iff]
 simp only [List.all_eq_true,List.mem_range,id]
 constructor
 ·intro h b hb
  obtain ⟨i,hi,e⟩:=List.mem_iff_getElem.mp hb
  have:=h i hi
  rw [List.getElem?_eq_getElem hi] at this
  rw [← e]
  exact this
 ·intro h i hi
  rw [List.getElem?_eq_getElem hi]
  exact h _ (List.getElem_mem hi)
section
variable {X:Cx}
theorem call_all (hc:X.calm=true):CallR X (.builtin "all") (fun xs H Q=>∃ (p:Addr) (bs:List Bool),xs=[.ref p]∧SqL X.K H p (bs.map V.bl)∧Q (.bl (bs.all id)) H):=by
 intro pins s σ H xs us Q I r h
 obtain ⟨p,bs,rfl,hp,q⟩:=h
 obtain ⟨u,rfl,ru⟩:=vals1 r
 cases ru
 obtain ⟨its,rv,ht,hz⟩:=I.list hp
 have hlen:=rv.length
 rw [List.length_map] at hlen
 refine call_all_walk (wpAny_pyIter_list ht.isList ?_)
 have hpn:p < s.heap.objs.size:=let ⟨o,n,e,_⟩:=ht; Heap.lt_size e
 refine ⟨s.heap.objs.size,[s.heap.objs.size,p],[s.heap.objs.size],its.toArray.size,(fun i v=>its.toArray[i]?=some v),(fun i h=>h.IsListIter s.heap.objs.size p i∧h.IsList p its.toArray),fun i=>(bs[i]?).getD true,rfl,Walks.list (A:=X.A.in1) (show X.A.in1.handled=none from I.ok.hd hc) s.heap.objs.size p (Nat.ne_of_lt hpn) its.toArray,⟨⟨_,Heap.get?_push_size _ rfl,rfl,rfl⟩,ht.isList.at fun o e=>Heap.get?_push_of_some _ e⟩,?_,fun h' tk k=>?_⟩
 ·intro i v s' Q' E' hv hq
  have hv':its[i]?=some v:=by simpa using hv
  have hi:i < bs.length:=by rw [hlen]; exact (List.getElem?_eq_some_iff.mp hv').1
  obtain ⟨u',hu',ru'⟩:=rv.get (i:=i) (x:=.bl bs[i]) (by simp [hi])
  rw [hv'] at hu'
  cases hu'
  cases ru'
  refine wpAny_truthy_bool ?_
  have hq':Q' ((bs[i]?).getD true) s':=hq
  rw [List.getElem?_eq_getElem hi] at hq'
  exact hq'
 ·have e:(List.range its.toArray.size).all (fun i=>(bs[i]?).getD true)=bs.all id:=by
   rw [List.size_toArray,← hlen]
   exact all_range bs
  refine ⟨.bl (bs.all id),H,I.kept (t':=tk) fun b o e=>k b o ?_ (Heap.get?_push_of_some _ e),by rw [e]; rfl,q⟩
  have:=Heap.lt_size e
  intro z
  rw [List.mem_singleton.mp z] at this
  exact Nat.lt_irrefl _ this
theorem call_isinst:CallR X (.builtin "isinstance") (fun xs H Q=>∃ x T t b,xs=[x,.ty T]∧TyOf X.K H x t∧PySem.W.kitOne X.K t (.type T)=some b∧Q (.bl b) H):=by
 intro pins s σ H xs us Q I r h
 obtain ⟨x,T,t,b,rfl,ty,e,q⟩:=h
 obtain ⟨u,v,rfl,ru,rv⟩:=vals2 r
 cases rv
 exact isinst_ok I ru ty e fun tk=>⟨.bl b,H,I.tok tk,rfl,q⟩
def rSlS:V→Option Int→Option Int→Hp→VK→Prop:=fun x lo hi H Q=>∃ z,x=.str z∧z.length≤sizeLine∧Q (.str (Txt.slice z lo hi)) H
theorem sl_str:SlR X rSlS:=by
 intro pins s σ H x v vl vu lo hi sl Q I rx hs pl pu h
 obtain ⟨z,rfl,hz,q⟩:=h
 obtain ⟨t,rfl⟩:=rx
 refine ⟨"str",_,F.slot_str_getitem.lookup,typeIs_str _ _ _,?_⟩
 have fin:∀ t' k,EP X pins σ Q (.str (Txt.slice z lo hi) t') { s with toks:=k }:=fun t' k=>⟨.str _,H,I.tok k,⟨t',rfl⟩,q⟩
 obtain ⟨o,ho,hc,hd⟩:=hs
 cases pl with
 | none =>
  cases pu with
  | none=>exact wpAny_getItem_str_slice (l:=none) (u:=none) (st:=none) ⟨o,ho,hc,hd⟩ rfl (post_val_or_str ⟨Nat.le_trans (Txt.slice_le z _ _) hz,fin⟩)
  | int j uj=>exact wpAny_getItem_str_slice (l:=none) (u:=some (j,uj)) (st:=none) ⟨o,ho,hc,hd⟩ rfl (post_val_or_str ⟨Nat.le_trans (Txt.slice_le z _ _) hz,fin⟩)
 | int i ui =>
  cases pu with
  | none=>exact wpAny_getItem_str_slice (l:=some (i,ui)) (u:=none) (st:=none) ⟨o,ho,hc,hd⟩ rfl (post_val_or_str ⟨Nat.le_trans (Txt.slice_le z _ _) hz,fin⟩)
  | int j uj=>exact wpAny_getItem_str_slice (l:=some (i,ui)) (u:=some (j,uj)) (st:=none) ⟨o,ho,hc,hd⟩ rfl (post_val_or_str ⟨Nat.le_trans (Txt.slice_le z _ _) hz,fin⟩)
theorem op_fdivB:OpR X (binaryOp .FloorDiv) (rI (fun _ j=>0 < j∧j.natAbs.log2 < 9000) fun i j=>.int (i / j)):=opI fun i j _ _ _ _ _ hc q=>by
 refine floordiv_int (by omega) ?_ (.inl (PyProof.noPylong_of_log2 hc.2))
 rw [Int.fdiv_eq_ediv_of_nonneg i (by omega)]
 exact q
end
def RdD (K:PySem.W.Frag) (H:Hp):Nat→V→PyData→Prop
 | _,.non,d=>d=.none
 | _,.bl b,d=>d=.bool b
 | _,.int i,d=>d=.int i
 | _,.str x,d=>PyData.strOk x=true∧d=.str x
 | n + 1,.ref a,d=>(∃ xs ds,SqL K H a xs∧d=.list ds∧Paired (RdD K H n) xs ds) ∨ ∃ xs ds,SqT K H a xs∧d=.tuple ds∧Paired (RdD K H n) xs ds
 | _,_,_=>False
section
variable {X:Cx} {pins:List (Addr × Obj)} {σ:St} {H:Hp} {s:Shared}
theorem RdD.reads (I:Inv X pins σ H s):∀ (n:Nat) (v:V) (d:PyData) (u:Value),RdD X.K H n v d→RelV v u→(∃ as,Reads s.heap u d as)∧d.canLay0=true∧d.depth≤n:=by
 intro n
 induction n with
 | zero =>
  intro v d u h r
  cases v <;> simp only [RdD] at h
  ·subst h; cases r; exact ⟨⟨_,.none⟩,rfl,Nat.le_refl _⟩
  ·subst h; cases r; exact ⟨⟨_,.bool _⟩,rfl,Nat.le_refl _⟩
  ·subst h; obtain ⟨t,rfl⟩:=r; exact ⟨⟨_,.int _ _⟩,rfl,Nat.le_refl _⟩
  ·obtain ⟨h1,rfl⟩:=h; obtain ⟨t,rfl⟩:=r; exact ⟨⟨_,.str _ _⟩,h1,Nat.le_refl _⟩
 | succ n ih =>
  have all:∀ (xs:List V) (ds:List PyData) (us:List Value),Paired (RdD X.K H n) xs ds→Vals xs us→(∃ as,ReadsAll s.heap us ds as)∧PyData.canLayAll0 ds=true∧PyData.depthAll ds≤n:=by
   intro xs ds us p
   induction p generalizing us with
   | nil=>intro r; cases r; exact ⟨⟨_,.nil⟩,rfl,Nat.zero_le _⟩
   | cons h t ih2 =>
    intro r
    cases r with
    | cons r1 r2 =>
     obtain ⟨⟨as,a1⟩,a2,a3⟩:=ih _ _ _ h r1
     obtain ⟨⟨bs,b1⟩,b2,b3⟩:=ih2 _ r2
     exact ⟨⟨_,.cons a1 b1⟩,by simp [PyData.canLayAll0,a2,b2],by simp only [PyData.depthAll]; omega⟩
  intro v d u h r
  cases v <;> simp only [RdD] at h
  ·subst h; cases r; exact ⟨⟨_,.none⟩,rfl,Nat.zero_le _⟩
  ·subst h; cases r; exact ⟨⟨_,.bool _⟩,rfl,Nat.zero_le _⟩
  ·subst h; obtain ⟨t,rfl⟩:=r; exact ⟨⟨_,.int _ _⟩,rfl,Nat.zero_le _⟩
  ·obtain ⟨h1,rfl⟩:=h; obtain ⟨t,rfl⟩:=r; exact ⟨⟨_,.str _ _⟩,h1,Nat.zero_le _⟩
  ·cases r
   rcases h with ⟨xs,ds,hq,rfl,p⟩ | ⟨xs,ds,hq,rfl,p⟩
   ·obtain ⟨its,rv,⟨o,m,e,c,_,dd⟩,_⟩:=I.list hq
    obtain ⟨⟨as,a1⟩,a2,a3⟩:=all xs ds its p rv
    exact ⟨⟨_,.list e c dd (by simpa using a1)⟩,by simpa [PyData.canLay0] using a2,by simp only [PyData.depth]; omega⟩
   ·obtain ⟨its,rv,⟨o,e,c,m,dd⟩,_⟩:=I.tuple hq
    obtain ⟨⟨as,a1⟩,a2,a3⟩:=all xs ds its p rv
    exact ⟨⟨_,.tuple e c dd (by simpa using a1)⟩,by simpa [PyData.canLay0] using a2,by simp only [PyData.depth]; omega⟩
def rEqD (K:PySem.W.Frag) (neg:Bool):R2:=fun x y H Q=>∃ n dx dy,n≤64∧RdD K H n x dx∧RdD K H n y dy∧Q (.bl (if neg then !PyData.eqv dx dy else PyData.eqv dx dy)) H
theorem op_eqD (hu:X.A.units + 64 < cLine):OpR X (compareOp .Eq) (rEqD X.K false):=by
 intro pins s σ H x y v u Q I rx ry h
 obtain ⟨n,dx,dy,hn,h1,h2,q⟩:=h
 obtain ⟨⟨as,a1⟩,a2,a3⟩:=RdD.reads I n x dx v h1 rx
 obtain ⟨⟨bs,b1⟩,b2,b3⟩:=RdD.reads I n y dy u h2 ry
 have sx:SeqAt.shaped dx=true:=by unfold SeqAt.shaped; rw [a2,decide_eq_true (by omega)]; rfl
 have sy:SeqAt.shaped dy=true:=by unfold SeqAt.shaped; rw [b2,decide_eq_true (by omega)]; rfl
 exact SeqAt.compareEq_shaped a1 b1 sx sy hu ⟨.bl _,H,I,rfl,q⟩
theorem op_neD (hu:X.A.units + 64 < cLine):OpR X (compareOp .NotEq) (rEqD X.K true):=by
 intro pins s σ H x y v u Q I rx ry h
 obtain ⟨n,dx,dy,hn,h1,h2,q⟩:=h
 obtain ⟨⟨as,a1⟩,a2,a3⟩:=RdD.reads I n x dx v h1 rx
 obtain ⟨⟨bs,b1⟩,b2,b3⟩:=RdD.reads I n y dy u h2 ry
 have sx:SeqAt.shaped dx=true:=by unfold SeqAt.shaped; rw [a2,decide_eq_true (by omega)]; rfl
 have sy:SeqAt.shaped dy=true:=by unfold SeqAt.shaped; rw [b2,decide_eq_true (by omega)]; rfl
 exact SeqAt.compareNe_shaped a1 b1 sx sy hu ⟨.bl _,H,I,rfl,q⟩
end
end L2
namespace L2
open PySem PySem.Spec PyProof.Rows
structure Can (P:Program) (w:World) (K:PySem.W.Frag) (mg:Str→Option Value) (base:Heap) (k:Nat) (x:Str) (ps:List Str) (sp:Sp):Prop where
 ex:∃ (f:Addr) (fd:FuncData),FnOk P w K mg base CX0 k f fd ps sp∧mg x=some (.ref f)∧PySem.W.keepIn K (.ref f)=true∧Binds K fd ps []
structure CanM (P:Program) (w:World) (K:PySem.W.Frag) (mg:Str→Option Value) (base:Heap) (k:Nat) (C:Addr) (m:Str) (ps:List Str) (sp:Sp):Prop where
 ex:∃ (f:Addr) (fd:FuncData),FnOk P w K mg base CX0 k f fd ps sp∧Meth K C m f∧Binds K fd ps []
structure CanI (P:Program) (w:World) (K:PySem.W.Frag) (mg:Str→Option Value) (base:Heap) (k:Nat) (C:Addr) (ps:List Str) (sp:Sp):Prop where
 ex:∃ (f:Addr) (fd:FuncData),FnOk P w K mg base CX0 k f fd ps sp∧Mk K C f∧Binds K fd ps []
section
variable {P:Program} {w:World} {K:PySem.W.Frag} {mg:Str→Option Value} {base:Heap} {j k:Nat} {x m:Str} {ps:List Str} {sp sp':Sp} {C:Addr}
theorem Can.mono (c:Can P w K mg base j x ps sp) (h:j≤k):Can P w K mg base k x ps sp:=let ⟨f,fd,F,r⟩:=c.ex; ⟨f,fd,F.mono h,r⟩
end
section
variable {X:Cx} {k:Nat} {x m:Str} {ps:List Str} {sp:Sp} {C:Addr} {p pos apos:Pos} {e o:Expr} {es:List Expr} {ta:TE} {t:TA}
theorem pe_callC (c:Can X.prog X.w X.K X.mg X.base k x ps sp) (hr:Room k X.A) (hg:Gl X x) (ha:PA X (e :: es) t) (hdb:(x == ("__debug__" : Str))=false:=by decide)
  (he:starEach (e :: es) X.env=(false,eval e X.env) :: starEach es X.env:=by rfl) (hpl:(backTo pos (starEach es X.env)).any (·.1)=false:=by rfl) :
  PE X (.Call (.Name x p) (e :: es) [] pos) (tCall sp [] E0 t):=by
 obtain ⟨f,fd,F,hm,hk,hb⟩:=c.ex
 exact pe_call F hr hg hm hk hb .nil pass0 ha hdb he hpl
theorem pe_methC0 {pl:Sem Bool} (ho:PE X o ta) (c:Cls X.K C) (h:CanM X.prog X.w X.K X.mg X.base k C m ps sp) (hr:Room k X.A)
  (ht:eval (.Call (.Attribute o m apos) [] [] pos) X.env=(do
   let ov ← eval o X.env
   standAt apos.atName
   let (f,first) ← holding [ov] (getMethod ov m pl)
   callWith pos f first (backTo pos (starEach [] X.env)) (backToKw pos (keywordEach [] X.env))):=by rfl) :
  PE X (.Call (.Attribute o m apos) [] [] pos) (tMeth C m sp [] E0 ta tNil):=by
 obtain ⟨f,fd,F,hm,hb⟩:=h.ex
 exact pe_meth0 ho c hm F hr hb .nil pass0 ht
end
def GlobIs (mg:Str→Option Value) (x:Str) (v:V):Prop:=∃ u,mg x=some u∧RelV v u
theorem pe_globC {X:Cx} {x:Str} {v:V} {pos:Pos} (h:GlobIs X.mg x v) (hg:Gl X x) (hd:(x == ("__debug__" : Str))=false:=by decide):PE X (.Name x pos) (tC v):=by
 obtain ⟨u,hm,r⟩:=h
 exact pe_glob hg hm r hd
theorem pe_ty {X:Cx} {x:Str} {T:String} {pos:Pos} (hm:X.mg x=none) (hg:Gl X x) (hv:bootBuiltins x=some (.type T)) (hn:x ≠ "__name__" := by decide) (hd:(x == ("__debug__" : Str))=false:=by decide):PE X (.Name x pos) (tC (.ty T)) :=
 pe_bltn hg hm hv (show RelV (.ty T) (.type T) from rfl) hn hd
end L2
namespace L2
open PySem
theorem b_all:bootBuiltins "all" = some (.builtin "all"):=by decide +kernel
theorem b_isi:bootBuiltins "isinstance" = some (.builtin "isinstance"):=by decide +kernel
theorem b_len:bootBuiltins "len" = some (.builtin "len"):=by decide +kernel
theorem b_abs:bootBuiltins "abs" = some (.builtin "abs"):=by decide +kernel
theorem b_str:bootBuiltins "str" = some (.type "str"):=by decide +kernel
theorem b_int:bootBuiltins "int" = some (.type "int"):=by decide +kernel
theorem b_list:bootBuiltins "list" = some (.type "list"):=by decide +kernel
theorem b_tuple:bootBuiltins "tuple" = some (.type "tuple"):=by decide +kernel
theorem Same.upd {H H':Hp} {p:Addr} {o:HO} (e:Same H H') (h:H' p=none):Same H (L2.upd H' p o):=fun b ob z=>by
 rw [upd_ne (ne_of_none (e b ob z) h)]
 exact e b ob z
theorem Same.new {H:Hp} {p:Addr} {o:HO} (h:H p=none):Same H (L2.upd H p o):=(Same.refl H).upd h
end L2
namespace L2
open PySem
theorem slice_same (x:Str) (l u:Option Int):Txt.slice x l u=StrLaws.sliceText x l u:=rfl
theorem idx_clip (a b n:Nat) (h:n≤b):Builtin.Str.strSliceIndices (some (a:Int)) (some (b:Int)) 1 n=Builtin.Str.strSliceIndices (some (a:Int)) (some (n:Int)) 1 n:=by
 unfold Builtin.Str.strSliceIndices
 have e1:¬ ((b:Int) < 0):=by omega
 have e2:¬ ((n:Int) < 0):=by omega
 have e3:min (b:Int) (n:Int)=n:=by omega
 simp [e1,e2,e3]
theorem slice_list (z:Str) {a b:Nat} (ha:a≤z.length) (hab:a≤b):(Txt.slice z (some (a:Int)) (some (b:Int))).cps.toList=(z.cps.toList.drop a).take (b - a):=by
 rw [slice_same]
 by_cases hb:b≤z.length
 ·rw [StrLaws.sliceText_nat z hab hb]
 ·have hb':z.length≤b:=by omega
  have e:StrLaws.sliceText z (some (a:Int)) (some (b:Int))=StrLaws.sliceText z (some (a:Int)) (some (z.length:Int)):=by
   unfold StrLaws.sliceText
   rw [idx_clip a b z.length hb']
  rw [e,StrLaws.sliceText_nat z ha (Nat.le_refl _)]
  show (z.cps.toList.drop a).take (z.length - a)=_
  have hl:(z.cps.toList.drop a).length=z.length - a:=by rw [List.length_drop]; rfl
  rw [List.take_of_length_le (by omega),List.take_of_length_le (by omega)]
theorem slice_to (z:Str) (b:Nat):(Txt.slice z none (some (b:Int))).cps.toList=z.cps.toList.take b:=by
 have e:Txt.slice z none (some (b:Int))=Txt.slice z (some ((0:Nat):Int)) (some (b:Int)):=by
  rw [slice_same,slice_same]
  unfold StrLaws.sliceText
  rw [StrLaws.sliceIdx_none_lo]
  rfl
 rw [e,slice_list z (Nat.zero_le _) (Nat.zero_le _)]
 simp
theorem slice_from (z:Str) {a:Nat} (ha:a≤z.length):(Txt.slice z (some (a:Int)) none).cps.toList=z.cps.toList.drop a:=by
 have e:Txt.slice z (some (a:Int)) none=Txt.slice z (some (a:Int)) (some ((z.length:Nat):Int)):=by
  rw [slice_same,slice_same]
  unfold StrLaws.sliceText
  rw [StrLaws.sliceIdx_none_hi]
 rw [e,slice_list z ha ha]
 have hl:(z.cps.toList.drop a).length=z.length - a:=by rw [List.length_drop]; rfl
 rw [List.take_of_length_le (by omega)]
end L2
namespace L2
open PySem
def tCut (R:St→Hp→Prop) (t u:TS):TS:=fun D σ H=>t { D with nx:=R } σ H∧∀ σ' H',R σ' H'→u D σ' H'
theorem pss_cut {X:Cx} {st:Stmt} {rest:List Stmt} {t u:TS} (R:St→Hp→Prop) (h1:PS X st t) (h2:PSs X rest u):PSs X (st :: rest) (tCut R t u):=by
 intro pins s σ H D I h
 refine wpAny_execs_cons (thn (h1 pins s σ H { D with nx:=R } I h.1) fun f s1 q=>?_)
 cases f with
 | next =>
  obtain ⟨σ',H',I',q⟩:=q
  exact h2 pins s1 σ' H' D I' (h.2 σ' H' q)
 | ret v=>exact q
 | brk=>exact q
 | cont=>exact q
end L2
namespace L2
open PySem
end L2
namespace L2
open PySem
section
variable {X:Cx}
theorem ix_tupK (K:PySem.W.Frag) (hK:X.K=K):IxR X (rIxT K):=by
 subst hK
 exact ix_tup
theorem op_notInK (K:PySem.W.Frag) (hK:X.K=K):OpR X (compareOp .NotIn) (rIn K true):=by
 subst hK
 exact op_notIn_seq
end
end L2
namespace L2
theorem iteFb {b:Bool} {A B:Prop} (h:b=false) (hB:B):if b=true then A else B:=by rw [h]; exact iteF hB
theorem iteTb {b:Bool} {A B:Prop} (h:b=true) (hA:A):if b=true then A else B:=by rw [h]; exact iteT hA
end L2
namespace L2
open PySem
def tCutE (t u:TS):TS:=fun D σ H=>∃ R:St→Hp→Prop,t { D with nx:=R } σ H∧∀ σ' H',R σ' H'→u D σ' H'
theorem pss_cutE {X:Cx} {st:Stmt} {rest:List Stmt} {t u:TS} (h1:PS X st t) (h2:PSs X rest u):PSs X (st :: rest) (tCutE t u):=by
 intro pins s σ H D I h
 obtain ⟨R,ha,hb⟩:=h
 exact pss_cut R h1 h2 pins s σ H D I ⟨ha,hb⟩
end L2
namespace L2
open PySem
end L2
namespace L2
open PySem PySem.Spec PyProof.Rows
theorem ObjOk.there {P:Program} {w:World} {H:Hp} {h:Heap} {a:Addr} {o:HO} (x:ObjOk P w H h a o):∃ u,h.get? a=some u:=by
 cases o with
 | lst xs=>obtain ⟨_,_,_,_,e⟩:=x; exact ⟨_,e⟩
 | tup xs=>obtain ⟨_,_,_,ob,e,_⟩:=x; exact ⟨_,e⟩
 | dK kvs=>obtain ⟨_,_,_,_,o,_,_,e,_⟩:=x; exact ⟨_,e⟩
 | dT kvs=>obtain ⟨_,_,_,_,o,_,_,e,_⟩:=x; exact ⟨_,e⟩
 | set S n=>obtain ⟨o,_,_,_,e,_⟩:=x; exact ⟨_,e⟩
 | ins C dx fs=>obtain ⟨_,_,_,e,_⟩:=x; exact ⟨_,e⟩
 | own y=>exact x
 | xd fs=>obtain ⟨_,⟨_,_,_,e,_⟩,_⟩:=x; exact ⟨_,e⟩
 | rng lo hi=>obtain ⟨_,_,_,e⟩:=x; exact ⟨_,e⟩
 | frz ob u=>obtain ⟨e,_⟩:=x; exact ⟨_,e⟩
 | tbl ps=>exact ⟨_,(show h.get? a=some _ from x)⟩
 | met f y=>exact ⟨_,(show h.get? a=some _ from x)⟩
 | ext φ=>obtain ⟨_,e,_⟩:=x; exact e
structure Fly (l:List Env) (H':Hp) (h₀ h':Heap) (a:Addr) (cls:Value):Prop where
 ex:∃ (B:Heap) (a0:Value),Heap.FlyingW B l a cls a0 h'∧(∀ b o,H' b=some o→∃ u,B.get? b=some u)∧∀ b u,h₀.get? b=some u→b ∉ frs l→∃ u',B.get? b=some u'
def CXF (P:Program) (w:World):CXT:=fun outer H s E e s'=>∃ (a:Addr) (cls:Value) (H':Hp),e=.ref a∧s'.os=s.os∧AllBare s'.gens∧Un (frs outer) [] H H' s.heap s'.heap∧HOk P w H' s'.heap ∧
 Fly outer H' s.heap s'.heap a cls∧E cls none H'
section
variable {P:Program} {w:World} {l:List Env} {H H':Hp} {h0 h1 h2 B:Heap}
theorem fly_un (un:Un (frs l) [] H H' h0 h1) (hok:HOk P w H' h1) (b1:B.StaysIn h1) (b2:B.StaysIn h2) (ff:h1.FunFrames B l) (k1:∀ b o,H' b=some o→∃ u,B.get? b=some u)
  (k2:∀ b u,h0.get? b=some u→b ∉ frs l→∃ u',B.get? b=some u') (up:h1.UpToSlots h2):Un (frs l) [] H H' h0 h2∧HOk P w H' h2:=by
 have inB:∀ b u,h1.get? b=some u→(∃ u',B.get? b=some u')→h2.get? b=some u:=fun b u e ⟨u',e'⟩=>by
  have:=b1 b u' e'
  rw [e] at this
  rw [Option.some.inj this]
  exact b2 b u' e'
 have fr:∀ b u,b ∈ frs l→h1.get? b=some u→∃ sl,h2.get? b=some { u with slots:=sl }:=fun b u hb e=>by
  obtain ⟨_,o',ho',hd⟩:=ff.mem hb
  rw [e] at ho'
  cases ho'
  exact up b u e hd
 have nx:∀ b:Addr,b ∉ ([]:List Addr):=fun b z=>nomatch z
 refine ⟨⟨fun b o e n hb hx=>inB b o (un.keep b o e n hb hx) (k2 b o e hb),fun b o e n hb hx=>?_,un.free,fun b o e hx=>?_,un.tups,un.frzs,un.tbls⟩,fun b o e=>?_⟩
 ·obtain ⟨sl,e1⟩:=un.slot b o e n hb hx
  obtain ⟨sl',e2⟩:=fr b _ hb e1
  exact ⟨sl',e2⟩
 ·obtain ⟨o',e1⟩:=un.there b o e hx
  by_cases hb:b ∈ frs l
  ·obtain ⟨sl,e2⟩:=fr b o' hb e1
   exact ⟨_,e2⟩
  ·exact ⟨o',inB b o' e1 (k2 b o e hb)⟩
 ·refine (hok b o e).stay (fun c u hc q=>inB c u q ?_) (fun _ q=>q) fun _ _ q=>q
  rcases hc with z | z
  ·rw [z]; exact k1 b o e
  ·exact k1 c _ z
end
section
variable {X:Cx} {pins:List (Addr × Obj)} {σ:St} {H:Hp} {s s':Shared} {E:XK} {M:Model} {E2:Value→Shared→Prop}
theorem fly_out {a:Addr} {cls a0:Value} {B:Heap} (hex:X.ex=[]) (f:Heap.FlyingW B X.outer a cls a0 s.heap) (k1:∀ b o,H b=some o→∃ u,B.get? b=some u)
  (k2:∀ b u,X.s₀.heap.get? b=some u→b ∉ frs X.stack→∃ u',B.get? b=some u') (J:Inv X pins σ H s) (hE:E cls none H):CXF X.prog X.w X.outer X.H₀ X.s₀ E (.ref a) s:=by
 have un:Un (frs X.outer) [] X.H₀ H X.s₀.heap s.heap:=by
  have:=J.base
  rw [hex] at this
  exact this
 refine ⟨a,cls,H,rfl,J.os,J.bare,un,J.hok,⟨B,a0,f,k1,fun b u e hb=>k2 b u e fun hm=>?_⟩,hE⟩
 rcases List.mem_cons.mp (J.stkSub b hm) with z | z
 ·exact absurd (Nat.lt_of_lt_of_le (Heap.lt_size e) J.ok.above) (by rw [z]; exact Nat.lt_irrefl _)
 ·exact hb z
theorem leave_made {h1:Heap} {a:Addr} {cls:Value} {vs:List Value} (I:Inv X pins σ H s) (hs:X.stack=X.env :: X.outer) (hf:X.env.frame=some X.env.locals) (hex:X.ex=[]) (hx:Heap.MadeExcOf s.heap h1 a cls vs) (hE:E cls none H) :
  wpAny M X.A (leaving X.env (.ref a)) (fun _ s''=>CXF X.prog X.w X.outer X.H₀ X.s₀ E (.ref a) s'') E2 { s with heap:=h1 }:=by
 have st:=I.stack
 have hin:∀ env ∈ X.stack,∀ b,env.frame=some b→b ∈ frs X.stack:=fun env he b hb=>List.mem_filterMap.mpr ⟨env,he,hb⟩
 have ff:s.heap.FunFrames (PySem.W.hideAll s.heap (frs X.stack)) X.stack:=PySem.W.funFrames_hide st hin
 have k1:∀ b o,H b=some o→∃ u,(PySem.W.hideAll s.heap (frs X.stack)).get? b=some u:=fun b o e=>by
  obtain ⟨u,hu⟩:=(I.hok b o e).there
  exact ⟨u,PySem.W.hideAll_get _ hu fun z=>by rw [I.stkFree b z] at e; cases e⟩
 have k0:∀ b u,s.heap.get? b=some u→b ∉ frs X.stack→∃ u',(PySem.W.hideAll s.heap (frs X.stack)).get? b=some u':=fun b u e hb=>⟨u,PySem.W.hideAll_get _ e hb⟩
 have b1:(PySem.W.hideAll s.heap (frs X.stack)).StaysIn s.heap:=fun b o q=>PySem.W.of_hideAll _ q
 refine wpAny_leaves_madeW (base:=PySem.W.hideAll s.heap (frs X.stack)) (h:=s.heap) (L:=X.env.locals) (outer:=X.outer) (by rw [← hs]; exact I.ok.frames) hf b1 (by rw [← hs]; exact ff) hx fun h' t x1 x2 x3 x4=>?_
 obtain ⟨un,ok⟩:=fly_un (l:=X.stack) (H:=H) (h0:=s.heap) Un.refl I.hok b1 x1.1 ff k1 k0 ((Heap.UpToSlots.of_keeps hx.keeps).trans x4)
 have J:Inv X pins σ H { s with heap:=h' }:=I.call' (s':={ s with heap:=h' }) (ch:=[]) rfl un ok I.bare fun _ z=>nomatch z
 refine fly_out hex x1 k1 (fun b u e hb=>?_) J hE
 obtain ⟨u',e'⟩:=I.base.there b u e (by rw [hex]; simp)
 exact k0 b u' e' hb
theorem leave_on {e:Value} (I:Inv X pins σ H s) (hs:X.stack=X.env :: X.outer) (hf:X.env.frame=some X.env.locals) (hex:X.ex=[]) (q:CXF X.prog X.w X.stack H s E e s') :
  wpAny M X.A (leaving X.env e) (fun _ s''=>CXF X.prog X.w X.outer X.H₀ X.s₀ E e s'') E2 s':=by
 obtain ⟨a,cls,H',rfl,os,bare,un,hok,⟨B,a0,f,k1,k2⟩,hE⟩:=q
 refine wpAny_leaves_onW (L:=X.env.locals) (outer:=X.outer) (by rw [← hs]; exact I.ok.frames) hf (by rw [← hs]; exact f) fun h' x1 x2=>?_
 obtain ⟨un2,ok2⟩:=fly_un (h2:=h') un hok f.1 x1.1 f.2.2.1 k1 k2 x2
 have I':Inv X pins σ H' s':=I.call' (ch:=[]) os un hok bare fun _ z=>nomatch z
 have J:Inv X pins σ H' { s' with heap:=h' }:=I.call' (s':={ s' with heap:=h' }) (ch:=[]) os un2 ok2 bare fun _ z=>nomatch z
 refine fly_out hex x1 k1 (fun b u e hb=>?_) J hE
 obtain ⟨u',e'⟩:=I.base.there b u e (by rw [hex]; simp)
 exact k2 b u' e' hb
end
structure Wants (X:Cx) (E:XK):Prop where
 on:Passes (CXF X.prog X.w) X E
 made:∀ (pins:List (Addr × Obj)) (σ:St) (H:Hp) (s:Shared) (h1:Heap) (a:Addr) (cls:Value) (vs:List Value),Inv X pins σ H s→Heap.MadeExcOf s.heap h1 a cls vs→E cls none H→X.xe (.ref a) { s with heap:=h1 }
 own:PassesOwn (model X.prog X.w) X.A X.env X.xe
section
variable {P:Program} {w:World} {K:PySem.W.Frag} {mg:Str→Option Value} {base:Heap}
theorem wants_def {N:List Str} {qual:Str} {scope:Scope} {f:Addr} {cd:Value} {A:Around} {outer:List Env} {s:Shared} {H:Hp} {E:XK}:Wants (cxOf (CXF P w) P w K mg base N qual scope f cd A outer s H E) E where
 on:=fun pins σ H' s' e s'' I q=>leave_on I rfl rfl rfl q
 made:=fun pins σ H' s' h1 a cls vs I hx hE=>leave_made I rfl rfl rfl hx hE
 own:=PassesOwn.leaving
theorem Fun.okX {x qual:Str} {st:Stmt} {f:Addr} {fd:FuncData} {N ps:List Str} {k:Nat} {sp:Sp} (F:Fun K x qual st f fd) (S:FnScope N ps (defScope st)) (len:∀ vs H Q E,sp vs H Q E→vs.length=ps.length)
  (hbody:∀ (cdv:Value) (A:Around) (outer:List Env) (s:Shared) (H:Hp) (vs:List V) (Q:VK) (E:XK),Room k (A.deeper (envOfC qual (defScope st) s.heap.objs.size f cdv))→Wants (cxOf (CXF P w) P w K mg base N qual (defScope st) f cdv A outer s H E) E→sp vs H Q E →
   ∃ t,PSs (cxOf (CXF P w) P w K mg base N qual (defScope st) f cdv A outer s H E) (defBody st) t∧t { nx:=fun _ H'=>Q .non H',rt:=Q } (start N vs) H):FnOk P w K mg base (CXF P w) (k + 1) f fd ps sp:=by
 obtain ⟨oc,od,kV,doc,pm,an,cdv,ct,osl,rfl,lk,hcd⟩:=F.ex
 exact fn_of lk hcd S len fun A outer s H vs Q E hr hsp=>hbody cdv A outer s H vs Q E hr wants_def hsp
end
structure CanX (P:Program) (w:World) (K:PySem.W.Frag) (mg:Str→Option Value) (base:Heap) (k:Nat) (x:Str) (ps:List Str) (sp:Sp):Prop where
 ex:∃ (f:Addr) (fd:FuncData),FnOk P w K mg base (CXF P w) k f fd ps sp∧mg x=some (.ref f)∧PySem.W.keepIn K (.ref f)=true∧Binds K fd ps []
structure CanMX (P:Program) (w:World) (K:PySem.W.Frag) (mg:Str→Option Value) (base:Heap) (k:Nat) (C:Addr) (m:Str) (ps:List Str) (sp:Sp):Prop where
 ex:∃ (f:Addr) (fd:FuncData),FnOk P w K mg base (CXF P w) k f fd ps sp∧Meth K C m f∧Binds K fd ps []
section
variable {P:Program} {w:World} {K:PySem.W.Frag} {mg:Str→Option Value} {base:Heap} {j k:Nat} {x m:Str} {ps:List Str} {sp sp':Sp} {C:Addr}
theorem CanX.mono (c:CanX P w K mg base j x ps sp) (h:j≤k):CanX P w K mg base k x ps sp:=let ⟨f,fd,F,r⟩:=c.ex; ⟨f,fd,F.mono h,r⟩
end
section
variable {X:Cx} {k:Nat} {x m:Str} {ps:List Str} {sp:Sp} {C:Addr} {p pos apos:Pos} {e o:Expr} {es:List Expr} {ta:TE} {t:TA} {E:XK}
theorem pe_callX (c:CanX X.prog X.w X.K X.mg X.base k x ps sp) (W:Wants X E) (hr:Room k X.A) (hg:Gl X x) (ha:PA X (e :: es) t) (hdb:(x == ("__debug__" : Str))=false:=by decide)
  (he:starEach (e :: es) X.env=(false,eval e X.env) :: starEach es X.env:=by rfl) (hpl:(backTo pos (starEach es X.env)).any (·.1)=false:=by rfl) :
  PE X (.Call (.Name x p) (e :: es) [] pos) (tCall sp [] E t):=by
 obtain ⟨f,fd,F,hm,hk,hb⟩:=c.ex
 exact pe_call F hr hg hm hk hb .nil W.on ha hdb he hpl
theorem pe_methX {pl:Sem Bool} (ho:PE X o ta) (c:Cls X.K C) (h:CanMX X.prog X.w X.K X.mg X.base k C m ps sp) (W:Wants X E) (hr:Room k X.A) (ha:PA X (e :: es) t)
  (hst:starEach (e :: es) X.env=(false,eval e X.env) :: starEach es X.env:=by rfl) (hpl:(backTo pos (starEach es X.env)).any (·.1)=false:=by rfl)
  (ht:eval (.Call (.Attribute o m apos) (e :: es) [] pos) X.env=(do
   let ov ← eval o X.env
   standAt apos.atName
   let (f,first) ← holding [ov] (getMethod ov m pl)
   callWith pos f first (backTo pos (starEach (e :: es) X.env)) (backToKw pos (keywordEach [] X.env))):=by rfl) :
  PE X (.Call (.Attribute o m apos) (e :: es) [] pos) (tMeth C m sp [] E ta t):=by
 obtain ⟨f,fd,F,hm,hb⟩:=h.ex
 exact pe_meth ho c hm F hr hb .nil W.on ha hst hpl ht
end
section
variable {X:Cx}
def PJ (X:Cx) (es:List Expr) (t:St→Hp→(Str→Hp→Prop)→Prop):Prop :=
 ∀ (out:Str) (pins:List (Addr × Obj)) (s:Shared) (σ:St) (H:Hp) (Q:VK),out.length + 100000 * es.length≤sizeLine→Inv X pins σ H s→t σ H (fun y H1=>Q (.str (out++y)) H1) →
  wpAny (model X.prog X.w) X.A (joinParts out (evalEach es X.env)) (EP X pins σ Q) X.xe s
def tJNil:St→Hp→(Str→Hp→Prop)→Prop:=fun _ H R=>R Str.empty H
def tJCons (te:TE) (t:St→Hp→(Str→Hp→Prop)→Prop):St→Hp→(Str→Hp→Prop)→Prop:=fun σ H R=>te σ H fun v H1=>∃ y,v=.str y∧y.length≤100000∧t σ H1 fun z H2=>R (y++z) H2
theorem str_ext {x y:Str} (h:x.cps.toList=y.cps.toList):x=y:=by
 obtain ⟨a⟩:=x
 obtain ⟨b⟩:=y
 exact congrArg Str.mk (Array.toList_inj.mp h)
theorem cps_app (x y:Str):(x++y).cps.toList=x.cps.toList++y.cps.toList:=Array.toList_append
theorem str_app_assoc (x y z:Str):x++y++z=x++(y++z):=str_ext (by rw [cps_app,cps_app,cps_app,cps_app,List.append_assoc])
theorem str_app_nil (x:Str):x++Str.empty=x:=str_ext (by rw [cps_app]; exact List.append_nil _)
theorem str_nil_app (x:Str):Str.empty++x=x:=str_ext (by rw [cps_app]; exact List.nil_append _)
theorem str_len_app (x y:Str):(x++y).length=x.length + y.length:=Array.size_append
theorem pj_nil:PJ X [] tJNil:=fun out pins s σ H Q hz I h=>by
 have h':Q (.str out) H:=by have z:Q (.str (out++Str.empty)) H:=h; rw [str_app_nil] at z; exact z
 exact joinParts_nil ⟨.str out,H,I.tok _,⟨_,rfl⟩,h'⟩ (by simp only [List.length_nil] at hz; omega)
theorem pj_cons {e:Expr} {es:List Expr} {te:TE} {t:St→Hp→(Str→Hp→Prop)→Prop} (he:PE X e te) (hr:PJ X es t):PJ X (e :: es) (tJCons te t):=fun out pins s σ H Q hz I h=>by
 have ee:evalEach (e :: es) X.env=eval e X.env :: evalEach es X.env:=rfl
 rw [ee]
 refine joinParts_cons (thn (he pins s σ H _ I h) fun v s1 ⟨x,H1,I1,r1,y,ey,hy,q⟩=>?_)
 subst ey
 obtain ⟨t0,rfl⟩:=r1
 rw [List.length_cons] at hz
 have hl:=str_len_app out y
 refine ⟨by omega,hr (out++y) pins s1 σ H1 Q (by omega) I1 ?_⟩
 simp only [str_app_assoc]
 exact q
def tJ (t:St→Hp→(Str→Hp→Prop)→Prop):TE:=fun σ H Q=>t σ H fun y H1=>Q (.str y) H1
theorem pe_join {e1 e2:Expr} {es:List Expr} {t:St→Hp→(Str→Hp→Prop)→Prop} {pos:Pos} (h:PJ X (e1 :: e2 :: es) t) (hn:es.length≤100):PE X (.JoinedStr (e1 :: e2 :: es) pos) (tJ t):=fun pins s σ H Q I q=>by
 refine JoinedStr_many (h Str.empty pins s σ H Q ?_ I ?_)
 ·show 0 + 100000 * (es.length + 1 + 1)≤2 ^ 24
  omega
 ·simp only [str_nil_app]
  exact q
def tFmt (tv:TE):TE:=fun σ H Q=>tv σ H fun v H1=>(∃ y,v=.str y∧y.length≤sizeLine∧Q (.str y) H1) ∨ ∃ i:Int,v=.int i∧i.natAbs.log2 < 1920∧Q (.str (toString i:String)) H1
theorem pe_fmt {e:Expr} {tv:TE} {pos:Pos} (he:PE X e tv):PE X (.FormattedValue e (-1) none pos) (tFmt tv):=fun pins s σ H Q I h=>by
 refine FormattedValue_plain (thn (he pins s σ H _ I h) fun v s1 ⟨x,H1,I1,r1,q⟩=>?_)
 rcases q with ⟨y,rfl,hy,q⟩ | ⟨i,rfl,hi,q⟩
 ·obtain ⟨t0,rfl⟩:=r1
  exact formatField_str (fun t' tk=>⟨.str y,H1,I1.tok tk,⟨_,rfl⟩,q⟩) hy
 ·obtain ⟨t0,rfl⟩:=r1
  exact formatField_int_small hi ⟨.str _,H1,I1.tok _,⟨_,rfl⟩,q⟩
def tRep (tv:TE):TE:=fun σ H Q=>tv σ H fun v H1=>(∃ y,v=.str y∧(reprText y).length≤sizeLine∧Q (.str (reprText y)) H1) ∨ ∃ i:Int,v=.int i∧i.natAbs.log2 < 1920∧(Str.ofString (toString i)).length≤sizeLine∧Q (.str (toString i:String)) H1
theorem pe_rep {e:Expr} {tv:TE} {pos:Pos} (he:PE X e tv):PE X (.FormattedValue e 114 none pos) (tRep tv):=fun pins s σ H Q I h=>by
 refine wpAny_FormattedValue_repr (thn (he pins s σ H _ I h) fun v s1 ⟨x,H1,I1,r1,q⟩=>?_)
 rcases q with ⟨y,rfl,hy,q⟩ | ⟨i,rfl,hi,hz,q⟩
 ·obtain ⟨t0,rfl⟩:=r1
  refine pyReprObj_str ?_ hy
  exact formatField_str (s:={ s1 with toks:=s1.toks + 1 }) (fun t' tk=>⟨.str _,H1,I1.tok tk,⟨_,rfl⟩,q⟩) hy
 ·obtain ⟨t0,rfl⟩:=r1
  refine pyReprObj_int hi ?_
  exact formatField_str (s:={ s1 with toks:=s1.toks + 1 }) (fun t' tk=>⟨.str _,H1,I1.tok tk,⟨_,rfl⟩,q⟩) hz
end
end L2
namespace L2
open PySem
theorem passX0 {X:Cx}:Passes (CXF X.prog X.w) X E0:=fun _ _ _ _ _ _ _ ⟨_,_,_,_,_,_,_,_,_,hE⟩=>hE.elim
section
variable {X:Cx} {k:Nat} {x m:Str} {ps:List Str} {sp:Sp} {C:Addr} {p pos apos:Pos} {e o:Expr} {es:List Expr} {ta:TE} {t:TA}
theorem pe_callX0 (c:CanX X.prog X.w X.K X.mg X.base k x ps sp) (hr:Room k X.A) (hg:Gl X x) (ha:PA X (e :: es) t) (hdb:(x == ("__debug__" : Str))=false:=by decide)
  (he:starEach (e :: es) X.env=(false,eval e X.env) :: starEach es X.env:=by rfl) (hpl:(backTo pos (starEach es X.env)).any (·.1)=false:=by rfl) :
  PE X (.Call (.Name x p) (e :: es) [] pos) (tCall sp [] E0 t):=by
 obtain ⟨f,fd,F,hm,hk,hb⟩:=c.ex
 exact pe_call F hr hg hm hk hb .nil passX0 ha hdb he hpl
end
end L2
namespace L2
open PySem PySem.Spec PyProof.Rows
theorem own_obj {K:PySem.W.Frag} {h:Heap} {C:Addr} {bmB:List Value} {newId:String} (X:K.In h) (q:PySem.W.excIn K C bmB newId=true) :
  ∃ bm N nm qn bs hdct sn sub ab col dd k0 k1 k2 k3 k5 mN,h.get? C=some (excClassObj nm qn C N bs bm hdct sn sub ab col dd k0 k1 k2 k3 k5 newId)∧h.Ns N mN∧mN "__init__" = none∧OwnTail h bmB bm:=by
 unfold PySem.W.excIn at q
 split at q
 case h_2=>cases q
 case h_1 dd cd sl ho =>
  split at q
  case h_2=>cases q
  case h_1 C1 bm k0 k1 k2 k3 n k5 hm hs =>
   simp only [beq_iff_eq,Bool.not_eq_true',Bool.and_eq_true] at q
   obtain ⟨⟨⟨⟨⟨z1,z2⟩,z3⟩,z4⟩,z5⟩,z6⟩:=q
   subst z1 z2
   obtain ⟨nm,bs,mro,ns,qn,hd,sn,sub,ab,col,del⟩:=cd
   dsimp only at hm z3 z5 z6
   subst hm z3
   have es:sl=#[k0,k1,k2,k3,some (.builtin n),k5]:=by
    cases sl with
    | mk l =>
     have:l=[k0,k1,k2,k3,some (.builtin n),k5]:=hs
     rw [this]
   subst es
   exact ⟨bm,ns,nm,qn,bs,hd,sn,sub,ab,col,dd,k0,k1,k2,k3,k5,_,X _ _ ho,.of_isNs (PySem.W.isNs_of_in X z5),PySem.W.nsMap_none_of_in X z5 z6,PySem.W.tail_of_in X z4⟩
def tRaise (C:Addr) (E:XK) (t:TA):TS:=fun _ σ H=>t σ H fun vs H1=>vs.length≤sizeLine∧E (.ref C) none H1
theorem ps_raise {X:Cx} {E:XK} {x:Str} {C:Addr} {bmB:List Value} {B newId initId:String} {e₀:Expr} {rest:List Expr} {np cpos pos:Pos} {t:TA} (W:Wants X E) (hc:X.calm=true) (hg:Gl X x) (hm:X.mg x=some (.ref C))
  (q:PySem.W.excIn X.K C bmB newId=true) (FB:ExcBaseFacts B newId initId bmB) (ha:PA X (e₀ :: rest) t) (hdb:(x == ("__debug__" : Str))=false:=by decide)
  (he:starEach (e₀ :: rest) X.env=(false,eval e₀ X.env) :: starEach rest X.env:=by rfl) (hpl:(backTo cpos (starEach rest X.env)).any (·.1)=false:=by rfl) :
  PS X (.Raise (some (.Call (.Name x np) (e₀ :: rest) [] cpos)) none pos) (tRaise C E t):=by
 intro pins s σ H D I h
 obtain ⟨bm,N,nm,qn,bs,hdct,sn,sub,ab,col,dd,k0,k1,k2,k3,k5,mN,hC,hN,hni,T⟩:=own_obj I.mod.kin q
 have hany:(backTo cpos (starEach (e₀ :: rest) X.env)).any (·.1)=false:=by
  rw [he]
  exact hpl
 have hargs:=ha cpos pins s σ H _ I h
 refine wpAny_Raise_call_subT (C:=C) (nm:=nm) (q:=qn) (N:=N) (bs:=bs) (bm:=bm) (hdct:=hdct) (sn:=sn) (sub:=sub) (ab:=ab) (col:=col) (dd:=dd) (k0:=k0) (k1:=k1) (k2:=k2) (k3:=k3) (k5:=k5) FB (mN:=mN) (T.hasType FB.hasBase) (I.ok.hd hc) hany hni
  (ld_glob I hg hm ⟨rfl,?_⟩ hdb)
 rw [he] at hargs ⊢
 exact Calls.evalArgs_plain (thn hargs fun us s2 ⟨vs,H1,I1,r,hz,hE⟩=>⟨rfl,by show us.length≤sizeLine; rw [← r.length]; exact hz,I1.bk _ _ hC,hN.keeps I1.bk,T.keeps I1.bk,fun h' a hx=>W.made pins σ H1 s2 h' a _ _ I1 hx hE⟩)
def XA (X:Cx) (pins:List (Addr × Obj)) (σ:St) (E:XK) (ex:Value) (s':Shared):Prop:=∃ H1 s1,Inv X pins σ H1 s1∧CXF X.prog X.w X.stack H1 s1 E ex s'
def PEX (X:Cx) (e:Expr) (t:XK→TE):Prop :=
 ∀ (pins:List (Addr × Obj)) (s:Shared) (σ:St) (H:Hp) (Q:VK) (E:XK),Inv X pins σ H s→t E σ H Q→wpAny (model X.prog X.w) X.A (eval e X.env) (EP X pins σ Q) (XA X pins σ E) s
def PSX (X:Cx) (st:Stmt) (t:XK→TS):Prop :=
 ∀ (pins:List (Addr × Obj)) (s:Shared) (σ:St) (H:Hp) (D:Ends) (E:XK),Inv X pins σ H s→t E D σ H→wpAny (model X.prog X.w) X.A (exec st X.env) (SP X pins D) (XA X pins σ E) s
section
variable {X:Cx} {k:Nat} {x:Str} {ps:List Str} {sp:Sp} {p pos:Pos} {e:Expr} {es:List Expr} {t:TA}
theorem pex_call (c:CanX X.prog X.w X.K X.mg X.base k x ps sp) (hr:Room k X.A) (hg:Gl X x) (ha:PA X.nox (e :: es) t) (hdb:(x == ("__debug__" : Str))=false:=by decide)
  (he:starEach (e :: es) X.env=(false,eval e X.env) :: starEach es X.env:=by rfl) (hpl:(backTo pos (starEach es X.env)).any (·.1)=false:=by rfl) :
  PEX X (.Call (.Name x p) (e :: es) [] pos) (fun E=>tCall sp [] E t):=by
 obtain ⟨f,fd,F,hm,hk,hb⟩:=c.ex
 intro pins s σ H Q E I h
 refine wpAny_Call_Name_kw (ld_glob I hg hm ?_ hdb)
 refine PySem.W.callWith_K (h₀:=X.base) I.ok.mod.kin hk (wpAny_mono (ha pos pins s σ H _ (I.wish _) h) (fun us s1 ⟨vs,H1,I1',r,q⟩=>⟨I1'.unwish.kIn,?_⟩) fun _ _ z=>False.elim z) he hpl
 have I1:=I1'.unwish
 have r2:Vals (vs++[]) (us++[]):=r.append .nil
 have hl:(us++[]).length=ps.length:=by rw [← r2.length]; exact F.len _ _ _ _ q
 refine wpAny_call (codeAny_mono (F.run X.A X.stack s1 H1 ⟨us,[]⟩ (us++[]) (vs++[]) Q E hr I1.env0 (hb s1 us I1.kIn hl) r2 q) fun r s' hq=>?_)
 cases r with
 | error ex=>exact ⟨H1,s1,I1,hq⟩
 | ok fl =>
  cases fl with
  | ret u=>exact I1.after hq
  | next=>exact False.elim hq
  | brk=>exact False.elim hq
  | cont=>exact False.elim hq
theorem psx_expr {te:XK→TE} (he:PEX X e te) (hs:swapsWith e none pos.line X.env=pure false:=by rfl):PSX X (.Expr e pos) (fun E=>tDrop (te E)):=by
 intro pins s σ H D E I h
 exact wpAny_Expr_any (thn (he pins s σ H _ E I h) fun v s1 ⟨x,H1,I1,r1,q1⟩=>⟨σ,H1,I1,q1⟩) I.quiet hs
end
def Cx.mark (X:Cx) (v:Value):Cx:={ X with A:=X.A.mark (some v),calm:=false,xe:=fun _ _=>False }
theorem Cx.Ok.mark {X:Cx} (ok:X.Ok) (v:Value):(X.mark v).Ok :=
 ⟨ok.mod,ok.kind,ok.glob,ok.blt,ok.above,ok.inj,ok.has,ok.cab,(fun h=>nomatch h),ok.frames,ok.stk,ok.exf,ok.bs,ok.bsz,ok.noex,ok.exfs,ok.funs,ok.frf⟩
theorem Cx.Ok.unmark {X:Cx} {v:Value} (ok:(X.mark v).Ok) (hd:X.calm=true→X.A.handled=none):X.Ok :=
 ⟨ok.mod,ok.kind,ok.glob,ok.blt,ok.above,ok.inj,ok.has,ok.cab,hd,ok.frames,ok.stk,ok.exf,ok.bs,ok.bsz,ok.noex,ok.exfs,ok.funs,ok.frf⟩
section
variable {X:Cx} {pins:List (Addr × Obj)} {σ:St} {H:Hp} {s:Shared} {v:Value}
theorem Inv.mark (I:Inv X pins σ H s) (v:Value):Inv (X.mark v) pins σ H s:=⟨I.ok.mark v,I.os,I.bare,I.base,I.loc,I.cell,I.free,I.freeC,I.pin,I.hok,I.len⟩
theorem Inv.unmark (I:Inv (X.mark v) pins σ H s) (hd:X.calm=true→X.A.handled=none):Inv X pins σ H s:=⟨I.ok.unmark hd,I.os,I.bare,I.base,I.loc,I.cell,I.free,I.freeC,I.pin,I.hok,I.len⟩
end
end L2
namespace L2
open PySem PySem.W PySem.Spec PyProof.Rows Builtin Builtin.ObjectAttr Builtin.Getset_descriptor
section
variable {prog:Program} {w:World} {A:Around} {E:Value→Shared→Prop} {s:Shared} {K:Frag} {a D:Addr}
end
end L2
namespace L2
open PySem PySem.Spec PyProof.Rows
theorem frameOf_same {e1 e2:Env} (h:e1.frame=e2.frame):PySem.frameOf e1=PySem.frameOf e2:=by
 unfold PySem.frameOf
 rw [h]
theorem noteFrame_same {x:Value} {e1 e2:Env} (h:e1.frame=e2.frame):noteFrame x e1=noteFrame x e2:=by
 unfold noteFrame
 rw [h,frameOf_same h]
section
variable {M:Model} {A:Around} {E:Value→Shared→Prop} {s:Shared}
theorem setFlightW {base:Heap} {l:List Env} {e:Addr} {cls a0 fl:Value} {fr:Option Addr} {Q:Unit→Shared→Prop}
  (hkb:base.StaysIn s.heap) (hl:s.heap.FunFrames base l) (ht:s.heap.TracedAtW base e cls a0 fl)
  (h:∀ h',base.StaysIn h'→h'.FunFrames base l→h'.TracedAtW base e cls a0 (fr.elim Value.none fun f=>rawInt f)→(∀ b o,s.heap.get? b=some o→(∀ vs,o.data ≠ .fields vs)→h'.get? b=some o)→Q () { s with heap:=h' }) :
  wpAny M A (setFlight (.ref e) fr) Q E s:=by
 obtain ⟨oe,vs,T,oT,ts,he,hcls,hd,h1,hnT,hTe,hT,hdT,h3⟩:=ht
 have hsz3:3 < ts.size:=(Array.getElem?_eq_some_iff.mp h3).1
 have other:∀ b,b ≠ T→(s.heap.update T (Obj.mapFields (·.setIfInBounds 3 (fr.elim Value.none fun f=>rawInt f)))).get? b=s.heap.get? b :=
  fun b hb=>Heap.get?_update_other _ _ (Ne.symm hb)
 have noRecord:∀ b o,s.heap.get? b=some o→(∀ vs,o.data ≠ .fields vs)→b ≠ T:=fun b o hb hnf q=>by
  rw [q,hT] at hb; injection hb with hb; subst hb; exact hnf ts hdT
 unfold setFlight
 refine wpAny_bind (wpAny_field he hd h1 ?_)
 rw [if_pos (show (Value.ref T != Value.none)=true from by simp)]
 refine wpAny_setField hT hdT hsz3 (h _ (fun b o hbo=>(other b fun q=>by rw [q,hnT] at hbo; cases hbo).trans (hkb b o hbo))
  (hl.of_keeps fun b o hb hnf=>⟨o,(other b (noRecord b o hb hnf)).trans hb,rfl⟩) ?_ fun b o hb hnf=>(other b (noRecord b o hb hnf)).trans hb)
 exact ⟨oe,vs,T,_,_,(other e (Ne.symm hTe)).trans he,hcls,hd,h1,hnT,hTe,Heap.get?_update_self _ hT (Obj.isFreed_of_fields (Obj.data_mapFields hdT _)),Obj.data_mapFields hdT _,by simp [hsz3]⟩
theorem passOnW {α:Type} {base:Heap} {l:List Env} {e:Addr} {cls a0 fl:Value} {env:Env} {what:String} {Q:α→Shared→Prop}
  (hkb:base.StaysIn s.heap) (hl:s.heap.FunFrames base l) (ht:s.heap.TracedAtW base e cls a0 fl)
  (h:∀ h' fl',base.StaysIn h'→h'.FunFrames base l→h'.TracedAtW base e cls a0 fl'→(∀ b o,s.heap.get? b=some o→(∀ vs,o.data ≠ .fields vs)→h'.get? b=some o)→E (.ref e) { s with heap:=h' }) :
  wpAny M A (PySem.passOn what (.ref e) env:Sem α) Q E s:=by
 obtain ⟨oe,vs,T,oT,ts,he,hcls,hd,h1,hnT,hTe,hT,hdT,h3⟩:=id ht
 unfold PySem.passOn
 refine wpAny_bind (wpAny_field he hd h1 ?_)
 rw [if_neg (show ¬ (Value.ref T == Value.none)=true from by simp)]
 refine wpAny_bind (setFlightW hkb hl ht fun h' x1 x2 x3 x4=>?_)
 exact wpAny_throw (h h' _ x1 x2 x3 x4)
theorem leavingW {base:Heap} {env:Env} {outer:List Env} {L e:Addr} {cls a0 fl:Value} {Q:Unit→Shared→Prop}
  (hfr:A.frames=some (env :: outer)) (hl:s.heap.FunFrames base (env :: outer)) (hf:env.frame=some L) (ht:s.heap.TracedAtW base e cls a0 fl) (hkb:base.StaysIn s.heap) (hen:base.get? e=none)
  (h:∀ h',Heap.LeftW base (env :: outer) e cls a0 s.heap h'→Q () { s with heap:=h' }):wpAny M A (leaving env (.ref e)) Q E s:=by
 obtain ⟨oe,vs,T,oT,ts,he,⟨hcls,h0⟩,hd,h1,hnT,hTe,hT,hdT,h3⟩:=id ht
 unfold leaving noteFrame
 simp only [hf]
 refine wpAny_bind (wpAny_bind (wpAny_field he hd h1 ?_))
 rw [if_pos (show (Value.ref T != Value.none)=true from by simp)]
 refine wpAny_bind (wpAny_field hT hdT h3 ?_)
 by_cases hfl:(fl == rawInt L)=true
 ·rw [if_pos hfl]
  exact wpAny_pure (wpAny_setFlight_noneW hkb hl ht fun h' x1 x2 x3 x4=>h h' ⟨x1,x2,x3,fun b o hb hnf=>⟨o.slots,x4 b o hb hnf⟩⟩)
 ·rw [if_neg hfl]
  subst hcls
  refine wpAny_bind (wpAny_setField hT hdT (Array.getElem?_eq_some_iff.mp h3).1 ?_)
  have other:∀ b,b ≠ T→(s.heap.update T (Obj.mapFields (·.setIfInBounds 3 Value.none))).get? b=s.heap.get? b:=fun b hb=>Heap.get?_update_other _ _ (Ne.symm hb)
  have noRecord:∀ b o,s.heap.get? b=some o→(∀ vs,o.data ≠ .fields vs)→b ≠ T:=fun b o hb hnf q=>by
   rw [q,hT] at hb; injection hb with hb; subst hb; exact hnf ts hdT
  refine wpAny_newEntryW hfr (hl.of_keeps fun b o hb hnf=>⟨o,(other b (noRecord b o hb hnf)).trans hb,rfl⟩) hf ((other e (Ne.symm hTe)).trans he)
   (fun b o hbo=>(other b fun q=>by rw [q,hnT] at hbo; cases hbo).trans (hkb b o hbo)) hen hd (Array.getElem?_eq_some_iff.mp h1).1 h0
   fun h' ⟨x1,x2,x3,x4⟩=>h h' ⟨x1,x2,x3,fun b o hb hnf=>x4 b o ((other b (noRecord b o hb hnf)).trans hb) hnf⟩
end
theorem ff_but {base h h':Heap} {C:Addr} (sb:Heap.SameBut C h h'):∀ {l:List Env},h.FunFrames base l→C ∉ frs l→h'.FunFrames base l
 | [],_,_=>trivial
 | env :: r,⟨hk,⟨L,o,hf,hn,ho,hd⟩,hr⟩,hC=>by
  have e:frs (env :: r)=L :: frs r:=by
   show List.filterMap (·.frame) (env :: r)=_
   rw [List.filterMap_cons,hf]
   rfl
  rw [e] at hC
  exact ⟨hk,⟨L,o,hf,hn,(sb.2 L fun z=>hC (by rw [z]; exact List.mem_cons_self)).trans ho,hd⟩,ff_but sb hr fun z=>hC (List.mem_cons_of_mem _ z)⟩
theorem fly_unF {P:Program} {w:World} {l:List Env} {H H':Hp} {h0 h1 h2 B:Heap} (un:Un (frs l) [] H H' h0 h1) (hok:HOk P w H' h1) (b1:B.StaysIn h1) (b2:B.StaysIn h2) (ff:h1.FunFrames B l) (k1:∀ b o,H' b=some o→∃ u,B.get? b=some u)
  (k2:∀ b u,h0.get? b=some u→b ∉ frs l→∃ u',B.get? b=some u') (up:∀ b u,b ∈ frs l→h1.get? b=some u→(∀ vs,u.data ≠ .fields vs)→∃ sl,h2.get? b=some { u with slots:=sl }):Un (frs l) [] H H' h0 h2∧HOk P w H' h2:=by
 have inB:∀ b u,h1.get? b=some u→(∃ u',B.get? b=some u')→h2.get? b=some u:=fun b u e ⟨u',e'⟩=>by
  have:=b1 b u' e'
  rw [e] at this
  rw [Option.some.inj this]
  exact b2 b u' e'
 have fr:∀ b u,b ∈ frs l→h1.get? b=some u→∃ sl,h2.get? b=some { u with slots:=sl }:=fun b u hb e=>by
  obtain ⟨_,o',ho',hd⟩:=ff.mem hb
  rw [e] at ho'
  cases ho'
  exact up b u hb e hd
 refine ⟨⟨fun b o e n hb hx=>inB b o (un.keep b o e n hb hx) (k2 b o e hb),fun b o e n hb hx=>?_,un.free,fun b o e hx=>?_,un.tups,un.frzs,un.tbls⟩,fun b o e=>?_⟩
 ·obtain ⟨sl,e1⟩:=un.slot b o e n hb hx
  obtain ⟨sl',e2⟩:=fr b _ hb e1
  exact ⟨sl',e2⟩
 ·obtain ⟨o',e1⟩:=un.there b o e hx
  by_cases hb:b ∈ frs l
  ·obtain ⟨sl,e2⟩:=fr b o' hb e1
   exact ⟨_,e2⟩
  ·exact ⟨o',inB b o' e1 (k2 b o e hb)⟩
 ·refine (hok b o e).stay (fun c u hc q=>inB c u q ?_) (fun _ q=>q) fun _ _ q=>q
  rcases hc with z | z
  ·rw [z]; exact k1 b o e
  ·exact k1 c _ z
section
variable {X:Cx} {pins:List (Addr × Obj)} {σ:St} {H1:Hp} {s1 s':Shared} {E:XK} {M:Model} {E2 Es:Value→Shared→Prop}
theorem fly_comp {ex:Value} {C:Addr} {m:Str→Option Value} {cenv:Env} {what:String} (I:Inv X pins σ H1 s1) (hs:X.stack=X.env :: X.outer) (hf:X.env.frame=some X.env.locals) (hex:X.ex=[]) (q:CXF X.prog X.w X.stack H1 s1 E ex s')
  (hC:s1.heap.Ns C m) (fC:FpOk X pins H1 C) (hCf:C ∉ frs X.stack) (hcf:cenv.frame=X.env.frame) :
  wpAny M X.A (noteFrame ex cenv) (fun _ s2=>∃ m,s2.heap.Ns C m∧∀ h',Heap.SameBut C s2.heap h'→∀ cenv':Env,cenv'.locals=C →
   wpAny M X.A (PySem.passOn what ex cenv':Sem Value) (fun _ _=>False) (fun e s3=>wpAny M X.A (leaving X.env e) (fun _ s4=>CXF X.prog X.w X.outer X.H₀ X.s₀ E e s4) E2 s3) { s2 with heap:=h' }) Es s':=by
 obtain ⟨a,cls,H',rfl,os,bare,un,hok,⟨B,a0,f,k1,k2⟩,hE⟩:=q
 have hfr:X.A.frames=some (X.env :: X.outer):=by rw [← hs]; exact I.ok.frames
 have f':Heap.FlyingW B (X.env :: X.outer) a cls a0 s'.heap:=by rw [← hs]; exact f
 obtain ⟨c0,c1,c2,c3,c4,c5⟩:=fC
 rw [noteFrame_same hcf]
 refine wpAny_noteFrame_onW (L:=X.env.locals) (outer:=X.outer) hfr f'.2.2.1 hf f'.2.2.2 f'.1 f'.2.1 fun h2 hN=>?_
 obtain ⟨x1,x2,x3,x4⟩:=hN
 obtain ⟨oC,esC,epC,hoC,hdC,rC⟩:=id hC
 have sC:s'.heap.get? C=some oC:=un.keep C oC hoC c0 hCf (by simp)
 have h2C:h2.get? C=some oC:=by
  obtain ⟨u',hu'⟩:=k2 C oC hoC hCf
  have e:=f.1 C u' hu'
  rw [sC] at e
  rw [Option.some.inj e]
  exact x1 C u' hu'
 refine ⟨m,⟨oC,esC,epC,h2C,hdC,rC⟩,fun h' sb cenv' _=>?_⟩
 have BC:∃ u',B.get? C=some u':=k2 C oC hoC hCf
 have L0:∀ b,B.get? b=none→b < h'.objs.size→b ∈ (List.range h'.objs.size).filter fun b=>(B.get? b).isNone:=fun b e hb=>List.mem_filter.mpr ⟨List.mem_range.mpr hb,by rw [e]; rfl⟩
 have L1:∀ b,(∃ u,B.get? b=some u)→b ∉ (List.range h'.objs.size).filter fun b=>(B.get? b).isNone:=fun b ⟨u,e⟩ z=>by
  have:=(List.mem_filter.mp z).2
  rw [e] at this
  cases this
 generalize hLL:((List.range h'.objs.size).filter fun b=>(B.get? b).isNone)=LL at L0 L1
 have b1:(PySem.W.hideAll h' LL).StaysIn h':=fun b o e=>PySem.W.of_hideAll _ e
 have getB:∀ b u,h'.get? b=some u→(∃ u,B.get? b=some u)→(PySem.W.hideAll h' LL).get? b=some u:=fun b u e hb=>PySem.W.hideAll_get _ e (L1 b hb)
 have noB:∀ b,B.get? b=none→b < h'.objs.size→(PySem.W.hideAll h' LL).get? b=none:=fun b e hb=>PySem.W.hideAll_none _ (L0 b e hb)
 have keep2:∀ b o,b ≠ C→h2.get? b=some o→h'.get? b=some o:=fun b o hb e=>(sb.2 b hb).trans e
 have hCl:C ∉ frs (X.env :: X.outer):=by rw [← hs]; exact hCf
 have ff':h'.FunFrames (PySem.W.hideAll h' LL) (X.env :: X.outer):=by
  refine PySem.W.funFrames_hide (ff_but sb x2 hCl) fun env he b hb=>?_
  have hm:b ∈ frs (X.env :: X.outer):=List.mem_filterMap.mpr ⟨env,he,hb⟩
  obtain ⟨n,o,ho,_⟩:=x2.mem hm
  exact L0 b n (by rw [sb.1]; exact Heap.lt_size ho)
 have tr':h'.TracedAtW (PySem.W.hideAll h' LL) a cls a0 (rawInt X.env.locals):=by
  obtain ⟨oe,vs,T,oT,ts,he,hcls,hd,h1,hnT,hTe,hT,hdT,h3⟩:=x3
  have na:a ≠ C:=fun z=>by
   rw [z,h2C] at he
   cases he
   rw [hdC] at hd
   cases hd
  have nT:T ≠ C:=fun z=>by
   rw [z,h2C] at hT
   cases hT
   rw [hdC] at hdT
   cases hdT
  exact ⟨oe,vs,T,oT,ts,keep2 a _ na he,hcls,hd,h1,noB T hnT (by rw [sb.1]; exact Heap.lt_size hT),hTe,keep2 T _ nT hT,hdT,h3⟩
 have hen':(PySem.W.hideAll h' LL).get? a=none:=by
  obtain ⟨oe,_,_,_,_,he,_⟩:=x3
  exact noB a f'.2.1 (by rw [sb.1]; exact Heap.lt_size he)
 refine passOnW (s:={ s' with heap:=h' }) b1 ff' tr' fun h3 fl' y1 y2 y3 y4=>?_
 refine leavingW (s:={ s' with heap:=h3 }) (L:=X.env.locals) (outer:=X.outer) hfr y2 hf y3 y1 hen' fun h4 hLeft=>?_
 obtain ⟨z1,z2,z3,z4⟩:=hLeft
 have nC':H' C=none:=un.free C oC hoC c0 (by simp)
 have hsub:∀ b o,(PySem.W.hideAll s1.heap [C]).get? b=some o→s1.heap.get? b=some o∧b ≠ C:=fun b o e=>⟨PySem.W.of_hideAll _ e,fun z=>by
  rw [PySem.W.hideAll_none [C] (by rw [z]; exact List.mem_singleton_self _)] at e
  cases e⟩
 have un1:Un (frs X.stack) [] H1 H' (PySem.W.hideAll s1.heap [C]) s'.heap:=⟨fun b o e=>un.keep b o (hsub b o e).1,fun b o e=>un.slot b o (hsub b o e).1,fun b o e=>un.free b o (hsub b o e).1,fun b o e=>un.there b o (hsub b o e).1,un.tups,un.frzs,un.tbls⟩
 have inB':∀ b u,b ≠ C→B.get? b=some u→(PySem.W.hideAll h' LL).get? b=some u:=fun b u hb e=>getB b u (keep2 b u hb (x1 b u e)) ⟨u,e⟩
 have B0a:(PySem.W.hideAll B [C]).StaysIn s'.heap:=fun b o e=>f.1 b o (PySem.W.of_hideAll _ e)
 have B0n:∀ b o,(PySem.W.hideAll B [C]).get? b=some o→b ≠ C:=fun b o e z=>by
  rw [PySem.W.hideAll_none [C] (by rw [z]; exact List.mem_singleton_self _)] at e
  cases e
 have B0b:(PySem.W.hideAll B [C]).StaysIn h4:=fun b o e=>z1 b o (inB' b o (B0n b o e) (PySem.W.of_hideAll _ e))
 have B0g:∀ b u,b ≠ C→B.get? b=some u→(PySem.W.hideAll B [C]).get? b=some u:=fun b u hb e=>PySem.W.hideAll_get _ e fun z=>hb (List.mem_singleton.mp z)
 have ff0:s'.heap.FunFrames (PySem.W.hideAll B [C]) X.stack:=by
  have:∀ {l:List Env},s'.heap.FunFrames B l→s'.heap.FunFrames (PySem.W.hideAll B [C]) l:=fun {l}=>by
   induction l with
   | nil=>intro _; trivial
   | cons env r ih =>
    rintro ⟨hk,⟨L,o,hf,hn,ho,hd⟩,hr⟩
    refine ⟨hk,⟨L,o,hf,?_,ho,hd⟩,ih hr⟩
    cases e:(PySem.W.hideAll B [C]).get? L with
    | none=>rfl
    | some u =>
     rw [PySem.W.of_hideAll _ e] at hn
     cases hn
  exact this f.2.2.1
 obtain ⟨un2,ok2⟩:=fly_unF un1 hok B0a B0b ff0 (fun b o e=>by
   obtain ⟨u,hu⟩:=k1 b o e
   exact ⟨u,B0g b u (fun z=>by rw [z,nC'] at e; cases e) hu⟩) (fun b u e hb=>by
   obtain ⟨e1,e2⟩:=hsub b u e
   obtain ⟨u',hu'⟩:=k2 b u e1 hb
   exact ⟨u',B0g b u' e2 hu'⟩) (fun b u hb e hd=>by
   have nb:b ≠ C:=fun z=>hCf (z ▸ hb)
   obtain ⟨sl,e2⟩:=x4 b u e hd
   have e3:=y4 b _ (keep2 b _ nb e2) hd
   obtain ⟨sl',e4⟩:=z4 b _ e3 hd
   exact ⟨sl',e4⟩)
 have I':Inv X pins σ H1 { s1 with heap:=PySem.W.hideAll s1.heap [C] }:=I.turned (it:=C) (t':=s1.toks) (fun b o hb e=>PySem.W.hideAll_get _ e fun z=>hb (List.mem_singleton.mp z)) c0 c1 c3 c4 c5
 have J:Inv X pins σ H' { s' with heap:=h4 }:=I'.call' (s':={ s' with heap:=h4 }) (ch:=[]) os un2 ok2 bare fun _ z=>nomatch z
 refine fly_out hex (B:=PySem.W.hideAll h' LL) (a0:=a0) ⟨z1,hen',z2.2.2,z3⟩ (fun b o e=>?_) (fun b u e hb=>?_) J hE
 ·obtain ⟨u,hu⟩:=k1 b o e
  exact ⟨u,inB' b u (fun z=>by rw [z,nC'] at e; cases e) hu⟩
 ·obtain ⟨u1,e1⟩:=I.base.there b u e (by rw [hex]; simp)
  obtain ⟨u2,e2⟩:=k2 b u1 e1 hb
  refine ⟨u2,inB' b u2 (fun z=>?_) e2⟩
  rcases c3 with c3 | c3
  ·rw [hex] at c3
   cases c3
  ·rw [z] at e
   exact absurd (Heap.lt_size e) (Nat.not_lt.mpr c3)
end
end L2
namespace L2
open PySem PySem.Spec PyProof.Rows
section
variable {prog:Program} {w:World} {A:Around} {R:Result→Shared→Prop} {s:Shared}
theorem compLoop_goX {elt target iter:Expr} {ifs:List Expr} {scope:Scope} {pos:Pos} {it acc:Value} {env:Env} (I:Nat→Shared→Prop)
  (turn:∀ n s,I n s→wpAny (model prog w) A (pyNext it) (fun r s₁=>match r with
   | none=>R (.ok .next) s₁
   | some v=>wpAny (model prog w) A (letOwnedTupleGo target it v) (fun _ s₀=>wpAny (model prog w) A (assign target env v) (fun _ s₂ =>
     wpAny (model prog w) A (forIn ifs true fun c r=>if r=true then do let ok ← isTrue c env (eval c env); pure (ForInStep.yield ok) else pure (ForInStep.yield r)) (fun ok s₃ =>
      if ok=true then wpAny (model prog w) A (eval elt env) (fun x s₄ =>
       wpAny (model prog w) A (call (.builtin "list.append") [acc,x]) (fun _ s₅=>∃ m,m < n∧I m s₅) (fun _ _=>False) s₄) (notedBy (model prog w) A env (fun x s=>R (.error x) s)) s₃
      else ∃ m,m < n∧I m s₃) (fun _ _=>False) s₂) (fun _ _=>False) s₀) (fun _ _=>False) s₁) (fun _ _=>False) s)
  (n:Nat) (h:I n s) :
  codeAny (model prog w) A (.compLoop (.ListComp elt [⟨target,iter,ifs,0⟩] scope pos) 0 it acc env) R s:=by
 refine codeAny_loop rfl I (fun n s hI=>?_) n h
 show wpAny _ A ((compTurn (.ListComp elt [⟨target,iter,ifs,0⟩] scope pos) 0 it acc env).onRaise (fun x=>do noteFrame x env; theTreesLotGoes x)) _ _ s
 refine wpAny_noted ?_
 rw [compTurn_list]
 refine wpAny_bind (wpAny_standAt (wpAny_bind (wpAny_mono (turn n s hI) (fun r s₁ h₁=>?_) fun _ _ h'=>h'.elim)))
 cases r with
 | none=>exact wpAny_pure h₁
 | some v =>
  refine wpAny_bind (wpAny_mono h₁ (fun _ s₀ h₀=>?_) fun _ _ h'=>h'.elim)
  refine wpAny_bind (wpAny_mono h₀ (fun _ s₂ h₂=>wpAny_bind (wpAny_mono h₂ (fun ok s₃ h₃=>?_) fun _ _ h'=>h'.elim)) fun _ _ h'=>h'.elim)
  cases ok with
  | false=>exact wpAny_pure ⟨rfl,h₃⟩
  | true =>
   exact wpAny_bind (wpAny_bind (wpAny_mono h₃ (fun x s₄ h₄=>wpAny_bind (wpAny_mono h₄ (fun _ s₅ h₅=>wpAny_pure (wpAny_pure ⟨rfl,h₅⟩)) fun _ _ h'=>h'.elim)) fun _ _ h'=>h'))
end
section
variable {X:Cx} {pins:List (Addr × Obj)} {σ:St} {H:Hp} {s:Shared} {scope:Scope} {N:List Str} {cl:List (Str × Addr)} {fp:List Addr} {o:Obj}
theorem comp_backN {s':Shared} {H':Hp} {σ':St} {pins':List (Addr × Obj)} (I:Inv X pins σ H s) (hf:∀ b ∈ fp,FpOk X pins H b)
  (J:Inv (cxComp X N scope cl { s with heap:=s.heap.push o } H (s.heap.objs.size :: fp)) pins' σ' H' s') :
  Inv X pins σ H' s'∧FpOk X pins H' (s.heap.push o).objs.size∧(s.heap.push o).objs.size ∉ frs X.stack:=by
 have hsz:(s.heap.push o).objs.size=s.heap.objs.size + 1:=Heap.size_push ..
 have lt:∀ b u,s.heap.get? b=some u→b ∉ fp→b ∉ s.heap.objs.size :: fp:=fun b u e hb z=>by
  rcases List.mem_cons.mp z with z | z
  ·exact absurd (Heap.lt_size e) (by rw [z]; exact Nat.lt_irrefl _)
  ·exact hb z
 have ps:∀ b u,s.heap.get? b=some u→(s.heap.push o).get? b=some u:=fun b u e=>Heap.get?_push_of_some _ e
 refine ⟨I.call' (ch:=fp) J.os ⟨fun b u e q hb hx=>J.base.keep b u (ps b u e) q hb (lt b u e hx),fun b u e q hb hx=>J.base.slot b u (ps b u e) q hb (lt b u e hx),fun b u e q hx=>J.base.free b u (ps b u e) q (lt b u e hx),fun b u e hx=>J.base.there b u (ps b u e) (lt b u e hx),
  J.base.tups,J.base.frzs,J.base.tbls⟩ J.hok J.bare (fun b hb=>?_),?_,?_⟩
 ·obtain ⟨_,f1,_,f3,f4,f5⟩:=hf b hb
  exact ⟨f3,f1,f4,f5⟩
 ·have I3:Inv X pins σ H { s with heap:=s.heap.push o }:=I.kept (t':=s.toks) fun b u e=>Heap.get?_push_of_some _ e
  exact I3.fpOk (Nat.le_refl _) J.free
 ·exact I.nostk (by rw [hsz]; exact Nat.le_succ _)
end
section
variable {X:Cx} {scope:Scope} {N:List Str} {xs:Nat} {js:List Nat} {tg iter elt:Expr} {ifs:List Expr} {pos:Pos} {ti:TI} {g:TG} {tt:TT} {teX:XK→TE}
theorem comp_blockX {EK:XK} {pins:List (Addr × Obj)} {s:Shared} {σ:St} {H:Hp} {Q:VK} {RR:Value→Addr→Result→Shared→Prop} {E:Value→Shared→Prop} {it:Addr} {fp:List Addr} {tn:Nat→Heap→Prop} {J:It} {cl:List (Str × Addr)}
  (hc:X.calm=true) (S:CompScope X scope N xs js) (hg:∀ cl s H ex,PG (cxComp X N scope cl s H ex) tg g) (ht:∀ cl s H ex,PTs (cxComp X N scope cl s H ex) ifs tt) (he:∀ cl s H ex,PEX (cxComp X N scope cl s H ex) elt teX)
  (h2:∀ x c,cl.lookup x=some c→X.env.cells.lookup x=some c) (h4:∀ y ∈ scope.names,y.2=.free→∃ c,cl.lookup y.1=some c)
  (I:Inv X pins σ H s) (T:Turn X.prog X.w X.K tg J fp it tn) (st:tn 0 s.heap) (hf:∀ b ∈ fp,FpOk X pins H b)
  (hW:CompGoal xs js g tt (teX EK) σ Q J H)
  (hRX:∀ (D C:Addr) (H1:Hp) (s1 s':Shared) (m:Str→Option Value) (e:Value) (cenv:Env),Inv X pins σ H1 s1→s1.heap.Ns C m→FpOk X pins H1 C→C ∉ frs X.stack→CXF X.prog X.w X.stack H1 s1 EK e s'→cenv.frame=X.env.frame→notedBy (model X.prog X.w) X.A cenv (fun x s=>RR (.ref D) C (.error x) s) e s')
  (hR:∀ (D C:Addr) (H':Hp) (s':Shared) (m:Str→Option Value),Inv X pins σ H' s'→s'.heap.Ns C m→FpOk X pins H' C→Q (.ref D) H'→RR (.ref D) C (.ok .next) s') :
  wpAny (model X.prog X.w) X.A (newList []) (fun acc s₃=>wpAny (model X.prog X.w) X.A (newFunctionEnv scope X.env.globals cl [] X.env.qual none .none (some X.env)) (fun cenv s₄ =>
   codeAny (model X.prog X.w) X.A (.compStart (.ListComp elt [⟨tg,iter,ifs,0⟩] scope pos) 0 (.ref it) acc { cenv with scope:=relabel scope X.env }) (RR acc cenv.locals) s₄) E s₃) E s:=by
 refine wpAny_newObj_type (wpAny_newFunctionEnv S.nocell (by intro y hy; simp at hy) (fun h₁ hns₁ hsb₁=>?_) S.kind)
 dsimp only at hns₁ hsb₁ ⊢
 obtain ⟨W,⟨m0,w0⟩,turn⟩:=hW
 have hfo:∀ b ∈ fp,∃ u,s.heap.get? b=some u:=fun b hb=>let ⟨u,hu,_⟩:=T.obj _ _ st b hb; ⟨u,hu⟩
 have hsz:(s.heap.push ({ cls:=.type "list",dict:=none,data:=.seq ([]:List Value).toArray }:Obj)).objs.size=s.heap.objs.size + 1:=Heap.size_push ..
 have k3:∀ b u,(s.heap.push ({ cls:=.type "list",dict:=none,data:=.seq ([]:List Value).toArray }:Obj)).get? b=some u→h₁.get? b=some u:=fun b u e =>
  (hsb₁.2 b (Nat.ne_of_lt (Heap.lt_size e))).trans (Heap.get?_push_of_some _ e)
 have B0:=comp_inv (X:=X) (N:=N) (xs:=xs) (js:=js) (tk:=s.toks + ([]:List (Str × Value)).length) I S h2 h4 hf hfo (fun v z=>by cases z) rfl hns₁ k3
 generalize hXc:cxComp X N scope cl { s with heap:=s.heap.push ({ cls:=.type "list",dict:=none,data:=.seq ([]:List Value).toArray }:Obj) } H (s.heap.objs.size :: fp)=Xc at B0
 have eP:Xc.prog=X.prog:=by rw [← hXc]; rfl
 have eW:Xc.w=X.w:=by rw [← hXc]; rfl
 have eK:Xc.K=X.K:=by rw [← hXc]; rfl
 have eA:Xc.A=X.A:=by rw [← hXc]; rfl
 have eC:Xc.calm=true:=by rw [← hXc]; exact hc
 have eX:Xc.xe=fun _ _=>False:=by rw [← hXc]; rfl
 have eE:Xc.env=compEnvC scope cl (s.heap.push ({ cls:=.type "list",dict:=none,data:=.seq ([]:List Value).toArray }:Obj)).objs.size X.env:=by rw [← hXc]; rfl
 have eF:Xc.fs=frs X.stack:=by rw [← hXc]; rfl
 have eex:Xc.ex=s.heap.objs.size :: fp:=by rw [← hXc]; rfl
 have hg':PG Xc tg g:=by rw [← hXc]; exact hg _ _ _ _
 have ht':PTs Xc ifs tt:=by rw [← hXc]; exact ht _ _ _ _
 have he':PEX Xc elt teX:=by rw [← hXc]; exact he _ _ _ _
 have ecl:∀ x c,Xc.env.cells.lookup x=some c→X.env.cells.lookup x=some c:=by rw [eE]; exact h2
 have fpk:∀ {H':Hp} {ob:Obj},(∀ b ∈ fp,H' b=none)→∀ b ∈ fp,FpOk Xc [(s.heap.objs.size,ob)] H' b:=fun {H' ob} hn b hb=>by
  obtain ⟨u,hu⟩:=hfo b hb
  have hlt:=Heap.lt_size hu
  obtain ⟨_,f1,f2,f3,f4,f5⟩:=hf b hb
  refine ⟨hn b hb,?_,?_,.inl ?_,fun x c e=>f4 x c (ecl x c e),fun p hp=>?_⟩
  ·rw [eE]
   show b ≠ (s.heap.push _).objs.size
   rw [hsz]; exact Nat.ne_of_lt (Nat.lt_succ_of_lt hlt)
  ·rw [eF]
   intro z
   rcases List.mem_cons.mp (I.stkSub b z) with e | e
   ·exact f1 e
   ·exact f2 e
  ·rw [eex]; exact List.mem_cons_of_mem _ hb
  ·have e:p=(s.heap.objs.size,ob):=by
    rw [← hXc] at hp
    simpa [cxComp] using hp
   subst e
   show s.heap.objs.size ≠ b
   exact Nat.ne_of_gt hlt
 have loop:∀ s₃:Shared,s₃={ s with heap:=h₁,toks:=s.toks + ([]:List (Str × Value)).length } →
   codeAny (model X.prog X.w) X.A (.compLoop (.ListComp elt [⟨tg,iter,ifs,0⟩] scope pos) 0 (.ref it) (.ref s.heap.objs.size) (compEnvC scope cl (s.heap.push ({ cls:=.type "list",dict:=none,data:=.seq ([]:List Value).toArray }:Obj)).objs.size X.env))
    (RR (.ref s.heap.objs.size) (s.heap.push ({ cls:=.type "list",dict:=none,data:=.seq ([]:List Value).toArray }:Obj)).objs.size) s₃:=by
  rintro s₃ rfl
  refine compLoop_goX (fun n s'=>∃ (i:Nat) (acc:List V) (its:List Value) (c:Nat) (σ':St) (H':Hp),Inv Xc [(s.heap.objs.size,({ cls:=.type "list",data:=.seq its.toArray c }:Obj))] σ' H' s'∧Vals acc its∧tn i s'.heap ∧
   (∀ b ∈ fp,H' b=none)∧acc.length≤sizeLine∧W i n acc σ' H') ?_ m0 ⟨0,[],[],0,_,H,B0,.nil,T.keep _ _ _ st fun b _ u e=>k3 b u (Heap.get?_push_of_some _ e),fun b hb=>(hf b hb).1,Nat.zero_le _,w0⟩
  rintro n s3 ⟨i,acc,its,c,σ3,H3,I3,rv,st3,fr3,hz,w3⟩
  rcases turn i n acc σ3 H3 w3 with ⟨stop,qn⟩ | ⟨go,hlen,NN,hNN,step⟩
  ·have h:=T.done Xc eP eW eK eC i _ s3 σ3 H3 (fun _ _=>False) I3 (fpk fr3) st3 stop
   rw [eA] at h
   refine thn h fun r s4 ⟨hr,I4⟩=>?_
   subst hr
   rw [← hXc] at I4
   obtain ⟨a1,a2,a3⟩:=comp_back I hf I4 rv hz
   obtain ⟨mC,hmC,_⟩:=I4.loc
   exact hR _ _ _ _ mC a1 hmC a2 (qn _ a3)
  ·have h:=T.item Xc eP eW eK eC i _ s3 σ3 H3 (fun _ _=>False) I3 (fpk fr3) st3 go
   rw [eA] at h
   refine thn h fun r s4 ⟨u,hr,h4⟩=>?_
   subst hr
   refine thn h4 fun _ s5 ⟨x,H5,I5,r5,y5,st5,fr5⟩=>?_
   have I5':=I5.pinned (fpk fr5) (T.obj _ _ st5)
   have ha:=hg' _ s5 σ3 H5 x u _ I5' r5 (step x H5 y5)
   rw [eP,eW,eA,eE,eX] at ha
   refine thn ha fun _ s6 ⟨σ6,H6,I6,q6⟩=>?_
   have hb:=ht' _ s6 σ6 H6 _ I6 q6
   rw [eP,eW,eA,eE,eX] at hb
   refine thn hb fun ok s7 ⟨H7,I7,q7⟩=>?_
   have tn':∀ {σ8:St} {H8:Hp} {s8:Shared},Inv Xc ([(s.heap.objs.size,({ cls:=.type "list",data:=.seq its.toArray c }:Obj))]++pinsAt fp s5.heap) σ8 H8 s8→tn (i + 1) s8.heap∧∀ b ∈ fp,H8 b=none:=fun {σ8 H8 s8} I8=>by
    refine ⟨T.keep _ _ _ st5 fun b hb o e=>(I8.pin (b,o) (List.mem_append_right _ (List.mem_append_right _ (mem_pinsAt hb e)))).1,fun b hb=>?_⟩
    obtain ⟨o,e,d⟩:=T.obj _ _ st5 b hb
    exact (I8.pin (b,o) (List.mem_append_right _ (List.mem_append_right _ (mem_pinsAt hb e)))).2.1
   cases ok with
   | false =>
    obtain ⟨m',hm,w7⟩:=hNN _ _ _ q7
    obtain ⟨t1,t2⟩:=tn' I7
    exact ⟨m',hm,i + 1,acc,its,c,σ6,H7,I7.unpinned,rv,t1,t2,hz,w7⟩
   | true =>
    have hd:=he' _ s7 σ6 H7 _ EK I7 q7
    rw [eP,eW,eA,eE] at hd
    refine wpAny_mono hd (fun v s8 ⟨y,H8,I8,r8,q8⟩=>?_) (fun e s8 hx=>?_)
    rotate_left
    ·obtain ⟨H9,s9,I9,hq9⟩:=hx
     obtain ⟨mC,hmC,_⟩:=I9.loc
     have nD9:=(I9.unpinned.pin (s.heap.objs.size,({ cls:=.type "list",data:=.seq its.toArray c }:Obj)) (by simp)).2.1
     have eS:Xc.stack=X.stack:=by rw [← hXc]; rfl
     rw [eP,eW,eS] at hq9
     rw [eE] at hmC
     rw [← hXc] at I9
     obtain ⟨J1,J2,J3⟩:=comp_backN I hf I9
     exact hRX _ _ H9 s9 s8 mC e _ J1 hmC J2 J3 hq9 rfl
    obtain ⟨m',hm,w8⟩:=hNN _ _ _ q8
    obtain ⟨t1,t2⟩:=tn' I8
    have I9:=I8.unpinned
    obtain ⟨eD,nD,nC,nF,_⟩:=I9.pin (s.heap.objs.size,({ cls:=.type "list",data:=.seq its.toArray c }:Obj)) (by simp)
    have hln:=rv.length
    refine call_meets F.slot_list_append ⟨_,eD,rfl⟩ F.entry_list_append (F.args_list_append_2 _ _) (PySem.list_append s.heap.objs.size its.toArray c v (by rw [List.size_toArray]; omega)) ⟨eD,?_⟩
    obtain ⟨n9,q⟩:∃ n9,(s8.heap.update s.heap.objs.size (Obj.mapSeq fun a=>a.push v)).get? s.heap.objs.size=some ({ cls:=.type "list",data:=.seq (its++[v]).toArray n9 }:Obj):=by
     have q:=PySem.IsL.update eD (fun a=>a.push v)
     have ea:its.toArray.push v=(its++[v]).toArray:=by simp
     rw [ea] at q
     exact ⟨_,q⟩
    have I10:Inv Xc [] σ6 H8 { s8 with heap:=s8.heap.update s.heap.objs.size (Obj.mapSeq fun a=>a.push v) }:=by
     refine (I9.pins_of (pins':=[]) fun p hp=>nomatch hp).turned (it:=s.heap.objs.size) (t':=s8.toks) (fun b u hb e=>(Heap.get?_update_other s8.heap _ (Ne.symm hb)).trans e) nD nC (.inl (by rw [eex]; exact List.mem_cons_self)) (fun x cc e=>?_) (fun p hp=>?_)
     ·obtain ⟨w0,oc,hoc,_⟩:=I.cell x cc (ecl x cc e)
      exact Nat.ne_of_lt (Heap.lt_size hoc)
     ·rw [← hXc] at hp
      exact absurd hp (by simp [cxComp])
    refine ⟨m',hm,i + 1,acc++[y],its++[v],n9,σ6,H8,I10.pins_of fun p hp=>?_,rv.append (.cons r8 .nil),T.keep _ _ _ t1 fun b hb u e=>?_,t2,by rw [List.length_append,List.length_singleton]; omega,w8⟩
    ·have e:p=(s.heap.objs.size,({ cls:=.type "list",data:=.seq (its++[v]).toArray n9 }:Obj)):=by simpa using hp
     subst e
     exact ⟨q,nD,nC,nF,fun w z=>by cases z⟩
    ·have hb':b ≠ s.heap.objs.size:=by
      obtain ⟨z,hz'⟩:=hfo b hb
      exact Nat.ne_of_lt (Heap.lt_size hz')
     exact (Heap.get?_update_other s8.heap _ (Ne.symm hb')).trans e
 exact codeAny_compStart_list (loop _ rfl) (T.self _ 0 _ _ _ (T.keep _ _ _ st fun b _ u e=>k3 b u (Heap.get?_push_of_some _ e)) (loop _ rfl))
def WantsC (X:Cx) (E:XK):Prop :=
 ∀ (pins:List (Addr × Obj)) (σ:St) (D C:Addr) (H1:Hp) (s1 s':Shared) (m:Str→Option Value) (e:Value) (cenv:Env) (Q:Value→Shared→Prop),Inv X pins σ H1 s1→s1.heap.Ns C m→FpOk X pins H1 C→C ∉ frs X.stack→CXF X.prog X.w X.stack H1 s1 E e s'→cenv.frame=X.env.frame →
  notedBy (model X.prog X.w) X.A cenv (fun x s=>compPost (model X.prog X.w) X.A X.xe none Q (.ref D) C (.error x) s) e s'
theorem wantsC_def {P:Program} {w:World} {K:PySem.W.Frag} {mg:Str→Option Value} {base:Heap} {N:List Str} {qual:Str} {scope:Scope} {f:Addr} {cd:Value} {A:Around} {outer:List Env} {s:Shared} {H:Hp} {E:XK}:WantsC (cxOf (CXF P w) P w K mg base N qual scope f cd A outer s H E) E :=
 fun pins σ D C H1 s1 s' m e cenv Q I hn fC hC q hf=>fly_comp I rfl rfl rfl q hn fC hC hf
theorem pe_compX {E:XK} (WC:WantsC X E) (hc:X.calm=true) (S:CompScope X scope N xs js) (hi:PI X tg iter ti) (hg:∀ cl s H ex,PG (cxComp X N scope cl s H ex) tg g) (ht:∀ cl s H ex,PTs (cxComp X N scope cl s H ex) ifs tt)
  (he:∀ cl s H ex,PEX (cxComp X N scope cl s H ex) elt teX) (hs:∀ x,foldedSetIterable iter X.env x=pure x:=by intro _; rfl) :
  PE X (.ListComp elt [⟨tg,iter,ifs,0⟩] scope pos) (tComp xs js ti g tt (teX E)):=by
 intro pins s σ H Q I h
 obtain ⟨cl,e1,h2,h4⟩:=closure_ok (scope:=scope) (env:=X.env) fun y hy e=>I.ok.has y.1 (S.caught y hy e)
 rw [eval_ListComp]
 refine wpAny_comprehension_free (use:=none) rfl hs e1 S.kind S.once (thn (hi pins s σ H _ I h) fun v s1 h1=>thn h1 fun itv s2 h2'=>?_)
 obtain ⟨it,fp,tn,J,H2,e,I2,T,st2,f2,hW⟩:=h2'
 subst e
 refine comp_blockX (EK:=E) (RR:=fun acc C=>compPost (model X.prog X.w) X.A X.xe none (EP X pins σ Q) acc C) hc S hg ht he h2 h4 I2 T st2 f2 hW (fun D C H1 s1 s' m e cenv I1 hn fC hC q hf=>WC pins σ D C H1 s1 s' m e cenv _ I1 hn fC hC q hf) fun D C H' s' m I' hn hC q=>?_
 obtain ⟨f0,f1,_,f3,f4,f5⟩:=hC
 exact ⟨m,hn,fun h' hs'=>⟨.ref D,H',I'.turned (it:=C) (t':=s'.toks) (fun b u hb e=>(hs'.2 b hb).trans e) f0 f1 f3 f4 f5,rfl,q⟩⟩
end
end L2
namespace L2
open PySem PySem.Spec PyProof.Rows
def tIfX (tc:TT) (ta tb:XK→TS):XK→TS:=fun E D σ H=>tc σ H fun d H1=>if d=true then ta E D σ H1 else tb E D σ H1
theorem psx_if {X:Cx} {c:Expr} {a b:Stmt} {pos:Pos} {tc:TT} {ta tb:XK→TS} (hc:PT X.nox c tc) (ha:PSX X a ta) (hb:PSX X b tb):PSX X (.If c [a] [b] pos) (tIfX tc ta tb):=by
 intro pins s σ H D E I h
 refine wpAny_If (wpAny_mono (hc pins s σ H _ (I.wish _) h) (fun d s1 ⟨H1,I1',q1⟩=>?_) fun _ _ z=>False.elim z)
 have I1:=I1'.unwish
 have one:∀ {st:Stmt} {t:XK→TS},PSX X st t→t E D σ H1→wpAny (model X.prog X.w) X.A (execs [st] X.env) (SP X pins D) (XA X pins σ E) s1:=fun {st t} hst q=>by
  refine wpAny_execs_cons (thn (hst pins s1 σ H1 D E I1 q) fun f s2 q2=>?_)
  cases f with
  | next=>exact wpAny_execs_nil q2
  | ret v=>exact q2
  | brk=>exact q2
  | cont=>exact q2
 cases d with
 | true=>exact one ha q1
 | false=>exact one hb q1
def tTryNo (K:PySem.W.Frag) (Dc:Value) (tb:XK→TS) (ts:TS):TS:=fun D σ H=>tb (fun cls _ H'=>PySem.W.exmOne K cls Dc=some true∧ts D σ H') D σ H
theorem ps_tryNo {X:Cx} {st b₀:Stmt} {suite:List Stmt} {cx:Str} {np hpos pos:Pos} {tb:XK→TS} {ts:TS} {Dc:Addr} (hs:X.stack=X.env :: X.outer) (hf:X.env.frame=some X.env.locals)
  (hg:Gl X cx) (hm:X.mg cx=some (.ref Dc)) (hb:PSX X st tb) (hsu:∀ v,PSs (X.mark v) (b₀ :: suite) ts) (hdb:(cx == ("__debug__" : Str))=false:=by decide) :
  PS X (.Try [st] [.ExceptHandler (some (.Name cx np)) none (b₀ :: suite) hpos] [] [] pos) (tTryNo X.K (.ref Dc) tb ts):=by
 intro pins s σ H D I h
 refine wpAny_Try_except (wpAny_execs_cons (wpAny_mono (hb pins s σ H D _ I h) (fun f s1 q=>?_) (fun ex s1 q=>?_)))
 ·cases f with
  | next=>exact wpAny_execs_nil (wpAny_execs_nil q)
  | ret v=>exact q
  | brk=>exact q
  | cont=>exact q
 ·obtain ⟨H1,s0,I1,a,cls,H',rfl,os,bare,un,hok,⟨B,a0,f,k1,k2⟩,hE⟩:=q
  have f':Heap.FlyingW B (X.env :: X.outer) a cls a0 s1.heap:=by rw [← hs]; exact f
  have fr:∀ {h2:Heap},B.StaysIn h2→s1.heap.UpToSlots h2→Un (frs X.stack) [] H1 H' s0.heap h2∧HOk X.prog X.w H' h2:=fun b2 up=>fly_un un hok f.1 b2 f.2.2.1 k1 k2 up
  refine wpAny_looks_onW (L:=X.env.locals) (outer:=X.outer) (by rw [← hs]; exact I.ok.frames) hf f' fun h4 x4 u4=>?_
  refine wpAny_landsW x4 fun h5 x5 u5=>?_
  have J5:Inv X pins σ H' { s1 with heap:=h5 }:=I1.call' (s':={ s1 with heap:=h5 }) (ch:=[]) os (fr x5.1 (u4.trans u5)).1 (fr x5.1 (u4.trans u5)).2 bare fun _ z=>nomatch z
  refine wpAny_handleBy_cons (codeAny_handlers_test ?_) (by intro q; cases q)
  refine ld_glob (X:=X.mark (.ref a)) (J5.mark (.ref a)) hg hm ?_ hdb
  have LT:PySem.W.Looks (model X.prog X.w) h5 (typeOf (.ref a)) cls:=by
   obtain ⟨ob,hob,hc⟩:=x5.there
   subst hc
   exact (PySem.W.Looks.ld hob).andThen .now
  refine PySem.W.Looks.here (s:={ s1 with heap:=h5 }) (PySem.W.exm_one J5.kIn LT hE.1) ?_
  show codeAny _ _ _ _ _
  refine codeAny_handlers_suite (lands_againW x5 fun h6 x6 u6=>?_)
  obtain ⟨un6,ok6⟩:=fr x6.1 ((u4.trans u5).trans u6)
  have J7:Inv X pins σ H' { s1 with heap:=h6 }:=I1.call' (s':={ s1 with heap:=h6 }) (ch:=[]) os un6 ok6 bare fun _ z=>nomatch z
  refine wpAny_mono (hsu (.ref a) pins { s1 with heap:=h6 } _ _ _ (J7.mark (.ref a)) hE.2) (fun fl s9 q9=>?_) fun _ _ z=>False.elim z
  cases fl with
  | next=>obtain ⟨σ',H2,J9,q9⟩:=q9; exact ⟨_,H2,J9.unmark I.ok.hd,q9⟩
  | brk=>obtain ⟨σ',H2,J9,q9⟩:=q9; exact ⟨_,H2,J9.unmark I.ok.hd,q9⟩
  | cont=>obtain ⟨σ',H2,J9,q9⟩:=q9; exact ⟨_,H2,J9.unmark I.ok.hd,q9⟩
  | ret u=>obtain ⟨v,σ',H2,J9,rv,q9⟩:=q9; exact ⟨v,_,H2,J9.unmark I.ok.hd,rv,q9⟩
end L2
namespace L2
open PySem PySem.Spec PyProof.Rows
namespace Tx
open Builtin Builtin.Str PySem.StrLaws
def cutsOf (k:Nat):Nat→List Str→List Nat
 | _,[]=>[]
 | _,[_]=>[]
 | a,p :: q :: r=>(a + p.length) :: cutsOf k (a + p.length + k) (q :: r)
theorem skips {x y:Str} {hi lim:Nat}:∀ (l m:List Nat) (st:Array Nat × Nat),(∀ i ∈ l,i < st.2 ∨ ¬ At x y hi i)→(forIn (l++m) st (occBody x y hi lim)).run=(forIn m st (occBody x y hi lim)).run
 | [],m,st,_=>rfl
 | a :: l,m,st,h=>by
  have e:(forIn (a :: l++m) st (occBody x y hi lim)).run=(forIn (l++m) st (occBody x y hi lim)).run:=by
   rw [List.cons_append,List.forIn_cons]
   have hn:¬ (((st.fst.size < lim∧st.snd≤a)∧a + y.length≤hi)∧subAt x y a=true):=fun z=>by
    rcases h a List.mem_cons_self with q | q
    ·have:=z.1.1.2
     omega
    ·exact q ⟨z.1.2,z.2⟩
   unfold occBody
   rw [if_neg hn]
   rfl
  rw [e]
  exact skips l m st fun i hi'=>h i (List.mem_cons_of_mem _ hi')
theorem takes {x y:Str} {hi lim a:Nat} {m:List Nat} {st:Array Nat × Nat} (h1:st.1.size < lim) (h2:st.2≤a) (h3:At x y hi a):(forIn (a :: m) st (occBody x y hi lim)).run=(forIn m (st.1.push a,a + y.length) (occBody x y hi lim)).run:=by
 rw [List.forIn_cons]
 have hp:((st.fst.size < lim∧st.snd≤a)∧a + y.length≤hi)∧subAt x y a=true:=⟨⟨⟨h1,h2⟩,h3.1⟩,h3.2⟩
 conv=>lhs; unfold occBody
 rw [if_pos hp]
 rfl
theorem len_eq (x:Str):x.cps.toList.length=x.length:=by simp [Str.length]
theorem app_cps (x y:Str):(x++y).cps.toList=x.cps.toList++y.cps.toList:=Array.toList_append
theorem at_first {x y:Str} {c i:Nat} {r:List Nat} (hy:y.cps.toList=c :: r) (h:At x y x.length i):x.cps.toList[i]?=some c:=by
 have h2:=h.2
 rw [subAt_eq] at h2
 have e:=eq_of_beq h2
 have hl:y.length=r.length + 1:=by rw [← len_eq,hy]; rfl
 rw [hy,hl] at e
 cases q:x.cps.toList.drop i with
 | nil=>rw [q] at e; cases e
 | cons d t =>
  rw [q,List.take_succ_cons] at e
  have hd:d=c:=(List.cons.inj e).1
  have:(x.cps.toList.drop i)[0]?=some d:=by rw [q]; rfl
  rw [List.getElem?_drop] at this
  rw [← hd]
  simpa using this
theorem occ_join {x y:Str} {c lim:Nat} {cs:List Nat} (hy:y.cps.toList=c :: cs):∀ (parts:List Str) (A:List Nat) (found:Array Nat) (free:Nat),parts ≠ []→(∀ p ∈ parts,c ∉ p.cps.toList) →
  x.cps.toList=A++(Str.join y parts).cps.toList→free≤A.length→found.size + parts.length≤lim →
  (forIn (List.range' A.length ((Str.join y parts).length + 1)) (found,free) (occBody x y x.length lim)).run.1.toList=found.toList++cutsOf y.length A.length parts
 | [],_,_,_,h,_,_,_,_=>absurd rfl h
 | [p],A,found,free,_,hc,hx,hf,hl=>by
  have hx':x.cps.toList=A++p.cps.toList:=hx
  have e:=skips (x:=x) (y:=y) (hi:=x.length) (lim:=lim) (List.range' A.length (p.length + 1)) [] (found,free) fun i hi=>.inr fun z=>by
   have h1:=at_first hy z
   have hi':=List.mem_range'_1.mp hi
   rw [hx',List.getElem?_append_right hi'.1] at h1
   exact hc p List.mem_cons_self (List.mem_of_getElem? h1)
  rw [List.append_nil] at e
  show (forIn (List.range' A.length (p.length + 1)) (found,free) (occBody x y x.length lim)).run.1.toList=_
  rw [e]
  show found.toList=found.toList++[]
  rw [List.append_nil]
 | p :: q :: r,A,found,free,_,hc,hx,hf,hl=>by
  have ej:Str.join y (p :: q :: r)=p++y++Str.join y (q :: r):=rfl
  have hx':x.cps.toList=A++(p.cps.toList++(y.cps.toList++(Str.join y (q :: r)).cps.toList)):=by
   rw [hx,ej,app_cps,app_cps,List.append_assoc]
  have ln:(Str.join y (p :: q :: r)).length=p.length + (y.length + (Str.join y (q :: r)).length):=by
   rw [← len_eq,ej,app_cps,app_cps,List.length_append,List.length_append,len_eq,len_eq,len_eq]
   omega
  have hyl:y.length=cs.length + 1:=by rw [← len_eq,hy]; rfl
  have xl:x.length=A.length + (p.length + (y.length + (Str.join y (q :: r)).length)):=by
   rw [← len_eq x,hx',List.length_append,List.length_append,List.length_append,len_eq,len_eq,len_eq]
  have sp:List.range' A.length ((Str.join y (p :: q :: r)).length + 1)=List.range' A.length p.length++((A.length + p.length) :: (List.range' (A.length + p.length + 1) (y.length - 1)++List.range' (A.length + p.length + y.length) ((Str.join y (q :: r)).length + 1))):=by
   rw [ln,show p.length + (y.length + (Str.join y (q :: r)).length) + 1=p.length + (1 + ((y.length - 1) + ((Str.join y (q :: r)).length + 1))) by omega,← List.range'_append_1,← List.range'_append_1,← List.range'_append_1]
   rw [show A.length + p.length + 1 + (y.length - 1)=A.length + p.length + y.length by omega]
   rfl
  rw [sp,skips _ _ _ fun i hi=>.inr fun z=>?_]
  ·have hat:At x y x.length (A.length + p.length):=by
    refine ⟨by omega,?_⟩
    rw [subAt_eq,hx',← List.append_assoc,List.drop_left' (by rw [List.length_append,len_eq]),List.take_left' (len_eq y)]
    exact beq_self_eq_true _
   rw [takes (by show found.size < lim; simp only [List.length_cons] at hl; omega) (by show free≤_; omega) hat,skips _ _ _ fun i hi=>.inl ?_]
   ·have ih:=occ_join (x:=x) (lim:=lim) hy (q :: r) (A++p.cps.toList++y.cps.toList) (found.push (A.length + p.length)) (A.length + p.length + y.length) (by simp) (fun z hz=>hc z (List.mem_cons_of_mem _ hz)) (by rw [hx']; simp only [List.append_assoc])
     (by rw [List.length_append,List.length_append,len_eq,len_eq]; omega) (by rw [Array.size_push]; simp only [List.length_cons] at hl ⊢; omega)
    rw [show (A++p.cps.toList++y.cps.toList).length=A.length + p.length + y.length by rw [List.length_append,List.length_append,len_eq,len_eq]] at ih
    rw [ih,Array.toList_push,List.append_assoc]
    rfl
   ·have hi':=List.mem_range'_1.mp hi
    show i < A.length + p.length + y.length
    omega
  ·have h1:=at_first hy z
   have hi':=List.mem_range'_1.mp hi
   rw [hx',List.getElem?_append_right hi'.1,List.getElem?_append_left (by rw [len_eq]; omega)] at h1
   exact hc p List.mem_cons_self (List.mem_of_getElem? h1)
theorem parts_join {x y:Str}:∀ (parts:List Str) (A:List Nat),parts ≠ []→x.cps.toList=A++(Str.join y parts).cps.toList→partsFrom x y.length A.length (cutsOf y.length A.length parts)=parts
 | [],_,h,_=>absurd rfl h
 | [p],A,_,hx=>by
  have hx':x.cps.toList=A++p.cps.toList:=hx
  show [strSub x A.length x.length]=[p]
  congr 1
  refine str_ext ?_
  rw [strSub_toList,hx',List.drop_left,List.take_of_length_le]
  rw [← len_eq x,hx',List.length_append]
  omega
 | p :: q :: r,A,_,hx=>by
  have ej:Str.join y (p :: q :: r)=p++y++Str.join y (q :: r):=rfl
  have hx':x.cps.toList=A++(p.cps.toList++(y.cps.toList++(Str.join y (q :: r)).cps.toList)):=by
   rw [hx,ej,app_cps,app_cps,List.append_assoc]
  have ih:=parts_join (x:=x) (y:=y) (q :: r) (A++p.cps.toList++y.cps.toList) (by simp) (by rw [hx']; simp only [List.append_assoc])
  rw [show (A++p.cps.toList++y.cps.toList).length=A.length + p.length + y.length by rw [List.length_append,List.length_append,len_eq,len_eq]] at ih
  show strSub x A.length (A.length + p.length) :: partsFrom x y.length (A.length + p.length + y.length) (cutsOf y.length (A.length + p.length + y.length) (q :: r))=_
  rw [ih]
  congr 1
  refine str_ext ?_
  rw [strSub_toList,hx',List.drop_left,Nat.add_sub_cancel_left,List.take_left' (len_eq p)]
theorem split_join {y:Str} {c:Nat} {cs:List Nat} (hy:y.cps.toList=c :: cs) {parts:List Str} (hn:parts ≠ []) (hc:∀ p ∈ parts,c ∉ p.cps.toList) (hk:Builtin.Str.strKind y≤1) (hl:parts.length≤(Str.join y parts).length + 1):PySem.Txt.split (Str.join y parts) y=parts:=by
 have oc:occurrences (Str.join y parts) y 0 (Str.join y parts).length ((Str.join y parts).length + 1)=cutsOf y.length 0 parts:=by
  rw [occ_eq]
  have h:=occ_join (x:=Str.join y parts) (lim:=(Str.join y parts).length + 1) hy parts [] #[] 0 hn hc rfl (Nat.le_refl _) (by simpa using hl)
  simpa using h
 have pj:=parts_join (x:=Str.join y parts) (y:=y) parts [] hn rfl
 unfold PySem.Txt.split
 rw [oc,partsBetween_eq]
 match parts,hn,pj with
 | [p],_,_ =>
  show (if _ then [p] else if _ then [p] else _)=[p]
  split
  ·rfl
  ·rfl
 | p :: q :: r,_,pj =>
  have ej:Str.join y (p :: q :: r)=p++y++Str.join y (q :: r):=rfl
  have ln:(Str.join y (p :: q :: r)).length=p.length + y.length + (Str.join y (q :: r)).length:=by
   rw [← len_eq,ej,app_cps,app_cps,List.length_append,List.length_append,len_eq,len_eq,len_eq]
  have k1:1≤Builtin.Str.strKind (Str.join y (p :: q :: r)):=by
   unfold Builtin.Str.strKind
   split
   ·exact Nat.le_refl _
   ·split <;> omega
  rw [if_neg (by simp only [Bool.or_eq_true,decide_eq_true_eq]; omega),if_neg (by simp [cutsOf])]
  exact pj
end Tx
end L2
namespace L2
open PySem PySem.Spec PyProof.Rows
namespace Tx
open PySem.NumText PySem.W
def numT (i:Int):Str:=(toString i:String)
def dg (m:Nat):List Nat:=(Nat.toDigits 10 m).map Char.toNat
theorem numT_nat (m:Nat):(numT (m:Int)).cps.toList=dg m:=KIN.signs_num m
theorem numT_neg (m:Nat):(numT (Int.negSucc m)).cps.toList=45 :: dg (m + 1):=by
 show (Str.ofString ("-" ++ toString (m + 1))).cps.toList=_
 rw [signs_ofString]
 show ("-" ++ Nat.repr (m + 1)).toList.map Char.toNat=_
 rw [String.toList_append,List.map_append,Nat.toList_repr]
 rfl
theorem dg_digits (m:Nat):AllDigits (dg m):=fun c hc=>by
 obtain ⟨d,hd,e⟩:=List.mem_map.mp hc
 rw [← e]
 exact digit_range (Nat.isDigit_of_mem_toDigits (by decide) (by decide) hd)
theorem dg_ne (m:Nat):dg m ≠ []:=fun e=>by
 have h:=toDigits_len_ge 10 m
 rw [List.map_eq_nil_iff.mp e] at h
 exact absurd h (by decide)
theorem dg_len {m k:Nat} (hk:0 < k) (h:m < 10 ^ k):(dg m).length≤k:=by
 have:=toString_length_le (v:=(m:Int)) (by omega) hk (by exact_mod_cast h)
 have e:=numT_nat m
 rw [← e,len_eq]
 exact this
theorem dg_zero {m:Nat} (h:(dg m)[0]?=some 48):m=0:=by
 induction m using Nat.strongRecOn with
 | _ m ih =>
  by_cases hm:m < 10
  ·unfold dg at h
   rw [Nat.toDigits_of_lt_base hm] at h
   revert h
   revert hm
   revert m
   intro m _ hm h
   have:∀ d:Nat,d < 10→([Nat.digitChar d].map Char.toNat)[0]?=some 48→d=0:=by decide
   exact this m hm h
  ·have hr:m % 10 < 10:=Nat.mod_lt m (by decide)
   have t:Nat.toDigits 10 (m / 10)++Nat.toDigits 10 (m % 10)=Nat.toDigits 10 (10 * (m / 10) + m % 10):=Nat.toDigits_append_toDigits (by decide) (by omega) hr
   rw [Nat.div_add_mod] at t
   have h':(dg (m / 10))[0]?=some 48:=by
    have hl:0 < (dg (m / 10)).length:=List.length_pos_iff.mpr (dg_ne _)
    unfold dg at h
    rw [← t,List.map_append,List.getElem?_append_left (show 0 < (List.map Char.toNat (Nat.toDigits 10 (m / 10))).length from hl)] at h
    exact h
   have:=ih (m / 10) (by omega) h'
   omega
theorem starts_one {x:Str} {c:Nat}:PySem.Txt.startswith x ⟨#[c]⟩=decide (x.cps.toList[0]?=some c):=by
 unfold PySem.Txt.startswith
 rw [PySem.StrLaws.subAt_eq,List.drop_zero,Bool.eq_iff_iff]
 have hl:=len_eq x
 cases hx:x.cps.toList with
 | nil=>rw [hx] at hl; simp at hl ⊢
 | cons d r =>
  rw [hx] at hl
  simp at hl
  have:x.length=r.length + 1:=by omega
  have h2:1≤x.cps.size:=by have:x.length=x.cps.size:=rfl; omega
  simp [this,Str.length,h2]
end Tx
section
variable {X:Cx}
theorem strs_of:∀ {ys:List Str} {us:List Value},Vals (ys.map V.str) us→∃ l:List (Str × Tok),us=strValues l∧l.map (·.1)=ys
 | [],_,h=>by cases h; exact ⟨[],rfl,rfl⟩
 | y :: r,_,h=>by
  cases h with
  | cons a b =>
   obtain ⟨t,rfl⟩:=a
   obtain ⟨l,rfl,e⟩:=strs_of b
   exact ⟨(y,t) :: l,rfl,by rw [List.map_cons,e]⟩
theorem vals_strs:∀ (l:List (Str × Tok)),Vals ((l.map (·.1)).map V.str) (strValues l)
 | []=>.nil
 | (x,t) :: r=>.cons ⟨t,rfl⟩ (vals_strs r)
def rJoin (K:PySem.W.Frag):V→List V→Hp→VK→Prop:=fun x vs H Q=>∃ sep p ys,x=.str sep∧vs=[.ref p]∧SqL K H p (ys.map V.str)∧sep.length≤16∧(ys.map (·.length)).sum + ys.length≤1048576∧Q (.str (Str.join sep ys)) H
theorem mt_join:MtR X "str.join" (rJoin X.K):=by
 intro pins s σ H x vs v us Q I rx rv h
 obtain ⟨sep,p,ys,rfl,rfl,hq,hs,hw,q⟩:=h
 obtain ⟨t,rfl⟩:=rx
 obtain ⟨u,rfl,ru⟩:=rv.one
 cases ru
 obtain ⟨its,r,pl,hz⟩:=I.list hq
 obtain ⟨l,rfl,e⟩:=strs_of r
 refine PySem.SC.join pl.isList e (joinOk_of_weight hw hs) fun t' k=>⟨.str _,H,I.tok k,⟨t',?_⟩,q⟩
 show Value.str (Builtin.Str.glued sep ys) t'=_
 rw [PySem.StrLaws.glued_eq_join]
def rSplit:V→List V→Hp→VK→Prop:=fun x vs H Q=>∃ z y,x=.str z∧vs=[.str y]∧(y.length == 0)=false∧z.length + 2≤sizeLine∧∀ l,H l=none→Q (.ref l) (upd H l (.lst ((PySem.Txt.split z y).map V.str)))
theorem mt_split:MtR X "str.split" rSplit:=by
 intro pins s σ H x vs v us Q I rx rv h
 obtain ⟨z,y,rfl,rfl,hy,hz,q⟩:=h
 obtain ⟨t,rfl⟩:=rx
 obtain ⟨u,rfl,tu,rfl⟩:=rv.one
 have fin:∀ (l:List (Str × Tok)) (k:Nat),l.map (·.1)=PySem.Txt.split z y→EP X pins σ Q (.ref s.heap.objs.size) { s with toks:=k,heap:=s.heap.push { cls:=.type "list",data:=.seq (strValues l).toArray } }:=fun l k e =>
  ⟨.ref s.heap.objs.size,_,I.lnew (t':=k) (vals_strs l) (by rw [List.length_map,List.length_map]; have:=len_le_of_split e; omega),rfl,by rw [e]; exact q _ I.fresh⟩
 have many:(Builtin.Str.partsBetween z (Builtin.Str.occurrences z y 0 z.length (z.length + 1)) y.length).length≤sizeLine:=by
  have:=PySem.StrLaws.occ_length_le z y 0 z.length (z.length + 1)
  rw [length_partsBetween]
  omega
 cases c1:(decide (z.length < y.length) || decide (Builtin.Str.strKind z < Builtin.Str.strKind y)) with
 | true =>
  exact call_meets PySem.F.slot_str_split (typeIs_str _ _ _) PySem.F.entry_str_split (PySem.F.args_str_split_2 _ _) (meets_str_split_cannot_occur z y t tu c1) (fin [(z,t)] s.toks (if_pos c1).symm)
 | false =>
  cases c2:(Builtin.Str.occurrences z y 0 z.length (z.length + 1)).isEmpty with
  | true=>exact call_meets PySem.F.slot_str_split (typeIs_str _ _ _) PySem.F.entry_str_split (PySem.F.args_str_split_2 _ _) (meets_str_split_not_found z y t tu c1 hy c2) (fin [(z,t)] s.toks ((if_neg (ne_true_of_eq_false c1)).trans (if_pos c2)).symm)
  | false =>
   refine call_meets PySem.F.slot_str_split (typeIs_str _ _ _) PySem.F.entry_str_split (PySem.F.args_str_split_2 _ _) (meets_str_split_sep z y t tu c1 hy c2 (by omega) many) ?_
   have e:=fin (numbered s.toks (Builtin.Str.partsBetween z (Builtin.Str.occurrences z y 0 z.length (z.length + 1)) y.length)) (s.toks + (Builtin.Str.partsBetween z (Builtin.Str.occurrences z y 0 z.length (z.length + 1)) y.length).length) ((numbered_texts _ _).trans ((if_neg (ne_true_of_eq_false c1)).trans (if_neg (ne_true_of_eq_false c2))).symm)
   rw [← strsFrom_eq] at e
   exact e
def rStarts:V→List V→Hp→VK→Prop:=fun x vs H Q=>∃ z y,x=.str z∧vs=[.str y]∧Q (.bl (PySem.Txt.startswith z y)) H
theorem mt_starts:MtR X "str.startswith" rStarts:=by
 intro pins s σ H x vs v us Q I rx rv h
 obtain ⟨z,y,rfl,rfl,q⟩:=h
 obtain ⟨t,rfl⟩:=rx
 obtain ⟨u,rfl,tu,rfl⟩:=rv.one
 exact PySem.SC.startswith ⟨.bl _,H,I,rfl,q⟩
theorem call_intT:CallR X (.type "int") (fun xs H Q=>∃ x n,xs=[.str x]∧PySem.intText? x=some n∧x.length≤640∧Q (.int n) H):=by
 intro pins s σ H xs us Q I r h
 obtain ⟨x,n,rfl,hn,hl,q⟩:=h
 obtain ⟨u,rfl,t,rfl⟩:=vals1 r
 exact PySem.W.KIN.call_text hn hl ⟨.int n,H,I.tok _,⟨_,rfl⟩,q⟩
end
end L2
namespace L2
open PySem PySem.Spec PyProof.Rows
section
variable {prog:Program} {w:World} {A:Around} {E:Value→Shared→Prop} {s:Shared}
end
section
variable {prog:Program} {w:World} {A:Around} {R:Result→Shared→Prop} {I:Addr} {fp wr:List Addr} {n:Nat} {P:Nat→Value→Prop} {St:Nat→Heap→Prop}
end
section
variable {X:Cx}
end
theorem k_s_l (K:PySem.W.Frag):PySem.W.kitOne K (.type "str") (.type "list")=some false:=by first | rfl | kernel_rfl
theorem k_i_l (K:PySem.W.Frag):PySem.W.kitOne K (.type "int") (.type "list")=some false:=by first | rfl | kernel_rfl
theorem k_b_l (K:PySem.W.Frag):PySem.W.kitOne K (.type "bool") (.type "list")=some false:=by first | rfl | kernel_rfl
theorem k_n_l (K:PySem.W.Frag):PySem.W.kitOne K (.type "NoneType") (.type "list")=some false:=by first | rfl | kernel_rfl
theorem k_t_l (K:PySem.W.Frag):PySem.W.kitOne K (.type "tuple") (.type "list")=some false:=by first | rfl | kernel_rfl
end L2
namespace L2
open PySem PySem.Spec PyProof.Rows
section
variable {prog:Program} {w:World} {A:Around} {R:Result→Shared→Prop} {I:Addr} {fp wr:List Addr} {n:Nat} {P:Nat→Value→Prop} {St:Nat→Heap→Prop}
end
section
variable {X:Cx}
end
end L2
namespace L2
open PySem PySem.Spec PyProof.Rows
section
variable {prog:Program} {w:World} {A:Around} {E:Value→Shared→Prop} {s:Shared} {r:Addr}
end
section
variable {X:Cx}
end
end L2
namespace L2
open PySem PySem.Spec PyProof.Rows
section
variable {prog:Program} {w:World} {A:Around} {E:Value→Shared→Prop}
theorem draw_list {it t:Addr} {items:Array Value} (hne:t ≠ it):∀ (n i:Nat) (s:Shared) (Q:List Value→Shared→Prop),s.heap.IsListIter it t i→s.heap.IsList t items→i + n≤items.size →
  (∀ h',h'.IsListIter it t (i + n)→Heap.SameBut it s.heap h'→Q ((items.toList.drop i).take n) { s with heap:=h' })→wpAny (model prog w) A (draw (.ref it) n) Q E s
 | 0,i,s,Q,hit,_,_,hQ=>by
  show wpAny _ _ (pure []) Q E s
  exact wpAny_pure (by simpa using hQ s.heap hit (Heap.SameBut.refl ..))
 | n + 1,i,s,Q,hit,ht,hle,hQ=>by
  have hlt:i < items.size:=by omega
  show wpAny _ _ (pyNext (.ref it) >>= _) Q E s
  refine wpAny_bind (wpAny_pyNext_list_item hit ht (x:=items[i]) (by simp [hlt]) fun h₁ hit₁ hs₁=>?_)
  refine wpAny_bind (wpAny_holding (draw_list hne n (i + 1) _ _ hit₁ (ht.at fun o e=>(hs₁.2 t hne).trans e) (by omega) fun h₂ hit₂ hs₂=>wpAny_pure ?_))
  have hd:items.toList.drop i=items[i] :: items.toList.drop (i + 1):=by simp [List.drop_eq_getElem_cons,hlt]
  have:=hQ h₂ (by rw [show i + (n + 1)=i + 1 + n by omega]; exact hit₂) (hs₁.trans hs₂)
  rw [hd,List.take_succ_cons] at this
  exact this
theorem unpackItems_list {s:Shared} {t:Addr} {items:Array Value} {Q:List Value→Shared→Prop} (hh:A.handled=none) (ht:s.heap.IsList t items)
  (hQ:∀ h',Heap.ExtBut s.heap.objs.size s.heap h'→Q items.toList { s with heap:=h' }):wpAny (model prog w) A (unpackItems (.ref t) items.size none) Q E s:=by
 have hlt:t ≠ s.heap.objs.size:=by obtain ⟨o,ho,_⟩:=ht; exact Nat.ne_of_lt (Heap.lt_size ho)
 unfold unpackItems
 refine wpAny_bind ?_
 ·unfold notIterableAtAll
  refine wpAny_bind (wpAny_specialOf ht.typeIs slot_list_iter.lookup ?_)
  refine wpAny_pure ?_
  simp only [Bool.false_eq_true,if_false]
  refine wpAny_bind (wpAny_holding (wpAny_pyIter_list ht ?_))
  refine wpAny_bind (wpAny_holding (draw_list hlt items.size 0 _ _ ⟨_,Heap.get?_push_size _ rfl,rfl,rfl⟩ (ht.push _) (by omega) fun h₁ hit₁ hs₁=>?_))
  have hall:List.take items.size (List.drop 0 items.toList)=items.toList:=by
   rw [List.drop_zero]; exact List.take_of_length_le (by simp)
  rw [hall]
  rw [if_neg (by simp)]
  have ht₁:h₁.IsList t items:=(ht.push _).at fun o e=>(hs₁.2 t hlt).trans e
  refine wpAny_bind (wpAny_holding (wpAny_pyNext_list_end hh hit₁ ht₁ (by simp) fun h₂ he₂=>?_))
  simp only [Option.isSome_none,Bool.false_eq_true,if_false]
  refine wpAny_pure (hQ h₂ fun b o hb e=>he₂ b o hb (hs₁.extBut b o hb (Heap.get?_push_of_some _ e)))
theorem assign_Tuple_list {s:Shared} {env:Env} {elts:List Expr} {x1} {pos:Pos} {t:Addr} {items:Array Value} {Q:Unit→Shared→Prop} (hh:A.handled=none) (ht:s.heap.IsList t items)
  (hn:(assignEach elts env).length=items.size) (hstar:(assignEach elts env).findIdx? (·.1)=none)
  (h:∀ h',Heap.ExtBut s.heap.objs.size s.heap h'→wpAny (model prog w) A (assignInOrder ((assignEach elts env).map (·.2)) items.toList) Q E { s with heap:=h' }) :
  wpAny (model prog w) A (assign (.Tuple elts x1 pos) env (.ref t)) Q E s:=by
 rw [assign_Tuple]
 refine wpAny_bind (wpAny_standAt ?_)
 unfold unpack
 rw [hn,hstar]
 exact wpAny_bind (wpAny_holding (unpackItems_list hh ht h))
end
def gLst (K:PySem.W.Frag) (n:Nat) (t:TGs):TG:=fun v σ H Q=>∃ a xs,v=.ref a∧SqL K H a xs∧xs.length=n∧t xs σ H Q
theorem pg_lst {X:Cx} {es:List Expr} {k:Nat} {t:TGs} {n:Nat} {pos:Pos} (hc:X.calm=true) (h:PGs X es t)
  (hn:(assignEach es X.env).length=n:=by rfl) (hst:(assignEach es X.env).findIdx? (·.1)=none:=by rfl):PG X (.Tuple es k pos) (gLst X.K n t):=by
 intro pins s σ H v u Q I r hw
 obtain ⟨a,xs,e1,hq,hl,hw⟩:=hw
 subst e1
 cases r
 obtain ⟨its,rv,ht,hz⟩:=I.list hq
 refine assign_Tuple_list (I.ok.hd hc) ht.isList (by simp [hn,← hl,rv.length]) hst fun h' hx=>?_
 have I1:Inv X pins σ H { s with heap:=h' }:=I.kept (t':=s.toks) fun b o e=>hx b o (Nat.ne_of_lt (Heap.lt_size e)) e
 exact h pins _ σ H xs _ Q I1 (by simpa using rv) hw
end L2
namespace L2
open PySem PySem.Spec PyProof.Rows
theorem call_isinstK {X:Cx} (K:PySem.W.Frag) (hK:X.K=K):CallR X (.builtin "isinstance") (fun xs H Q=>∃ x T t b,xs=[x,.ty T]∧TyOf K H x t∧PySem.W.kitOne K t (.type T)=some b∧Q (.bl b) H):=by
 subst hK
 exact call_isinst
end L2
namespace L2
open PySem PySem.Spec PyProof.Rows
section
variable {X:Cx}
end
end L2
namespace L2
open PySem PySem.Spec PyProof.Rows
section
variable {M:Model} {A:Around} {E:Value→Shared→Prop} {s₀ s:Shared} {m cm:Str→Option Value} {env:Env}
theorem bindParams_tok (f:Str × Value→PUnit→Sem (ForInStep PUnit)) (hf:∀ n v u,f (n,v) u=(do storeName env n v; pure (.yield ⟨⟩))) (hk:env.scope.kind=.function) {n:Str} {v:Value} {r:List (Str × Value)} {Q:PUnit→Shared→Prop}
  (x:InCallC s₀ env.locals m env.cells cm s) (hl:env.kindOf n=some .local) (hr:∀ y ∈ r,env.kindOf y.1=some .local ∨ (env.kindOf y.1=some .cell∧(env.cells.lookup y.1).isSome=true))
  (h:∀ s',0 < s'.toks→InCallC s₀ env.locals (bindL env.kindOf ((n,v) :: r) m) env.cells (bindC env.kindOf ((n,v) :: r) cm) s'→Q ⟨⟩ s'):wpAny M A (forIn ((n,v) :: r) ⟨⟩ f) Q E s:=by
 rw [List.forIn_cons,hf]
 refine wpAny_bind (wpAny_bind (wpAny_storeName_local hl x.toInCall.ns (fun h' hn' hs'=>?_) (by rw [hk]; rfl)))
 have x':InCallC s₀ env.locals (fun y=>if y=n then some v else m y) env.cells cm { s with heap:=h',toks:=s.toks + 1 }:=by
  refine ⟨⟨?_,hn',fun b o e=>?_,x.toInCall.fresh⟩,fun k c hc=>?_,x.apart,x.above⟩
  ·obtain ⟨h₁,tk,rfl⟩:=x.toInCall.same
   exact ⟨h',_,rfl⟩
  ·exact hs'.extBut b o (Nat.ne_of_lt (Nat.lt_of_lt_of_le (Heap.lt_size e) x.toInCall.fresh)) (x.toInCall.keep b o e)
  ·exact (x.cell k c hc).sameBut hs' (Nat.ne_of_gt (x.above k c (mem_of_lookup hc)))
 have w:=wpAny_toks_of (M:=M) (A:=A) (n:=1) (s:={ s with heap:=h',toks:=s.toks + 1 }) (Nat.succ_le_succ (Nat.zero_le _))
  (wpAny_bindParams (E:=E) f hf hk r _ _ _ (fun _ s''=>InCallC s₀ env.locals (bindL env.kindOf r fun y=>if y=n then some v else m y) env.cells (bindC env.kindOf r cm) s'') x' hr fun s'' x''=>x'')
 refine wpAny_pure (wpAny_mono w (fun _ s'' q=>h s'' q.1 ?_) fun _ _ q=>q.2)
 unfold bindL bindC
 rw [if_pos hl,if_pos hl]
 exact q.2
theorem newEnv_tok {scope:Scope} {globals:Addr} {n:Str} {v:Value} {r:List (Str × Value)} {qual:Str} {func:Option Addr} {code:Value} {builtins:Addr} {Q:Env→Shared→Prop}
  (hk:scope.kind=.function) (hl:scope.names.lookup n=some .local)
  (hkind:∀ x ∈ r,scope.names.lookup x.1=some .local ∨ (scope.names.lookup x.1=some .cell∧((cellsFrom (s.heap.objs.size + 1) scope.names []).lookup x.1).isSome=true))
  (hQ:∀ env,env=newEnv scope s.heap.objs.size globals (cellsFrom (s.heap.objs.size + 1) scope.names []) qual func code none builtins →
   ∀ s',0 < s'.toks→InCallC s env.locals (bindL env.kindOf ((n,v) :: r) fun _=>none) env.cells (bindC env.kindOf ((n,v) :: r) fun _=>none) s'→Q env s') :
  wpAny M A (newFunctionEnv scope globals [] ((n,v) :: r) qual func code none builtins) Q E s:=by
 simp only [newFunctionEnv,Option.isSome_none,Bool.false_eq_true,if_false]
 refine wpAny_bind (wpAny_alloc ?_)
 refine wpAny_bind (wpAny_layCells _ (fun name kind cells=>by cases hkc:kind == NameKind.cell <;> simp [hkc]) _ _ _ _ ?_)
 have ok:=cellsFrom_ok scope.names (s.heap.push { cls:=.type "frame",data:=.dict #[] }) (s.heap.objs.size + 1) [] ⟨fun _ _ hm=>(nomatch hm),List.Pairwise.nil⟩ (by rw [Heap.size_push]; exact Nat.le_refl _)
 rw [Heap.size_push] at ok
 rw [show ({ s with heap:=s.heap.push { cls:=.type "frame",data:=.dict #[] } }:Shared).heap.objs.size=s.heap.objs.size + 1 from Heap.size_push ..]
 refine wpAny_bind (bindParams_tok (s₀:=s) (env:=newEnv scope s.heap.objs.size globals (cellsFrom (s.heap.objs.size + 1) scope.names []) qual func code none builtins)
  _ (fun _ _ _=>rfl) hk (m:=fun _=>none) (cm:=fun _=>none)
  ⟨⟨⟨_,_,rfl⟩,(Heap.Ns.new s.heap (.type "frame")).keeps (pushCells_keeps _ _),fun b o e=>pushCells_keeps _ _ b o (Heap.get?_push_of_some _ e),Nat.le_refl _⟩,
   fun n c hc=>(ok.empty n c (mem_of_lookup hc)).1,ok.apart,fun n c hm=>(ok.empty n c hm).2⟩
  hl hkind fun s' tk x=>wpAny_pure (hQ _ rfl s' tk x))
end
theorem fn_ofT {CX:CXT} {P:Program} {w:World} {K:PySem.W.Frag} {mg:Str→Option Value} {base:Heap} {k:Nat} {f:Addr} {name qual:Str} {params:Arguments} {body:List Stmt} {scope:Scope} {dV kV doc pm cdv ct oc:Value} {an od:Option Addr}
  {osl:Array (Option Value)} {N:List Str} {p:Str} {sp:Sp} (lk:K.lookup f=some ⟨oc,od,.func (PySem.W.fnOf name qual params body scope dV kV doc pm an cdv ct),osl⟩) (hcd:PySem.W.codeIn K cdv qual=true) (S:FnScope N [p] scope)
  (hloc:scope.names.lookup p=some .local)
  (len:∀ vs H Q E,sp vs H Q E→vs.length=1)
  (hbody:∀ (A:Around) (outer:List Env) (s:Shared) (H:Hp) (vs:List V) (Q:VK) (E:XK),Room k (A.deeper (envOfC qual scope s.heap.objs.size f cdv))→sp vs H Q E →
   ∀ s1,0 < s1.toks→Inv (cxOf CX P w K mg base N qual scope f cdv A outer s H E) [] (start N vs) H s1 →
    wpAny (model P w) (cxOf CX P w K mg base N qual scope f cdv A outer s H E).A (execs body (cxOf CX P w K mg base N qual scope f cdv A outer s H E).env) (SP (cxOf CX P w K mg base N qual scope f cdv A outer s H E) [] { nx:=fun _ H'=>Q .non H',rt:=Q }) (cxOf CX P w K mg base N qual scope f cdv A outer s H E).xe s1) :
  FnOk P w K mg base CX (k + 1) f (PySem.W.fnOf name qual params body scope dV kV doc pm an cdv ct) [p] sp:=by
 refine ⟨len,fun A outer s H args us vs Q E hr e0 hb r hsp=>?_⟩
 have hl:=len _ _ _ _ hsp
 have KX:K.In s.heap:=e0.mod.kin.keeps fun b o e=>(e0.bs b o e).1
 have lim:s.heap.NoLimit:=e0.mod.nolimit.keeps fun b o e=>(e0.bs b o e).1
 obtain ⟨u,rfl⟩:∃ u,us=[u]:=by
  have h1:us.length=1:=by rw [← r.length]; exact hl
  match us,h1 with
  | [u],_=>exact ⟨u,rfl⟩
 refine codeAny_call_function hr.depth (KX _ _ lk) rfl S.co S.gen rfl (PySem.W.codeRec_of KX hcd) (hb _ _ _ _ ?_)
 refine newEnv_tok (n:=p) (v:=u) (r:=[]) S.kind hloc (fun _ z=>nomatch z) fun env he s1 tk x=>?_
 subst he
 refine ⟨lim.keeps x.toInCall.keep,codeAny_func ?_⟩
 have I:Inv (cxOf CX P w K mg base N qual scope f cdv A outer s H E) [] (start N vs) H s1:=inv_start S hr.hd e0 hl r x
 refine wpAny_mono (hbody A outer s H vs Q E (hr.deeper _) hsp s1 tk I) (fun fl s' hs=>?_) fun e s' hs=>hs
 have fin:∀ {σ':St} {H':Hp} {v:V} {u:Value},Inv (cxOf CX P w K mg base N qual scope f cdv A outer s H E) [] σ' H' s'→RelV v u→Q v H'→CE outer P w H s Q u s' :=
  fun {σ' H' v u} J rv q=>⟨v,H',J.os,J.bare,J.base,J.hok,rv,q⟩
 cases fl with
 | ret u =>
  obtain ⟨v,σ',H',J,rv,q⟩:=hs
  exact fin J rv q
 | next =>
  obtain ⟨σ',H',J,q⟩:=hs
  exact fin (v:=V.non) (u:=Value.none) J rfl q
 | brk =>
  obtain ⟨_,_,_,q⟩:=hs
  exact False.elim q
 | cont =>
  obtain ⟨_,_,_,q⟩:=hs
  exact False.elim q
section
variable {X:Cx}
end
theorem Fun.okT {P:Program} {w:World} {K:PySem.W.Frag} {mg:Str→Option Value} {base:Heap} {x qual:Str} {st:Stmt} {f:Addr} {fd:FuncData} {N:List Str} {p:Str} {k:Nat} {sp:Sp} (F:Fun K x qual st f fd) (S:FnScope N [p] (defScope st))
  (hloc:(defScope st).names.lookup p=some .local) (len:∀ vs H Q E,sp vs H Q E→vs.length=1)
  (hbody:∀ (cdv:Value) (A:Around) (outer:List Env) (s:Shared) (H:Hp) (vs:List V) (Q:VK) (E:XK),Room k (A.deeper (envOfC qual (defScope st) s.heap.objs.size f cdv))→sp vs H Q E →
   ∀ s1,0 < s1.toks→Inv (cxOf CX0 P w K mg base N qual (defScope st) f cdv A outer s H E) [] (start N vs) H s1 →
    wpAny (model P w) (cxOf CX0 P w K mg base N qual (defScope st) f cdv A outer s H E).A (execs (defBody st) (cxOf CX0 P w K mg base N qual (defScope st) f cdv A outer s H E).env) (SP (cxOf CX0 P w K mg base N qual (defScope st) f cdv A outer s H E) [] { nx:=fun _ H'=>Q .non H',rt:=Q }) (cxOf CX0 P w K mg base N qual (defScope st) f cdv A outer s H E).xe s1) :
  FnOk P w K mg base CX0 (k + 1) f fd [p] sp:=by
 obtain ⟨oc,od,kV,doc,pm,an,cdv,ct,osl,rfl,lk,hcd⟩:=F.ex
 exact fn_ofT lk hcd S hloc len fun A outer s H vs Q E hr hsp=>hbody cdv A outer s H vs Q E hr hsp
end L2
namespace L2
open PySem PySem.Spec PyProof.Rows
section
variable {X:Cx}
end
section
variable {X:Cx}
end
end L2
namespace L2
open PySem PySem.Spec PyProof.Rows
section
variable {X:Cx} {pins:List (Addr × Obj)} {σ:St} {H:Hp} {s:Shared}
def Holds (X:Cx) (x:Str) (u:Value) (s:Shared):Prop:=∃ m,s.heap.Ns X.env.locals m∧m x=some u
theorem store_okH {M:Model} {A:Around} {E:Value→Shared→Prop} {i:Nat} {x:Str} {v:V} {u:Value} {Q:Unit→Shared→Prop} (I:Inv X pins σ H s) (hN:X.N.Nodup) (hi:X.N[i]?=some x) (hk:X.env.kindOf x=some .local) (r:RelV v u)
  (h:∀ s',Inv X pins (σ.set i (some v)) H s'→Holds X x u s'→s.toks≤s'.toks→Q () s'):wpAny M A (storeName X.env x u) Q E s:=by
 obtain ⟨m,hn,hl⟩:=id I.loc
 have hcls:(X.env.scope.kind == .class || (X.env.scope.kind == .module && X.env.locals != X.env.globals))=false:=by rw [I.ok.kind]; rfl
 have hiσ:i < σ.length:=by rw [I.len]; exact (List.getElem?_eq_some_iff.mp hi).1
 have cne:=I.cne
 have tracked:∀ {a:Addr} {h':Heap},(∃ o,s.heap.get? a=some o∧H a=none)→Heap.SameBut a s.heap h'→HOk X.prog X.w H h':=fun {a h'} ha hs b ob e=>by
  obtain ⟨_,_,hfree⟩:=ha
  refine (I.hok b ob e).stay (fun c w' hc q=>(hs.2 c ?_).trans q) (fun _ q=>q) fun _ _ q=>q
  rintro rfl
  rcases hc with rfl | hc
  ·rw [hfree] at e; cases e
  ·rw [hfree] at hc; cases hc
 refine wpAny_storeName_local hk hn (fun h' hn' hs=>?_) hcls
 obtain ⟨oL,_,_,hoL,_⟩:=id hn
 refine h _ ⟨I.ok,I.os,I.bare,⟨fun b o e n hb hx=>?_,fun b o e n hb hx=>?_,I.base.free,fun b o e hx=>?_,I.base.tups,I.base.frzs,I.base.tbls⟩,⟨_,hn',fun j y v' e1 e2 e3=>?_⟩,fun y c e=>?_,I.free,I.freeC,fun p hp=>?_,tracked ⟨oL,hoL,I.free⟩ hs,by simpa using I.len⟩ ⟨_,hn',by simp⟩ (Nat.le_succ _)
 ·exact (hs.2 b (Nat.ne_of_lt (Nat.lt_of_lt_of_le (Heap.lt_size e) I.ok.above))).trans (I.base.keep b o e n hb hx)
 ·obtain ⟨sl,e1⟩:=I.base.slot b o e n hb hx
  exact ⟨sl,(hs.2 b (Nat.ne_of_lt (Nat.lt_of_lt_of_le (Heap.lt_size e) I.ok.above))).trans e1⟩
 ·obtain ⟨o',e1⟩:=I.base.there b o e hx
  exact ⟨o',(hs.2 b (Nat.ne_of_lt (Nat.lt_of_lt_of_le (Heap.lt_size e) I.ok.above))).trans e1⟩
 ·by_cases hj:j=i
  ·subst hj
   rw [hi] at e1; cases e1
   rw [List.getElem?_set_self hiσ] at e2
   cases e2
   exact ⟨u,r,.inl ⟨hk,by simp⟩⟩
  ·rw [List.getElem?_set_ne (Ne.symm hj)] at e2
   obtain ⟨u',r',q⟩:=hl j y v' e1 e2 e3
   refine ⟨u',r',?_⟩
   rcases q with ⟨k,e⟩ | ⟨k,c,e,z⟩
   ·refine .inl ⟨k,?_⟩
    have:y ≠ x:=fun e=>hj (nodup_ix hN e1 (e ▸ hi))
    simp [this,e]
   ·exact .inr ⟨k,c,e,z.sameBut hs (cne y c e)⟩
 ·obtain ⟨w',z⟩:=I.cell y c e
  exact ⟨w',z.sameBut hs (cne y c e)⟩
 ·obtain ⟨e,n,ne,nf,d⟩:=I.pin p hp
  exact ⟨(hs.2 p.1 ne).trans e,n,ne,nf,d⟩
theorem var_raw {E:Value→Shared→Prop} {i:Nat} {x:Str} {v:V} {pos:Pos} (I:Inv X pins σ H s) (hN:X.N[i]?=some x) (hk:X.env.kindOf x=some .local) (e:σ[i]?=some (some v)) {Q:Value→Shared→Prop} (h:∀ u,RelV v u→Q u s)
  (hd:(x == ("__debug__" : Str))=false:=by decide):wpAny (model X.prog X.w) X.A (eval (.Name x pos) X.env) Q E s:=by
 obtain ⟨m,hn,hl⟩:=I.loc
 obtain ⟨u,r,l⟩:=hl i x v hN e (.inl hk)
 rcases l with ⟨_,hm⟩ | ⟨hk',_⟩
 ·exact wpAny_Name (wpAny_loadName_local I.ok.kind hk hn hm (h u r)) hd
 ·rw [hk] at hk'
  rcases hk' with z | z <;> cases z
theorem held_raw {E:Value→Shared→Prop} {x:Str} {u:Value} {pos:Pos} (ok:X.Ok) (hk:X.env.kindOf x=some .local) (hh:Holds X x u s) {Q:Value→Shared→Prop} (h:Q u s)
  (hd:(x == ("__debug__" : Str))=false:=by decide):wpAny (model X.prog X.w) X.A (eval (.Name x pos) X.env) Q E s:=by
 obtain ⟨m,hn,hm⟩:=hh
 exact wpAny_Name (wpAny_loadName_local ok.kind hk hn hm h) hd
def PJT (X:Cx) (es:List Expr) (t:St→Hp→(Str→Hp→Prop)→Prop):Prop :=
 ∀ (out:Str) (pins:List (Addr × Obj)) (s:Shared) (σ:St) (H:Hp) (n:Nat) (R:Str→Hp→Prop),n≤s.toks→out.length + 100000 * es.length≤sizeLine→Inv X pins σ H s→t σ H (fun y H1=>R (out++y) H1) →
  wpAny (model X.prog X.w) X.A (joinParts out (evalEach es X.env)) (fun v s'=>∃ y t' H',v=.str y t'∧n≤t'∧Inv X pins σ H' s'∧R y H') X.xe s
theorem pjt_nil:PJT X [] tJNil:=fun out pins s σ H n R hn hz I h=>by
 have h':R out H:=by have z:R (out++Str.empty) H:=h; rw [str_app_nil] at z; exact z
 exact joinParts_nil ⟨out,_,H,rfl,hn,I.tok _,h'⟩ (by simp only [List.length_nil] at hz; omega)
theorem pjt_cons {e:Expr} {es:List Expr} {te:TE} {t:St→Hp→(Str→Hp→Prop)→Prop} (he:PE X e te) (hr:PJT X es t):PJT X (e :: es) (tJCons te t):=fun out pins s σ H n R hn hz I h=>by
 have ee:evalEach (e :: es) X.env=eval e X.env :: evalEach es X.env:=rfl
 rw [ee]
 refine joinParts_cons (wpAny_mono (wpAny_toks_of hn (he pins s σ H _ I h)) (fun v s1 ⟨n1,x,H1,I1,r1,y,ey,hy,q⟩=>?_) fun _ _ z=>z.2)
 subst ey
 obtain ⟨t0,rfl⟩:=r1
 rw [List.length_cons] at hz
 have hl:=str_len_app out y
 refine ⟨by omega,hr (out++y) pins s1 σ H1 n R n1 (by omega) I1 ?_⟩
 simp only [str_app_assoc]
 exact q
theorem sr_repl {i:Nat} {x y:Str} {es:List Expr} {e1 e2:Expr} {t:St→Hp→(Str→Hp→Prop)→Prop} {jp xp yp yp' apos cpos pos:Pos} {c z:Str} {tk:Tok} {D:Ends}
  (hN:X.N.Nodup) (hi:X.N[i]?=some y) (hyk:X.env.kindOf y=some .local) (hxk:X.env.kindOf x=some .local) (hy:Loc X.env.scope y) (hj:PJT X (e1 :: e2 :: es) t) (hn:es.length≤100)
  (I:Inv X pins σ H s) (hh:Holds X x (.str c tk) s) (h0:0 < tk) (h1:tk < s.toks) (hz:σ[i]?=some (some (.str z)))
  (h:t σ H fun w H1=>(c == w)=false∧z.length + (z.length + 1) * w.length≤16777216∧D.nx (σ.set i (some (.str (PySem.Txt.replace z c w)))) H1)
  (hd:(x == ("__debug__" : Str))=false:=by decide) (hdy:(y == ("__debug__" : Str))=false:=by decide)
  (hbase:attributeBase (.Name y yp) "replace" X.env (eval (.Name y yp) X.env)=eval (.Name y yp) X.env:=by rfl)
  (hfew:((backTo cpos (starEach [.Name x xp,.JoinedStr (e1 :: e2 :: es) jp] X.env)).all (fun x=>!x.1) && (backToKw cpos (keywordEach [] X.env)).all (fun x=>x.1.isSome)
   && decide (([.Name x xp,.JoinedStr (e1 :: e2 :: es) jp]:List Expr).length + ([]:List Keyword).length + (if ([]:List Keyword).isEmpty then 0 else 1) < 30))=true:=by rfl)
  (hline:(apos.endLine == cpos.line)=true:=by rfl)
  (hs:swapsWith (.Call (.Attribute (.Name y yp) "replace" apos) [.Name x xp,.JoinedStr (e1 :: e2 :: es) jp] [] cpos) (some (.Name y yp')) pos.line X.env=pure false:=by rfl)
  (hf:X.fn y=true ∨ X.env.scope.names.lookup y=some .local:=by first | exact .inl rfl | exact .inr rfl | assumption) :
  wpAny (model X.prog X.w) X.A (execs [.Assign [.Name y yp'] (.Call (.Attribute (.Name y yp) "replace" apos) [.Name x xp,.JoinedStr (e1 :: e2 :: es) jp] [] cpos) pos] X.env) (SP X pins D) X.xe s:=by
 refine wpAny_execs_cons (wpAny_Assign_Name (wpAny_Call_method_late hbase hfew hline rfl (var_raw I hi hyk hz (fun u ru=>?_) hdy)) hs)
 obtain ⟨t0,rfl⟩:=ru
 refine ⟨"str","str.replace",PySem.F.plainAttrs_str,PySem.F.slot_str_replace,PySem.F.type_str_replace,typeIs_str _ _ _,?_,?_⟩
 ·exact (tyV_is (X:=X) (T := "str") I (x:=.str z) ⟨t0,rfl⟩ (by first | exact rfl | exact .inr rfl | trivial)).2
 ·refine Calls.callWith_builtin (by rfl) (Calls.evalArgs_plain (Calls.spliced_cons (held_raw I.ok hxk hh (Calls.spliced_cons ?_) hd)))
  refine JoinedStr_many (pos:=jp) (wpAny_mono (hj Str.empty pins s σ H s.toks (fun w H1=>(c == w)=false∧z.length + (z.length + 1) * w.length≤16777216∧D.nx (σ.set i (some (.str (PySem.Txt.replace z c w)))) H1) (Nat.le_refl _) ?_ I ?_) (fun v s1 hv=>?_) fun _ _ z=>z)
  ·show 0 + 100000 * (es.length + 1 + 1)≤2 ^ 24
   omega
  ·simp only [str_nil_app]
   exact h
  ·obtain ⟨w,t',H',rfl,ht',I',q1,q2,q3⟩:=hv
   refine Calls.spliced_nil ?_
   refine PySem.SC.replace (Nat.ne_of_gt h0) (Nat.ne_of_gt (Nat.lt_of_lt_of_le (Nat.lt_trans h0 h1) ht')) (Nat.ne_of_lt (Nat.lt_of_lt_of_le h1 ht')) q1 q2 fun t2 k=>?_
   exact store_ok (v:=.str (PySem.Txt.replace z c w)) (I'.tok k) hN hi hy ⟨t2,rfl⟩ (fun s2 I2=>wpAny_execs_nil ⟨_,H',I2,q3⟩) hf
theorem pst_forS {i:Nat} {x:Str} {iter:Expr} {body rest:List Stmt} {tl:TE} {tb:Nat→Ends→St→Hp→Prop} {u:TS} {tp pos:Pos} {D:Ends} (hp:PassesOwn (model X.prog X.w) X.A X.env X.xe) (hc:X.calm=true) (hN:X.N.Nodup) (hi:X.N[i]?=some x) (hxk:X.env.kindOf x=some .local) (hl:PE X iter tl)
  (hb:∀ (pins:List (Addr × Obj)) (s:Shared) (σ:St) (H:Hp) (D:Ends) (c:Nat) (tk:Tok),Inv X pins σ H s→Holds X x (.str ⟨#[c]⟩ tk) s→0 < tk→tk < s.toks→tb c D σ H→wpAny (model X.prog X.w) X.A (execs body X.env) (SP X pins D) X.xe s)
  (hr:PSs X rest u) (h0:0 < s.toks) (I:Inv X pins σ H s)
  (h:tl σ H fun v H1=>∃ z:Str,v=.str z∧z.cps.all (· < 128)=true∧∃ Pv:Nat→St→Hp→Prop,Pv 0 σ H1∧(∀ j c σ' H',z.cps[j]?=some c→Pv j σ' H'→tb c { D with nx:=Pv (j + 1),ct:=Pv (j + 1),bk:=fun _ _=>False } (σ'.set i (some (.str ⟨#[c]⟩))) H')∧∀ σ' H',Pv z.cps.size σ' H'→u D σ' H')
  (hs:∀ x,foldedSetIterable iter X.env x=pure x:=by intro _; rfl) :
  wpAny (model X.prog X.w) X.A (execs (.For (.Name x tp) iter body [] pos :: rest) X.env) (SP X pins D) X.xe s:=by
 refine wpAny_execs_cons (wpAny_For (wpAny_mono (wpAny_toks_of (n:=1) h0 (hl pins s σ H _ I h)) (fun v s1 ⟨t1,y,H1,I1,r1,z,ez,ha,Pv,p0,pst,pend⟩=>?_) fun _ _ z=>z.2) hs)
 subst ez
 obtain ⟨t0,rfl⟩:=r1
 refine wpAny_pyIter_ascii ha ?_
 have T:=turn_str (P:=X.prog) (w:=X.w) (K:=X.K) (tg:=.Name x tp) s1.heap.objs.size z t0
 have f2:∀ b ∈ [s1.heap.objs.size],FpOk X pins H1 b:=fun b hb=>by
  have e:b=s1.heap.objs.size:=by simpa using hb
  subst e
  exact I1.fpOk (Nat.le_refl _) (I1.hok.fresh (Nat.le_refl _))
 have stat:∀ {H':Hp},(∀ b ∈ [s1.heap.objs.size],H' b=none)→∀ b ∈ [s1.heap.objs.size],FpOk X pins H' b:=fun hn b hb=>⟨hn b hb,(f2 b hb).2⟩
 refine codeAny_forLoop_any (fun n s'=>∃ j σ' H',Inv X pins σ' H' s'∧s'.heap.IsStrIter s1.heap.objs.size "str_ascii_iterator" z t0 j∧(∀ b ∈ [s1.heap.objs.size],H' b=none)∧1≤s'.toks∧j≤z.cps.size∧n=z.cps.size - j∧Pv j σ' H') ?_ z.cps.size
  ⟨0,σ,H1,I1.kept (t':=s1.toks) fun b o e=>Heap.get?_push_of_some _ e,⟨_,Heap.get?_push_size _ rfl,rfl,rfl⟩,fun b hb=>(f2 b hb).1,t1,Nat.zero_le _,rfl,p0⟩
 rintro n s3 ⟨j,σ3,H3,I3,st3,fr3,t3,hj,rfl,p3⟩
 by_cases he:j=z.cps.size
 ·subst he
  refine wpAny_passesOwn hp (thn (T.done X rfl rfl rfl hc _ pins s3 σ3 H3 X.xe I3 (stat fr3) (.inl st3) rfl) fun r s4 ⟨hr',I4⟩=>?_)
  subst hr'
  exact wpAny_execs_nil (hr pins s4 σ3 H3 D I4 (pend _ _ p3))
 ·have hlt:j < z.cps.size:=by omega
  have hz:z.cps[j]?=some z.cps[j]:=Array.getElem?_eq_getElem hlt
  obtain ⟨g0,g1,g2,g3,g4,g5⟩:=stat fr3 _ List.mem_cons_self
  refine wpAny_passesOwn hp (wpAny_pyNext_ascii_item st3 hz fun h' st4 k4=>?_)
  have I4:Inv X pins σ3 H3 { s3 with heap:=h',toks:=s3.toks + 1 }:=I3.turned (t':=s3.toks + 1) (fun b o hb e=>k4.extBut b o (by simpa using hb) e) g0 g1 g3 g4 g5
  refine wpAny_passesOwn hp (StrAt.go (s:={ s3 with heap:=h',toks:=s3.toks + 1 }) (.inl st4) ?_)
  have I4':=I4.pinned (stat fr3) (T.obj _ _ (.inl st4))
  refine wpAny_passesOwn hp (wpAny_assign_Name (store_okH (v:=.str ⟨#[z.cps[j]]⟩) I4' hN hi hxk ⟨_,rfl⟩ fun s5 I5 hh5 t5=>?_))
  refine wpAny_passesOwn hp (wpAny_mono (wpAny_toks_of (n:=1) (Nat.le_trans t3 (Nat.le_trans (Nat.le_succ _) t5)) (hb _ s5 _ _ _ _ _ I5 hh5 t3 t5 (pst j _ σ3 H3 hz p3))) (fun f s7 ⟨t7,q7⟩=>?_) fun _ _ z=>z.2)
  have again:∀ {σ7:St} {H7:Hp},Inv X (pins++pinsAt [s1.heap.objs.size] h') σ7 H7 s7→Pv (j + 1) σ7 H7→1≤s7.toks→∃ m,m < z.cps.size - j∧∃ j σ' H',Inv X pins σ' H' s7∧s7.heap.IsStrIter s1.heap.objs.size "str_ascii_iterator" z t0 j∧(∀ b ∈ [s1.heap.objs.size],H' b=none)∧1≤s7.toks∧j≤z.cps.size∧m=z.cps.size - j∧Pv j σ' H':=fun {σ7 H7} I7 n7 t7=>by
   have kk:∀ b ∈ [s1.heap.objs.size],∀ o,h'.get? b=some o→s7.heap.get? b=some o∧H7 b=none:=fun b hb o e =>
    ⟨(I7.pin (b,o) (List.mem_append_right _ (List.mem_append_right _ (mem_pinsAt hb e)))).1,(I7.pin (b,o) (List.mem_append_right _ (List.mem_append_right _ (mem_pinsAt hb e)))).2.1⟩
   obtain ⟨o,e,r⟩:=st4
   obtain ⟨k1,k2⟩:=kk _ List.mem_cons_self o e
   exact ⟨z.cps.size - (j + 1),by omega,j + 1,σ7,H7,I7.unpinned,⟨o,k1,r⟩,fun b hb=>by
    have eb:b=s1.heap.objs.size:=by simpa using hb
    subst eb
    exact k2,t7,by omega,rfl,n7⟩
  cases f with
  | next=>obtain ⟨σ7,H7,I7,n7⟩:=q7; exact again I7 n7 t7
  | cont=>obtain ⟨σ7,H7,I7,n7⟩:=q7; exact again I7 n7 t7
  | brk=>obtain ⟨σ7,H7,I7,q7⟩:=q7; exact q7.elim
  | ret v=>obtain ⟨x7,σ7,H7,I7,r7,q7⟩:=q7; exact ⟨x7,σ7,H7,I7.unpinned,r7,q7⟩
end
end L2
namespace L2
open PySem PySem.Spec PyProof.Rows
def signsV (x:Str):List V:=x.cps.toList.map fun c=>V.str ⟨#[c]⟩
theorem signs_pair {α:Type} {f:α→V} {g:α→Value→Prop} (h:∀ c v,g c v→RelV (f c) v):∀ (cs:List α) (l:List Value),l.length=cs.length→(∀ (j:Nat) (v:Value),l[j]?=some v→∃ c,cs[j]?=some c∧g c v)→Vals (cs.map f) l
 | [],[],_,_=>.nil
 | [],_ :: _,e,_=>nomatch e
 | _ :: _,[],e,_=>nomatch e
 | c :: cs,v :: l,e,hh=>by
  obtain ⟨c',hc,hg⟩:=hh 0 v rfl
  have:c=c':=by simpa using hc
  subst this
  exact .cons (h _ _ hg) (signs_pair h cs l (by simpa using e) fun j u hj=>by
   obtain ⟨c2,h2,h3⟩:=hh (j + 1) u (by simpa using hj)
   exact ⟨c2,by simpa using h2,h3⟩)
theorem call_tupleK {X:Cx} (K:PySem.W.Frag) (hK:X.K=K) (hc:X.calm=true):CallR X (.type "tuple") (fun xs H Q=>(∃ p ys,xs=[.ref p]∧SqL K H p ys∧∀ l,H l=none→Q (.ref l) (upd H l (.tup ys))) ∨ ∃ x:Str,xs=[.str x]∧x.cps.size≤sizeLine∧∀ l,H l=none→Q (.ref l) (upd H l (.tup (signsV x)))):=by
 subst hK
 intro pins s σ H xs us Q I r h
 rcases h with ⟨p,ys,rfl,hq,q⟩ | ⟨x,rfl,hx,q⟩
 ·exact call_tuple_of pins s σ H _ us Q I r ⟨p,ys,rfl,.inl ⟨hq,q⟩⟩
 ·obtain ⟨u,rfl,rx⟩:=vals1 r
  obtain ⟨t,rfl⟩:=rx
  refine call_tuple_str (I.ok.hd hc) x t (fun h' tk acc kp ha=>?_) hx
  have I1:Inv X pins σ H { s with heap:=h',toks:=tk }:=I.kept (t':=tk) kp
  have r':Vals (signsV x) acc.toList:=signs_pair (g:=fun c v=>∃ u,v=Value.str ⟨#[c]⟩ u) (fun c v hg=>by obtain ⟨u,rfl⟩:=hg; exact ⟨u,rfl⟩) _ _ (by simpa using ha.1) fun j v hj=>by
   obtain ⟨c,u,h1,h2⟩:=ha.2 j v (by simpa using hj)
   exact ⟨c,by simpa using h1,u,h2⟩
  have I2:Inv X pins σ (upd H h'.objs.size (.tup (signsV x))) { s with heap:=h'.push { cls:=.type "tuple",data:=.seq acc },toks:=tk } :=
   I1.laid (t':=tk) (fun b o e=>Heap.get?_push_of_some _ e) (Nat.le_refl _) (show ObjOk X.prog X.w _ _ _ (.tup (signsV x)) from ⟨by unfold signsV; rw [List.length_map]; simpa using hx,acc.toList,r',IsTup.new h' acc⟩)
  exact ⟨.ref h'.objs.size,_,I2,rfl,q _ (I1.hok.fresh (Nat.le_refl _))⟩
end L2
namespace L2
open PySem PySem.Spec PyProof.Rows
def KDict (P:Program) (w:World) (K:PySem.W.Frag) (a:Addr) (vs:List (Key × Value)):Prop:=(a == sysModules)=false∧∀ h:Heap,K.In h→h.DictOf (mixKind P w) a vs
def tKIn (vs:List (Key × Value)) (ty:TE):TE:=fun σ H Q=>ty σ H fun y H1=>∃ k,y=kV k∧Q (.bl (valueAt vs k).isSome) H1
def tKGet (vs:List (Key × Value)) (ty:TE):TE:=fun σ H Q=>ty σ H fun y H1=>∃ k v u,y=kV k∧valueAt vs k=some u∧RelV v u∧Q v H1
section
variable {X:Cx} {x:Str} {a:Addr} {vs:List (Key × Value)} {i:Expr} {p pos:Pos} {ty:TE}
theorem pc_kin (hg:Gl X x) (hm:X.mg x=some (.ref a)) (hd:KDict X.prog X.w X.K a vs) (hi:PE X i ty) (hdb:(x == ("__debug__" : Str))=false:=by decide):PC X .In i (.Name x p) (tKIn vs ty):=by
 intro pins s σ H Q I h
 refine thn (hi pins s σ H _ I h) fun iv s1 ⟨y,H1,I1,ry,k,ey,q1⟩=>thn (pe_glob hg hm (show RelV (.ref a) (.ref a) from rfl) hdb pins s1 σ H1 (fun z H2=>z=.ref a∧H2=H1) I1 ⟨rfl,rfl⟩) fun u s2 ⟨z,H2,I2,rz,e1,e2⟩=>?_
 subst e1 e2 ey
 obtain rfl:u=Value.ref a:=rz
 exact wpAny_in_of (kV_is ry) hd.1 (hd.2 _ I2.kIn).mapOf ⟨.bl _,_,I2.tok _,rfl,q1⟩
theorem pe_kget (hg:Gl X x) (hm:X.mg x=some (.ref a)) (hd:KDict X.prog X.w X.K a vs) (hi:PE X i ty) (hs:NoSl i) (hdb:(x == ("__debug__" : Str))=false:=by decide):PE X (.Subscript (.Name x p) i pos) (tKGet vs ty):=by
 intro pins s σ H Q I h
 refine subD_of PySem.F.slot_dict_getitem.lookup hs (thn (pe_glob hg hm (show RelV (.ref a) (.ref a) from rfl) hdb pins s σ H (fun z H2=>z=.ref a∧H2=H) I ⟨rfl,rfl⟩) fun u s1 ⟨z,H1,I1,rz,e1,e2⟩=>?_)
 subst e1 e2
 obtain rfl:u=Value.ref a:=rz
 refine thn (hi pins s1 σ H1 _ I1 h) fun iv s2 ⟨y,H2,I2,ry,k,v,w',ey,hv,rv,q⟩=>?_
 subst ey
 exact ⟨(hd.2 _ I2.kIn).typeIs,wpAny_getItem_of (kV_is ry) (hd.2 _ I2.kIn).mapOf hv ⟨v,H2,I2.tok _,rv,q⟩⟩
end
section
variable {X:Cx}
def rJoinT (K:PySem.W.Frag):V→List V→Hp→VK→Prop:=fun x vs H Q=>∃ sep p ys,x=.str sep∧vs=[.ref p]∧SqT K H p (ys.map V.str)∧sep.length≤16∧(ys.map (·.length)).sum + ys.length≤1048576∧Q (.str (Str.join sep ys)) H
theorem strsAre_vals:∀ {ys:List Str} {us:List Value},Vals (ys.map V.str) us→StrsAre us ys
 | [],_,h=>by cases h; exact .nil
 | y :: r,_,h=>by
  cases h with
  | cons a b =>
   obtain ⟨t,rfl⟩:=a
   exact .cons _ _ (strsAre_vals b)
theorem mt_joinT:MtR X "str.join" (rJoinT X.K):=by
 intro pins s σ H x vs v us Q I rx rv h
 obtain ⟨sep,p,ys,rfl,rfl,hq,hs,hw,q⟩:=h
 obtain ⟨t,rfl⟩:=rx
 obtain ⟨u,rfl,ru⟩:=rv.one
 cases ru
 obtain ⟨its,r,pl,hz⟩:=I.tuple hq
 refine join_tupleW pl (strsAre_vals r) hs hw fun t' k=>⟨.str _,H,I.tok k,⟨t',?_⟩,q⟩
 show Value.str (Builtin.Str.glued sep ys) t'=_
 rw [PySem.StrLaws.glued_eq_join]
end
section
variable {prog:Program} {w:World} {A:Around} {R:Result→Shared→Prop} {I S:Addr} {fp wr:List Addr} {n:Nat} {P:Nat→Value→Prop} {St:Nat→Heap→Prop} {kw:List (Str × Value)} {bt:Nat→Nat→Bool}
theorem maxk_name:(toString "max" ++ toString ".loop" : String) = "max.loop" := by decide
theorem maxk_in {args:PySem.Args} {s:Shared} (h:wpAny (model prog w) A.in1 (Builtin.«max.loop» args) (fun fin s'=>match fin with | .done f=>R (.ok f) s' | .again c'=>c'.quiet=true∧codeAny (model prog w) A c' R s') (fun e s'=>R (.error e) s') s):codeAny (model prog w) A (.builtin "max.loop" args) R s:=by
 refine codeAny_builtin PySem.F.entry_max_loop ?_; rw [Around.under_plainId PySem.F.plain_max_loop _]; exact h
theorem maxk_again {args:PySem.Args} {s:Shared} (h:codeAny (model prog w) A (.builtin "max.loop" args) R s):wpAny (model prog w) A.in1 (pure (Fin.again (.builtin (toString "max" ++ toString ".loop") args))) (fun fin s'=>match fin with | .done f=>R (.ok f) s' | .again c'=>c'.quiet=true∧codeAny (model prog w) A c' R s') (fun e s'=>R (.error e) s') s:=by
 rw [maxk_name]; exact wpAny_pure ⟨plainId_quiet PySem.F.plain_max_loop _,h⟩
theorem maxk_loop (W:Walks prog w A.in1 I fp wr n P St) (hc:CmpOf prog w A.in1 .Gt P bt) (hS:S ∉ fp):∀ (k j:Nat) (s:Shared) (b:Value) (c:Nat),n - (j + 1)=k→j + 1≤n→St (j + 1) s.heap→P (argBest bt j) b →
  s.heap.get? S=some { cls:=.type "list",dict:=none,data:=.seq #[b,b] c,slots:=#[] }→(∀ v h' tk,P (argBest bt (n - 1)) v→(∀ a o,a ∉ wr→a ≠ S→s.heap.get? a=some o→h'.get? a=some o)→R (.ok (.ret v)) { s with heap:=h',toks:=tk }) →
  codeAny (model prog w) A (.builtin "max.loop" ⟨[.ref I,.none,.ref S],kw⟩) R s:=by
 have nS:S ∉ wr:=fun z=>hS (W.sub _ z)
 intro k
 induction k with
 | zero =>
  intro j s b c e0 ej st pb gS fin
  have en:j + 1=n:=by omega
  refine maxk_in ?_
  show wpAny _ A.in1 (seqItems? (.ref S) >>= _) _ _ s
  refine wpAny_bind (wpAny_seqItems gS rfl (show wpAny _ A.in1 (tryCatch (pyNext (.ref I)) _ >>= _) _ _ s from ?_))
  refine wpAny_bind (wpAny_tryCatch (W.done s _ _ (en ▸ st) fun h' tk kp=>?_))
  refine wpAny_bind (m:=updateSeq S fun _=>#[]) (wpAny_updateSeq (kp S _ nS gS) rfl (wpAny_bind (wpAny_letGo (wpAny_pure (fin b _ tk (en ▸ pb) fun a o na nb e=>?_)))))
  exact (Heap.get?_update_other _ _ nb.symm).trans (kp a o na e)
 | succ k ih =>
  intro j s b c e0 ej st pb gS fin
  have lt:j + 1 < n:=by omega
  refine maxk_in ?_
  show wpAny _ A.in1 (seqItems? (.ref S) >>= _) _ _ s
  refine wpAny_bind (wpAny_seqItems gS rfl (show wpAny _ A.in1 (tryCatch (pyNext (.ref I)) _ >>= _) _ _ s from ?_))
  refine wpAny_bind (wpAny_tryCatch (W.item (j + 1) s _ _ lt st fun v h' tk pv st' kp=>?_))
  have gS':=kp S _ nS gS
  show wpAny _ A.in1 (tryCatch (holding [v,v] (richCompare .Gt v b >>= _)) _ >>= _) _ _ _
  refine wpAny_bind (wpAny_tryCatch (wpAny_holding (wpAny_bind (hc (j + 1) (argBest bt j) v b _ _ _ pv pb (wpAny_bind (wpAny_holding (wpAny_truthy_bool (wpAny_bind (wpAny_letGo (wpAny_pure ?_))))))))))
  cases hb:bt (j + 1) (argBest bt j) with
  | true =>
   simp only [if_true]
   refine wpAny_bind (wpAny_updateSeq gS' rfl (wpAny_bind (wpAny_letGo (maxk_again ?_))))
   refine ih (j + 1) _ v _ (by omega) lt (W.frame _ _ _ st' fun a ha o e=>(Heap.get?_update_other _ _ (fun z:S=a=>hS (z ▸ ha))).trans e) (by simp only [argBest,hb,if_true]; exact pv) (Heap.get?_update_self _ gS' rfl) fun v' h2 tk2 p2 k2=>?_
   exact fin v' h2 tk2 p2 fun a o na nb e=>k2 a o na nb ((Heap.get?_update_other _ _ nb.symm).trans (kp a o na e))
  | false =>
   simp only [Bool.false_eq_true,if_false]
   refine wpAny_bind (wpAny_letGo (maxk_again ?_))
   refine ih (j + 1) _ b c (by omega) lt st' (by simp only [argBest,hb,Bool.false_eq_true,if_false]; exact pb) gS' fun v' h2 tk2 p2 k2=>?_
   exact fin v' h2 tk2 p2 fun a o na nb e=>k2 a o na nb (kp a o na e)
theorem maxk_first (W:Walks prog w A.in1 I fp wr n P St) (hc:CmpOf prog w A.in1 .Gt P bt) (hS:S ∉ fp) {x:Str} {d:Value} {s:Shared} {c:Nat} (st:St 0 s.heap) (gS:s.heap.get? S=some { cls:=.type "list",dict:=none,data:=.seq #[] c,slots:=#[] })
  (f0:n=0→∀ h' tk,(∀ a o,a ∉ wr→a ≠ S→s.heap.get? a=some o→h'.get? a=some o)→R (.ok (.ret d)) { s with heap:=h',toks:=tk })
  (fin:0 < n→∀ v h' tk,P (argBest bt (n - 1)) v→(∀ a o,a ∉ wr→a ≠ S→s.heap.get? a=some o→h'.get? a=some o)→R (.ok (.ret v)) { s with heap:=h',toks:=tk }) :
  codeAny (model prog w) A (.builtin "max.loop" ⟨[.ref I,.none,.ref S],[(x,d)]⟩) R s:=by
 have nS:S ∉ wr:=fun z=>hS (W.sub _ z)
 refine maxk_in ?_
 show wpAny _ A.in1 (seqItems? (.ref S) >>= _) _ _ s
 refine wpAny_bind (wpAny_seqItems gS rfl (show wpAny _ A.in1 (tryCatch (pyNext (.ref I)) _ >>= _) _ _ s from ?_))
 by_cases hn:n=0
 ·subst hn
  refine wpAny_bind (wpAny_tryCatch (W.done s _ _ st fun h' tk kp=>?_))
  refine wpAny_bind (m:=rule _) (wpAny_rule (wpAny_pure (f0 rfl h' tk fun a o na _ e=>kp a o na e)))
 ·have hp:0 < n:=Nat.pos_of_ne_zero hn
  refine wpAny_bind (wpAny_tryCatch (W.item 0 s _ _ hp st fun v h' tk pv st' kp=>?_))
  have gS':=kp S _ nS gS
  refine wpAny_bind (m:=updateSeq S fun _=>#[v,v]) (wpAny_updateSeq gS' rfl (maxk_again ?_))
  refine maxk_loop W hc hS _ 0 _ v _ rfl hp (W.frame _ _ _ st' fun a ha o e=>(Heap.get?_update_other _ _ (fun z:S=a=>hS (z ▸ ha))).trans e) pv (Heap.get?_update_self _ gS' rfl) fun v' h2 tk2 p2 k2=>?_
  exact fin hp v' h2 tk2 p2 fun a o na nb e=>k2 a o na nb ((Heap.get?_update_other _ _ nb.symm).trans (kp a o na e))
end
section
variable {prog:Program} {w:World} {A:Around} {E:Value→Shared→Prop} {s:Shared} {l:Addr} {xs:Array (Int × Tok)}
theorem maxk_args (a v:Value):argsOk "max" ⟨[a],[(Str.ofString "default",v)]⟩:=by unfold argsOk; kernel_rfl
theorem maxk_call {Q:Value→Shared→Prop} {d:Value} (hh:A.handled=none) (hl:s.heap.IsList l (intItems xs)) (h0:xs.size=0→∀ h' tk,(∀ b o,s.heap.get? b=some o→h'.get? b=some o)→Q d { s with heap:=h',toks:=tk })
  (h:0 < xs.size→∀ v h' tk,(intItems xs)[argBest (fun i j=>decide (numAt xs i > numAt xs j)) (xs.size - 1)]?=some v→(∀ b o,s.heap.get? b=some o→h'.get? b=some o)→Q v { s with heap:=h',toks:=tk }) :
  wpAny (model prog w) A (call (.builtin "max") [.ref l] [(Str.ofString "default",d)]) Q E s:=by
 refine kmk_tree PySem.F.kind_max PySem.F.plain_max PySem.F.entry_max (maxk_args _ _) ?_
 refine wpAny_bind (m:=Builtin.Builtins.bindParams "max" ["key","default"] 0 ⟨[],[(Str.ofString "default",d)]⟩) (wpAny_of_eq (show _=pure [none,some d] from rfl) (wpAny_bind (wpAny_pure (wpAny_bind (iter_intList hl fun s2 e st hfp hlI=>?_)))))
 subst e
 refine wpAny_bind (wpAny_newObj_type ?_)
 rw [maxk_name]; refine wpAny_pure ⟨plainId_quiet PySem.F.plain_max_loop _,?_⟩
 have W:=Walks.list (prog:=prog) (w:=w) (A:=A.in1) hh _ l hlI (intItems xs)
 have sz:(intItems xs).size=xs.size:=by simp [intItems]
 refine maxk_first (S:=_) W (CmpOf.ints_gt (numAt xs) (fun _ _=>intItems_at)) (fun z=>Nat.lt_irrefl _ (hfp _ z)) (W.frame _ _ _ st fun b _ o e=>Heap.get?_push_of_some _ e) (Heap.get?_push_size _ rfl) (fun z h' tk hk=>h0 (sz ▸ z) h' tk (old_kept (l:=l) fun b o nb e=>?_)) (fun z v h' tk pv hk=>h (sz ▸ z) v h' tk (by rw [← sz]; exact pv) (old_kept (l:=l) fun b o nb e=>?_))
 ·exact hk b o nb (Nat.ne_of_lt (Heap.lt_size e)) (Heap.get?_push_of_some _ e)
 ·exact hk b o nb (Nat.ne_of_lt (Heap.lt_size e)) (Heap.get?_push_of_some _ e)
end
theorem b_max:bootBuiltins "max" = some (.builtin "max"):=by decide +kernel
def tMaxD (K:PySem.W.Frag) (d:Int) (te:TA):TE:=fun σ H Q=>te σ H fun xs H1=>∃ (p:Addr) (ns:List Int),xs=[.ref p]∧SqL K H1 p (ns.map V.int)∧(ns=[]→Q (.int d) H1)∧∀ m ∈ ns,(∀ n ∈ ns,n≤m)→Q (.int m) H1
theorem pe_maxD {X:Cx} {x:Str} {d:Int} {j:Nat} {p pos kpos cp:Pos} {e:Expr} {t:TA} (hc:X.calm=true) (hg:Gl X x) (hm:X.mg x=none) (hv:bootBuiltins x=some (.builtin "max")) (ha:PA X [e] t) (hn:x ≠ "__name__" := by decide) (hdb:(x == ("__debug__" : Str))=false:=by decide)
  (he:backTo pos (starEach [e] X.env)=(false,eval e X.env) :: backTo pos (starEach [] X.env):=by rfl) (hpl:(backTo pos (starEach [e] X.env)).any (·.1)=false:=by rfl) :
  PE X (.Call (.Name x p) [e] [⟨some (Str.ofString "default"),.Constant (.int d) j cp,kpos⟩] pos) (tMaxD X.K d t):=by
 intro pins s σ H Q I h
 refine wpAny_Call_Name_kw (ld_blt I hg hm hv ?_ hn hdb)
 refine callWith_kw (thn (ha pos pins s σ H _ I h) fun us s1 ⟨vs,H1,I1,r1,q1⟩=>?_) he hpl
 obtain ⟨a,ns,rfl,hq,q0,q⟩:=q1
 obtain ⟨u,rfl,ru⟩:=vals1 r1
 cases ru
 refine thn (pk_cons pe_int pk_nil pos pins s1 σ H1 (fun zs H2=>zs=[.int d]∧H2=H1) I1 ⟨rfl,rfl⟩) fun ws s2 ⟨zs,H2,I2,rz,e1,e2⟩=>?_
 subst e1 e2
 obtain ⟨u,rfl,t',rfl⟩:=vals1 rz
 obtain ⟨its,rv,ht,hz⟩:=I2.list hq
 have hi:=intsAre_of rv
 obtain ⟨xs,hx⟩:=hi.allInts.items
 have hN:numsOf its.toArray.toList=ns:=by rw [show its.toArray.toList=its from rfl,hi.numsOf]
 have hl:=ht.isList
 rw [hx] at hl hN
 rw [nums_intItems] at hN
 subst hN
 refine maxk_call (show X.A.handled=none from I2.ok.hd hc) hl (fun z h' tk hk=>⟨.int d,H2,I2.kept (t':=tk) hk,⟨t',rfl⟩,q0 ?_⟩) fun hp v h' tk hv hk=>?_
 ·have:xs.toList=[]:=List.length_eq_zero_iff.mp (by rw [Array.length_toList]; exact z)
  rw [this]
  rfl
 obtain ⟨t2,rfl⟩:=intItems_at hv
 obtain ⟨h1,h2⟩:=argBest_gt (numAt xs) (xs.size - 1)
 refine ⟨.int _,H2,I2.kept (t':=tk) hk,⟨t2,rfl⟩,q _ ?_ fun a ha=>?_⟩
 ·rw [numAt_eq]; exact getD_mem (by rw [List.length_map,Array.length_toList]; omega)
 ·obtain ⟨j,hj,rfl⟩:=mem_getD ha
  rw [List.length_map,Array.length_toList] at hj
  rw [← numAt_eq]; exact h2 j (by omega)
theorem pst_seq {X:Cx} {pins:List (Addr × Obj)} {s:Shared} {σ:St} {H:Hp} {D:Ends} {st:Stmt} {rest:List Stmt} {t1:TS} {u:St→Hp→Prop} (h1:PS X st t1)
  (h2:∀ (pins:List (Addr × Obj)) (s:Shared) (σ:St) (H:Hp),0 < s.toks→Inv X pins σ H s→u σ H→wpAny (model X.prog X.w) X.A (execs rest X.env) (SP X pins D) X.xe s)
  (h0:0 < s.toks) (I:Inv X pins σ H s) (h:t1 { D with nx:=u } σ H):wpAny (model X.prog X.w) X.A (execs (st :: rest) X.env) (SP X pins D) X.xe s:=by
 refine wpAny_execs_cons (wpAny_mono (wpAny_toks_of (n:=1) h0 (h1 pins s σ H { D with nx:=u } I h)) (fun f s1 q=>?_) fun _ _ z=>z.2)
 obtain ⟨t,q⟩:=q
 cases f with
 | next=>obtain ⟨σ',H',I',q⟩:=q; exact h2 pins s1 σ' H' t I' q
 | ret v=>exact q
 | brk=>exact q
 | cont=>exact q
theorem pe_makeC {X:Cx} {C:Addr} {k:Nat} {x:Str} {ps:List Str} {sp:Sp} {e:Expr} {es:List Expr} {t:TA} {p pos:Pos} (h:CanI X.prog X.w X.K X.mg X.base k C ps sp) (hr:Room (k + 1) X.A) (hg:Gl X x) (hm:X.mg x=some (.ref C)) (ha:PA X (e :: es) t) (hdb:(x == ("__debug__" : Str))=false:=by decide)
  (he:starEach (e :: es) X.env=(false,eval e X.env) :: starEach es X.env:=by rfl) (hpl:(backTo pos (starEach es X.env)).any (·.1)=false:=by rfl):PE X (.Call (.Name x p) (e :: es) [] pos) (tMake C sp [] E0 t):=by
 obtain ⟨f,fd,F,M,hb⟩:=h.ex
 exact pe_make M F hr hg hm hb .nil pass0 ha hdb he hpl
end L2
namespace Net
open PySem L2
def top (i:Nat):Stmt:=PySem.Challenge.pw_netcourt_k81_claims_as_texts.main.body.getD i (.Pass ⟨0,0,0,0⟩)
abbrev s_is_made_of:Stmt:=top 9
abbrev s_is_name:Stmt:=top 10
abbrev s_is_variable:Stmt:=top 11
abbrev s_read_number:Stmt:=top 12
abbrev s_show_claim:Stmt:=top 20
abbrev s_show_term:Stmt:=top 21
abbrev s_show_set:Stmt:=top 22
abbrev s_read_claim:Stmt:=top 23
abbrev s_read_term:Stmt:=top 24
abbrev s_refuse_other_text:Stmt:=top 25
abbrev s_split_text:Stmt:=top 26
abbrev s_depth_of:Stmt:=top 27
abbrev s_WordRow_init:Stmt:=inClass (top 28) 0
abbrev s_WordRow_coming:Stmt:=inClass (top 28) 1
abbrev s_WordRow_take:Stmt:=inClass (top 28) 2
abbrev s_WordRow_pass_over:Stmt:=inClass (top 28) 3
abbrev s_read_whole_claim:Stmt:=top 29
abbrev s_read_whole_term:Stmt:=top 30
abbrev s_is_term:Stmt:=top 31
abbrev s_read_whole:Stmt:=top 32
abbrev s_read_first:Stmt:=top 33
abbrev s_read_name:Stmt:=top 34
abbrev s_read_cost:Stmt:=top 35
abbrev s_read_over_places:Stmt:=top 36
abbrev s_read_of_two:Stmt:=top 37
abbrev s_read_bracket:Stmt:=top 38
abbrev s_read_from_number:Stmt:=top 39
abbrev s_read_set:Stmt:=top 40
abbrev s_read_names:Stmt:=top 41
abbrev s_l_cell_at:Stmt:=top 43
abbrev s_l_mixed:Stmt:=top 44
abbrev s_l_words:Stmt:=top 45
abbrev s_l_point:Stmt:=top 46
abbrev s_l_set:Stmt:=top 47
abbrev s_l_long:Stmt:=top 48
abbrev s_l_leaf:Stmt:=top 49
abbrev s_l_round_claim:Stmt:=top 50
abbrev s_l_round_term:Stmt:=top 51
abbrev s_l_depth:Stmt:=top 52
abbrev s_l_grown:Stmt:=top 53
abbrev s_l_set_text:Stmt:=top 54
abbrev s_l_text:Stmt:=top 55
abbrev s_l_refused:Stmt:=top 56
abbrev s_l_told:Stmt:=top 57
abbrev s_l_read:Stmt:=top 58
abbrev s_l_spoil:Stmt:=top 59
abbrev s_l_round_trip:Stmt:=top 60
abbrev s_law:Stmt:=top 61
end Net
namespace Net
open PySem L2
def abc:Str := "abcdefghijklmnopqrstuvwxyz"
def smallB (c:Nat):Bool:=decide (97≤c) && decide (c≤122)
def nameB (x:Str):Bool:=decide (1≤x.length) && decide (x.length≤12) && x.cps.toList.all smallB
def spMade:Sp:=fun vs H Q _=>∃ (x y:Str),vs=[.str x,.str y]∧x.length≤sizeLine∧∀ H',Same H H'→Q (.bl (x.cps.toList.all fun c=>decide (c ∈ y.cps.toList))) H'
def spName:Sp:=fun vs H Q _=>∃ (x:Str),vs=[.str x]∧x.length≤sizeLine∧∀ H',Same H H'→Q (.bl (nameB x)) H'
structure Txt (K:PySem.W.Frag) (mg:Str→Option Value):Prop where
 all:mg "all" = none
 isi:mg "isinstance" = none
 str:mg "str" = none
 int:mg "int" = none
 bool:mg "bool" = none
 list:mg "list" = none
 tuple:mg "tuple" = none
 len:mg "len" = none
 range:mg "range" = none
 abs:mg "abs" = none
 max:mg "max" = none
 small:GlobIs mg "SMALL_LETTERS" (.str abc)
 longest:GlobIs mg "LONGEST_NAME" (.int 12)
 figs:GlobIs mg "FIGURES" (.str "0123456789")
 mostF:GlobIs mg "MOST_FIGURES" (.int 60)
 deep:GlobIs mg "MOST_DEEP" (.int 12)
 great:GlobIs mg "GREAT_LETTERS" (.str "ABCDEFGHIJKLMNOPQRSTUVWXYZ")
 longV:GlobIs mg "LONGEST_VARIABLE" (.int 3)
 signs:GlobIs mg "LONE_SIGNS" (.str "(){},:")
 kIB:PySem.W.kitOne K (.type "int") (.type "bool")=some false
section
variable {P:Program} {w:World} {K:PySem.W.Frag} {mg:Str→Option Value} {base:Heap}
theorem sc_made:FnScope ["text","signs"] ["text","signs"] (defScope s_is_made_of):=⟨rfl,rfl,rfl,by decide +kernel,rfl,by decide +kernel,by decide +kernel⟩
theorem ok_made {f:Addr} {fd:FuncData} (F:Fun K "is_made_of" "is_made_of" s_is_made_of f fd) (T:Txt K mg):FnOk P w K mg base CX0 1 f fd ["text","signs"] spMade:=by
 refine F.ok sc_made (fun vs H Q E h=>?_) (fun cdv A outer s H vs Q E hr h=>?_)
 ·obtain ⟨x,y,rfl,_⟩:=h
  rfl
 ·obtain ⟨x,y,rfl,hx,k⟩:=h
  refine ⟨_,pss_one (ps_ret (pe_callB (call_all rfl) (by rfl) T.all b_all (pa_cons (pe_comp (N:=["sign","signs"]) (xs:=1) (js:=[1]) rfl (compScope_of rfl) (pi_str (pv 0))
   (fun _ _ _ _=>pg_name (i:=0) (show List.Nodup (["sign","signs"]:List Str) by decide +kernel) rfl (Or.inl rfl)) (fun _ _ _ _=>pts_nil) (fun _ _ _ _=>pe_cmpR op_in_str (pv 0) (pv 1) (by with_unfolding_all rfl))) pa_nil))),?_⟩
  refine ⟨_,rfl,x,rfl,comp_str (fun i acc σ' H'=>H'=H∧acc=(x.cps.toList.take i).map (fun c=>V.bl (decide (c ∈ y.cps.toList)))∧∃ o,σ'=[o,some (.str y)])
   ⟨rfl,rfl,none,rfl⟩ (fun i acc σ' H' h=>?_) hx (fun i c acc σ' H' hc h=>?_) (fun acc σ' H' h p hp=>?_)⟩
  ·rw [h.2.1,List.length_map,List.length_take]
   omega
  ·obtain ⟨rfl,rfl,o,rfl⟩:=h
   refine ⟨_,rfl,_,rfl,_,_,rfl,rfl,rfl,?_,_,rfl⟩
   have hc':x.cps.toList[i]?=some c:=by simpa using hc
   rw [StrLaws.found_one,List.take_add_one,hc',List.map_append]
   rfl
  ·obtain ⟨rfl,rfl,o,rfl⟩:=h
   refine ⟨p,x.cps.toList.map (fun c=>decide (c ∈ y.cps.toList)),rfl,SqL.of ?_,?_⟩
   ·rw [upd_same,List.map_map,List.take_of_length_le (by simp)]
    rfl
   ·rw [List.all_map]
    exact k _ fun b ob e=>by rw [upd_ne (ne_of_none e hp)]; exact e
theorem mem_abc (c:Nat):decide (c ∈ abc.cps.toList)=smallB c:=by
 have e:abc.cps.toList=(List.range 26).map (97 + ·):=by decide +kernel
 rw [e]
 unfold smallB
 rw [Bool.eq_iff_iff]
 simp only [decide_eq_true_eq,Bool.and_eq_true,List.mem_map,List.mem_range]
 constructor
 ·rintro ⟨k,h1,h2⟩
  omega
 ·intro h
  exact ⟨c - 97,by omega,by omega⟩
theorem sc_name:FnScope ["word"] ["word"] (defScope s_is_name):=⟨rfl,rfl,rfl,by decide +kernel,rfl,by decide +kernel,by decide +kernel⟩
theorem ok_name {f:Addr} {fd:FuncData} (F:Fun K "is_name" "is_name" s_is_name f fd) (T:Txt K mg) (c1:Can P w K mg base 1 "is_made_of" ["text","signs"] spMade):FnOk P w K mg base CX0 2 f fd ["word"] spName:=by
 refine F.ok sc_name (fun vs H Q E h=>?_) (fun cdv A outer s H vs Q E hr h=>?_)
 ·obtain ⟨x,rfl,_⟩:=h
  rfl
 ·obtain ⟨x,rfl,hx,k⟩:=h
  refine ⟨_,pss_cons (ps_if (pt_not (pt_val (pe_callB call_isinst (by rfl) T.isi b_isi (pa_cons (pv 0) (pa_cons (pe_ty T.str (by rfl) b_str) pa_nil))))) (pss_one (ps_ret pe_bl)) pss_nil)
   (pss_one (ps_ret (pe_and (pe_chain op_le op_le pe_int (pe_callB call_len_str (by rfl) T.len b_len (pa_cons (pv 0) pa_nil)) (pe_globC T.longest (by rfl)))
    (pe_one (pe_callC c1 hr (by rfl) (pa_cons (pv 0) (pa_cons (pe_globC T.small (by rfl)) pa_nil))))))),?_⟩
  refine ⟨_,rfl,_,"str",_,true,rfl,.str x,rfl,true,rfl,iteF ?_⟩
  refine ⟨_,rfl,x,rfl,hx,_,_,rfl,rfl,_,rfl,?_⟩
  refine ite2 (fun h1=>⟨_,_,rfl,rfl,_,rfl,ite2 (fun h2=>⟨_,rfl,x,abc,rfl,hx,fun H' s'=>?_⟩) (fun h2=>?_)⟩) (fun h1=>⟨_,rfl,iteF ?_⟩)
  ·have e:nameB x=(x.cps.toList.all fun c=>decide (c ∈ abc.cps.toList)):=by
    unfold nameB
    rw [decide_eq_true (p:=1≤x.length) (by have:=of_decide_eq_true h1; omega),decide_eq_true (p:=x.length≤12) (by have:=of_decide_eq_true h2; omega)]
    simp only [mem_abc,Bool.true_and]
   rw [← e]
   exact k H' s'
  ·have e:nameB x=false:=by
    unfold nameB
    rw [decide_eq_false (p:=x.length≤12) (fun z=>h2 (decide_eq_true (by omega)))]
    simp
   have:=k H (Same.refl H)
   rw [e] at this
   exact this
  ·have e:nameB x=false:=by
    unfold nameB
    rw [decide_eq_false (p:=1≤x.length) (fun z=>h1 (decide_eq_true (by omega)))]
    simp
   have:=k H (Same.refl H)
   rw [e] at this
   exact this
end
theorem strOk_of {x:Str} (h:nameB x=true):PyData.strOk x=true:=by
 unfold nameB at h
 simp only [Bool.and_eq_true,List.all_eq_true] at h
 unfold PyData.strOk
 rw [Array.all_eq_true']
 intro c hc
 have:=h.2 c (by simpa using hc)
 unfold smallB at this
 simp at this
 simp
 omega
def PD (H:Hp):Nat→V→PyData→Prop
 | _,.non,d=>d=.none
 | _,.bl b,d=>d=.bool b
 | _,.int i,d=>d=.int i
 | _,.str x,d=>PyData.strOk x=true∧d=.str x
 | n + 1,.ref a,d=>(∃ xs ds,H a=some (.lst xs)∧d=.list ds∧Paired (PD H n) xs ds) ∨ ∃ xs ds,H a=some (.tup xs)∧d=.tuple ds∧Paired (PD H n) xs ds
 | _,_,_=>False
theorem pair_get {α β:Type} {F:α→β→Prop} {a:α}:∀ {xs:List α} {ys:List β} {i:Nat},Paired F xs ys→xs[i]?=some a→∃ b,ys[i]?=some b∧F a b
 | _,_,i,.nil,h=>by simp at h
 | _,_,0,.cons (a:=c) (b:=b) h _,e=>by
  have e':c=a:=by simpa using e
  subst e'
  exact ⟨b,rfl,h⟩
 | _,_,i + 1,.cons _ t,e=>by
  obtain ⟨b,h1,h2⟩:=pair_get (i:=i) t (by simpa using e)
  exact ⟨b,by simpa using h1,h2⟩
theorem PD.same {H H':Hp} (s:Same H H'):∀ {n:Nat} {v:V} {d:PyData},PD H n v d→PD H' n v d
 | 0,v,d,h=>by cases v <;> first | exact h | exact h.elim
 | n + 1,v,d,h=>by
  cases v <;> first | exact h | exact h.elim | skip
  rcases h with ⟨xs,ds,e,e2,p⟩ | ⟨xs,ds,e,e2,p⟩
  ·exact .inl ⟨xs,ds,s _ _ e,e2,L2.Paired.mapP p fun _ _ h=>PD.same s h⟩
  ·exact .inr ⟨xs,ds,s _ _ e,e2,L2.Paired.mapP p fun _ _ h=>PD.same s h⟩
theorem PD.rd {K:PySem.W.Frag} {H:Hp}:∀ {n:Nat} {v:V} {d:PyData},PD H n v d→RdD K H n v d
 | 0,v,d,h=>by cases v <;> first | exact h | exact h.elim
 | n + 1,v,d,h=>by
  cases v <;> first | exact h | exact h.elim | skip
  rcases h with ⟨xs,ds,e,e2,p⟩ | ⟨xs,ds,e,e2,p⟩
  ·exact .inl ⟨xs,ds,SqL.of e,e2,L2.Paired.mapP p fun _ _ h=>PD.rd h⟩
  ·exact .inr ⟨xs,ds,SqT.of e,e2,L2.Paired.mapP p fun _ _ h=>PD.rd h⟩
theorem PD.up {H:Hp}:∀ {n:Nat} {v:V} {d:PyData},PD H n v d→PD H (n + 1) v d
 | 0,v,d,h=>by cases v <;> first | exact h | exact h.elim
 | n + 1,v,d,h=>by
  cases v <;> first | exact h | exact h.elim | skip
  rcases h with ⟨xs,ds,e,e2,p⟩ | ⟨xs,ds,e,e2,p⟩
  ·exact .inl ⟨xs,ds,e,e2,L2.Paired.mapP p fun _ _ h=>PD.up h⟩
  ·exact .inr ⟨xs,ds,e,e2,L2.Paired.mapP p fun _ _ h=>PD.up h⟩
theorem PD.mono {H:Hp} {n:Nat} {v:V} {d:PyData} (h:PD H n v d):∀ k,PD H (n + k) v d
 | 0=>h
 | k + 1=>(PD.mono h k).up
def isS:PyData→Bool
 | .str _=>true
 | _=>false
theorem PD.str_of {H:Hp} {n:Nat} {v:V} {d:PyData} (h:PD H n v d) (e:isS d=true):∃ x,v=.str x∧d=.str x:=by
 cases n with
 | zero=>cases v <;> first | exact h.elim | (cases (show d=_ from h); cases e) | exact ⟨_,rfl,h.2⟩
 | succ n =>
  cases v <;> first | exact h.elim | (cases (show d=_ from h); cases e) | exact ⟨_,rfl,h.2⟩ | skip
  rcases h with ⟨xs,ds,e1,rfl,p⟩ | ⟨xs,ds,e1,rfl,p⟩ <;> cases e
theorem PD.list_of {H:Hp} {n:Nat} {v:V} {ds:List PyData} (h:PD H n v (.list ds)):∃ m a xs,n=m + 1∧v=.ref a∧H a=some (.lst xs)∧Paired (PD H m) xs ds:=by
 cases n with
 | zero=>cases v <;> first | exact h.elim | cases (show PyData.list ds=_ from h) | cases h.2
 | succ n =>
  cases v <;> first | exact h.elim | cases (show PyData.list ds=_ from h) | cases h.2 | skip
  rcases h with ⟨xs,ds',e1,e2,p⟩ | ⟨xs,ds',e1,e2,p⟩
  ·cases e2; exact ⟨n,_,xs,rfl,rfl,e1,p⟩
  ·cases e2
theorem PD.int_of {H:Hp} {n:Nat} {v:V} {i:Int} (h:PD H n v (.int i)):v=.int i:=by
 cases n with
 | zero=>cases v <;> first | exact h.elim | (have:=(show PyData.int i=_ from h); cases this; done) | (have:=(show PyData.int i=_ from h); cases this; rfl) | (cases h.2; done)
 | succ n =>
  cases v <;> first | exact h.elim | (have:=(show PyData.int i=_ from h); cases this; done) | (have:=(show PyData.int i=_ from h); cases this; rfl) | (cases h.2; done) | skip
  rcases h with ⟨xs,ds,e1,e2,p⟩ | ⟨xs,ds,e1,e2,p⟩ <;> cases e2
section
variable {P:Program} {w:World} {K:PySem.W.Frag} {mg:Str→Option Value} {base:Heap}
def spCell (K:PySem.W.Frag):Sp:=fun vs H Q _=>∃ (a:Addr) (ns:List Int) (k:Int),vs=[.ref a,.int k]∧SqL K H a (ns.map V.int)∧0≤k∧∀ c,Q (.int c) H
def spMixed:Sp:=fun vs H Q _=>∃ (c k:Int),vs=[.int c,.int k]∧0≤k∧k≤100∧∀ n,0≤n→Q (.int n) H
theorem sc_cell:FnScope ["_law_script","_law_k"] ["_law_script","_law_k"] (defScope s_l_cell_at):=⟨rfl,rfl,rfl,by decide +kernel,rfl,by decide +kernel,by decide +kernel⟩
theorem ok_cell {f:Addr} {fd:FuncData} (F:Fun K "_law_cell_at" "_law_cell_at" s_l_cell_at f fd) (T:Txt K mg):FnOk P w K mg base CX0 1 f fd ["_law_script","_law_k"] (spCell K):=by
 refine F.ok sc_cell (fun vs H Q E h=>?_) (fun cdv A outer s H vs Q E hr h=>?_)
 ·obtain ⟨a,ns,k,rfl,_⟩:=h
  rfl
 ·obtain ⟨a,ns,k,rfl,hS,hk,q⟩:=h
  refine ⟨_,pss_cons (ps_if (pt_cmpR op_lt (pv 1) (pe_callB call_len_seq (by rfl) T.len b_len (pa_cons (pv 0) pa_nil)) (nomark _)) (pss_one (ps_ret (pe_ix ix_list (pv 0) (pv 1) (fun _ _=>rfl)))) pss_nil) (pss_one (ps_ret pe_int)),?_⟩
  refine ⟨_,rfl,_,rfl,a,_,rfl,.inl hS,_,_,rfl,rfl,_,rfl,ite2 (fun h=>?_) (fun h=>q 0)⟩
  obtain ⟨n,rfl⟩:=Int.eq_ofNat_of_zero_le hk
  have hn:n < ns.length:=by
   have:=of_decide_eq_true h
   rw [List.length_map] at this
   omega
  exact ⟨_,rfl,_,rfl,a,_,_,_,rfl,rfl,hS,atI_nat (v:=V.int ns[n]) (by simp [hn]),q _⟩
theorem sc_mixed:FnScope ["_law_cell","_law_k","_law_number","_law_time"] ["_law_cell","_law_k"] (defScope s_l_mixed):=⟨rfl,rfl,rfl,by decide +kernel,rfl,by decide +kernel,by decide +kernel⟩
theorem ok_mixed {f:Addr} {fd:FuncData} (F:Fun K "_law_mixed" "_law_mixed" s_l_mixed f fd) (T:Txt K mg):FnOk P w K mg base CX0 1 f fd ["_law_cell","_law_k"] spMixed:=by
 refine F.ok sc_mixed (fun vs H Q E h=>?_) (fun cdv A outer s H vs Q E hr h=>?_)
 ·obtain ⟨c,k,rfl,_⟩:=h
  rfl
 ·obtain ⟨c,k,rfl,hk,hk2,q⟩:=h
  refine ⟨_,pss_cons (ps_if (pt_cmpR op_eq (pe_op op_mod (pv 0) pe_int) pe_int (nomark _))
    (pss_cons (ps_set (i:=2) sc_mixed.nd rfl (Or.inl rfl) (pe_op op_fdiv (pe_callB call_abs (by rfl) T.abs b_abs (pa_cons (pv 0) pa_nil)) pe_int))
    (pss_cons (ps_for PassesOwn.never rfl (pi_range1 rfl T.range (pa_cons (pv 1) pa_nil)) (pg_name (i:=3) sc_mixed.nd rfl (Or.inl rfl))
     (pss_one (ps_set (i:=2) sc_mixed.nd rfl (Or.inl rfl) (pe_op op_fdivB (pv 2) (pe_op op_pow pe_int pe_int)))))
    (pss_one (ps_ret (pv 2))))) pss_nil)
   (pss_cons (ps_set (i:=2) sc_mixed.nd rfl (Or.inl rfl) (pe_op op_mod (pe_op op_add (pv 0) (pe_op op_mul pe_int (pv 1))) pe_int))
   (pss_cons (ps_set (i:=2) sc_mixed.nd rfl (Or.inl rfl) (pe_op op_mod (pe_op op_add (pe_op op_add (pe_op op_mul (pv 2) (pv 2)) (pe_op op_mul pe_int (pv 2))) (pv 1)) pe_int))
   (pss_one (ps_ret (pe_op op_mod (pe_op op_mul (pv 2) (pv 2)) pe_int))))),?_⟩
  refine ⟨_,rfl,_,_,rfl,rfl,(by show (0:Int) < 2; decide),rfl,_,rfl,ite2 (fun _=>?_) (fun _=>?_)⟩
  ·refine ⟨_,rfl,c,rfl,_,_,rfl,rfl,⟨by decide,by decide⟩,?_⟩
   refine ⟨_,rfl,k,rfl,by omega,by omega,for_range (n:=k.toNat) (fun i σ' H'=>H'=H∧∃ (n:Int) (t:Option V),0≤n∧σ'=[some (.int c),some (.int k),some (.int n),t]) ?_ ?_ ?_⟩
   ·refine ⟨rfl,_,_,?_,rfl⟩
    refine Int.ediv_nonneg ?_ (by decide)
    split <;> omega
   ·rintro i σ' H' hi ⟨rfl,n,t,hn,rfl⟩
    refine ⟨_,rfl,_,_,rfl,rfl,⟨by decide,by decide,by decide⟩,_,_,rfl,rfl,⟨by decide,by decide +kernel⟩,rfl,_,_,?_,rfl⟩
    exact Int.ediv_nonneg hn (by decide)
   ·rintro σ' H' ⟨rfl,n,t,hn,rfl⟩
    exact ⟨_,rfl,q n hn⟩
  ·refine ⟨_,rfl,_,rfl,_,_,rfl,rfl,.inl ⟨by decide,by decide⟩,_,_,rfl,rfl,_,_,rfl,rfl,(by show (0:Int) < 2147483629; decide),?_⟩
   generalize hn:(c + 7919 * k) % 2147483629=n
   have h1:0≤n:=by omega
   have h2:n < 2147483629:=by omega
   refine ⟨_,rfl,_,rfl,_,_,rfl,rfl,.inl ⟨by omega,by omega⟩,_,rfl,_,_,rfl,rfl,.inl ⟨by decide,by decide⟩,_,_,rfl,rfl,_,rfl,_,_,rfl,rfl,_,_,rfl,rfl,(by show (0:Int) < 2147483629; decide),?_⟩
   generalize hm:(n * n + 16807 * n + k) % 2147483629=m
   have h3:0≤m:=by omega
   have h4:m < 2147483629:=by omega
   refine ⟨_,rfl,_,rfl,_,_,rfl,rfl,.inl ⟨by omega,by omega⟩,_,_,rfl,rfl,(by show (0:Int) < 2147483587; decide),?_⟩
   exact q _ (Int.emod_nonneg _ (by decide))
end
end Net
namespace Net
open PySem L2
section
variable (shA:PyData→List Nat)
end
section
variable {shA:PyData→List Nat} {atom:List Nat→Option PyData}
end
end Net
namespace Net
open PySem L2
def mkS (l:List Nat):Str:=⟨l.toArray⟩
theorem cps_mkS (x:Str):mkS x.cps.toList=x:=by
 obtain ⟨a⟩:=x
 rfl
def cutA (c:Nat):List Nat→List Nat→List (List Nat)
 | w,[]=>[w]
 | w,d :: r=>if d=c then w :: cutA c [] r else cutA c (w++[d]) r
theorem cutA_ne (c:Nat):∀ (l w:List Nat),cutA c w l ≠ []
 | [],w=>List.cons_ne_nil _ _
 | d :: r,w=>by
  unfold cutA
  split
  ·exact List.cons_ne_nil _ _
  ·exact cutA_ne c r _
theorem cutA_free (c:Nat):∀ (l w:List Nat),c ∉ w→∀ p ∈ cutA c w l,c ∉ p
 | [],w,h,p,hp=>by
  rw [List.mem_singleton.mp hp]
  exact h
 | d :: r,w,h,p,hp=>by
  unfold cutA at hp
  split at hp
  ·rcases List.mem_cons.mp hp with rfl | hp
   ·exact h
   ·exact cutA_free c r [] (by simp) p hp
  ·rename_i hd
   refine cutA_free c r (w++[d]) ?_ p hp
   intro z
   rcases List.mem_append.mp z with z | z
   ·exact h z
   ·exact hd (List.mem_singleton.mp z).symm
def glueL (z:List Nat):List (List Nat)→List Nat
 | []=>[]
 | [p]=>p
 | p :: q :: r=>p++(z++glueL z (q :: r))
theorem glueL_cons (z p:List Nat) {ps:List (List Nat)} (h:ps ≠ []):glueL z (p :: ps)=p++(z++glueL z ps):=by
 cases ps with
 | nil=>exact absurd rfl h
 | cons _ _=>rfl
def replL (c:Nat) (z:List Nat) (l:List Nat):List Nat:=l.flatMap fun d=>if d=c then z else [d]
theorem glue_cut (c:Nat) (z:List Nat):∀ (l w:List Nat),glueL z (cutA c w l)=w++replL c z l
 | [],w=>by
  show w=w++[]
  rw [List.append_nil]
 | d :: r,w=>by
  unfold cutA
  split
  ·rename_i hd
   rw [glueL_cons z w (cutA_ne c r []),glue_cut c z r []]
   show _=w++((if d=c then z else [d])++replL c z r)
   rw [if_pos hd]
   rfl
  ·rename_i hd
   rw [glue_cut c z r (w++[d])]
   show _=w++((if d=c then z else [d])++replL c z r)
   rw [if_neg hd,List.append_assoc]
theorem repl_same (c:Nat):∀ l:List Nat,replL c [c] l=l
 | []=>rfl
 | d :: r=>by
  show (if d=c then [c] else [d])++replL c [c] r=_
  rw [repl_same c r]
  split
  ·rename_i h; rw [h]; rfl
  ·rfl
theorem join_glue (z:Str):∀ ps:List (List Nat),(Str.join z (ps.map mkS)).cps.toList=glueL z.cps.toList ps
 | []=>rfl
 | [p]=>rfl
 | p :: q :: r=>by
  have ej:Str.join z ((p :: q :: r).map mkS)=mkS p++z++Str.join z ((q :: r).map mkS):=rfl
  rw [ej,L2.Tx.app_cps,L2.Tx.app_cps,join_glue z (q :: r),List.append_assoc]
  rfl
theorem cutA_len (c:Nat):∀ (l w:List Nat),(cutA c w l).length≤l.length + 1
 | [],w=>Nat.le_refl 1
 | d :: r,w=>by
  unfold cutA
  split
  ·exact Nat.succ_le_succ (cutA_len c r [])
  ·exact Nat.le_succ_of_le (cutA_len c r _)
theorem split_any (x:Str) (c:Nat) (hk:Builtin.Str.strKind ⟨#[c]⟩≤1):PySem.Txt.split x ⟨#[c]⟩=(cutA c [] x.cps.toList).map mkS:=by
 have ej:Str.join ⟨#[c]⟩ ((cutA c [] x.cps.toList).map mkS)=x:=by
  refine str_ext ?_
  rw [join_glue,glue_cut]
  show []++replL c [c] x.cps.toList=_
  rw [repl_same]
  rfl
 have:=L2.Tx.split_join (y:=⟨#[c]⟩) (c:=c) (cs:=[]) rfl (parts:=(cutA c [] x.cps.toList).map mkS) (by
  intro z
  exact cutA_ne c _ _ (List.map_eq_nil_iff.mp z)) (fun p hp=>by
  obtain ⟨l,hl,rfl⟩:=List.mem_map.mp hp
  exact cutA_free c _ [] (by simp) l hl) hk (by
  rw [ej,List.length_map,← L2.Tx.len_eq x]
  exact cutA_len c _ _)
 rw [ej] at this
 exact this
theorem replace_any (x z:Str) (c:Nat) (hk:Builtin.Str.strKind ⟨#[c]⟩≤1):(PySem.Txt.replace x ⟨#[c]⟩ z).cps.toList=replL c z.cps.toList x.cps.toList:=by
 rw [PySem.StrLaws.replace_one,split_any x c hk,join_glue,glue_cut]
 rfl
end Net
namespace Net
open PySem L2 L2.Tx PySem.NumText
def figB (l:List Nat):Bool:=l.all fun c=>decide (48≤c) && decide (c≤57)
def figsOf:List Nat→List Nat
 | []=>[]
 | c :: r=>if c=45 then r else c :: r
def numOk (l:List Nat):Bool:=(decide (1≤(figsOf l).length) && decide ((figsOf l).length≤60) && figB (figsOf l)) && !(decide ((figsOf l)[0]?=some 48) && decide (l ≠ [48]))
def valL (l:List Nat):Int:=if l[0]?=some 45 then -(digitsVal (figsOf l):Int) else (digitsVal (figsOf l):Int)
theorem figB_all {l:List Nat} (h:figB l=true):AllDigits l:=fun c hc=>by
 have:=List.all_eq_true.mp h c hc
 simpa using this
theorem all_figB {l:List Nat} (h:AllDigits l):figB l=true:=List.all_eq_true.mpr fun c hc=>by
 have:=h c hc
 simpa using this
theorem dg_step {m d:Nat} (hm:0 < m) (hd:d < 10):dg (10 * m + d)=dg m++[48 + d]:=by
 unfold dg
 have t:Nat.toDigits 10 m++Nat.toDigits 10 d=Nat.toDigits 10 (10 * m + d):=Nat.toDigits_append_toDigits (by decide) hm hd
 rw [← t,List.map_append,Nat.toDigits_of_lt_base hd]
 congr 1
 have:∀ d:Nat,d < 10→([Nat.digitChar d].map Char.toNat)=[48 + d]:=by decide
 exact this d hd
theorem dg_one {d:Nat} (hd:d < 10):dg d=[48 + d]:=by
 unfold dg
 rw [Nat.toDigits_of_lt_base hd]
 have:∀ d:Nat,d < 10→([Nat.digitChar d].map Char.toNat)=[48 + d]:=by decide
 exact this d hd
theorem num_of_aux:∀ (r:List Nat) (m:Nat),0 < m→AllDigits r→∃ k,0 < k∧dg k=dg m++r
 | [],m,hm,_=>⟨m,hm,by rw [List.append_nil]⟩
 | c :: r,m,hm,h=>by
  obtain ⟨h1,h2⟩:=h c List.mem_cons_self
  have e:=dg_step (m:=m) (d:=c - 48) hm (by omega)
  rw [show 48 + (c - 48)=c by omega] at e
  obtain ⟨k,hk,ek⟩:=num_of_aux r (10 * m + (c - 48)) (by omega) fun x hx=>h x (List.mem_cons_of_mem _ hx)
  exact ⟨k,hk,by rw [ek,e,List.append_assoc]; rfl⟩
theorem num_of {l:List Nat} (hne:l ≠ []) (h:AllDigits l) (h0:l[0]? ≠ some 48):∃ k,0 < k∧dg k=l:=by
 cases l with
 | nil=>exact absurd rfl hne
 | cons c r =>
  obtain ⟨h1,h2⟩:=h c List.mem_cons_self
  have hc:c ≠ 48:=fun z=>h0 (by rw [z]; rfl)
  obtain ⟨k,hk,ek⟩:=num_of_aux r (c - 48) (by omega) fun x hx=>h x (List.mem_cons_of_mem _ hx)
  refine ⟨k,hk,?_⟩
  rw [ek,dg_one (by omega),show 48 + (c - 48)=c by omega]
  rfl
theorem val_dg (m:Nat):digitsVal (dg m)=m:=PySem.W.KIN.val_back m
theorem num_word {l:List Nat} (h:numOk l=true):(numT (valL l)).cps.toList=l∧AllDigits (figsOf l)∧figsOf l ≠ []∧(figsOf l).length≤60∧l ≠ []∧PySem.intText? (mkS l)=some (valL l):=by
 unfold numOk at h
 simp only [Bool.and_eq_true,decide_eq_true_eq,Bool.not_eq_true',Bool.and_eq_false_iff,decide_eq_false_iff_not] at h
 obtain ⟨⟨⟨h1,h2⟩,h3⟩,h4⟩:=h
 have hd:=figB_all h3
 have hne:figsOf l ≠ []:=fun z=>by rw [z] at h1; exact absurd h1 (by decide)
 have hl:l ≠ []:=fun z=>by rw [z] at hne; exact hne rfl
 cases l with
 | nil=>exact absurd rfl hl
 | cons c r =>
  by_cases hc:c=45
  ·subst hc
   have ef:figsOf (45 :: r)=r:=by show (if (45:Nat)=45 then r else 45 :: r)=r; rw [if_pos rfl]
   rw [ef] at h1 h2 h3 h4 hd hne
   have h0:r[0]? ≠ some 48:=fun z=>by
    rcases h4 with h4 | h4
    ·exact h4 z
    ·exact h4 (by simp)
   obtain ⟨k,hk,ek⟩:=num_of hne hd h0
   have ev:valL (45 :: r)=-(k:Int):=by
    show (if (45 :: r)[0]?=some 45 then -(digitsVal (figsOf (45 :: r)):Int) else _)=_
    rw [if_pos (show (45 :: r)[0]?=some 45 from rfl),ef,← ek,val_dg]
   obtain ⟨m,rfl⟩:∃ m,k=m + 1:=⟨k - 1,by omega⟩
   have en:-((m + 1:Nat):Int)=Int.negSucc m:=rfl
   refine ⟨by rw [ev,en,numT_neg,ek],by rw [ef]; exact hd,by rw [ef]; exact hne,by rw [ef]; exact h2,List.cons_ne_nil _ _,?_⟩
   have e:=intText_neg (x:=mkS (45 :: r)) (rfl:(mkS (45 :: r)).cps.toList=45 :: r) hd hne (by show (mkS (45 :: r)).cps.size≤_; show (45 :: r).toArray.size≤_; simp; omega)
   rw [e,ev,← ek,val_dg]
  ·have ef:figsOf (c :: r)=c :: r:=by show (if c=45 then r else c :: r)=_; rw [if_neg hc]
   rw [ef] at h1 h2 h3 h4 hd hne
   have hl0:(c :: r)[0]? ≠ some 45:=fun z=>hc (by simpa using z)
   have ev0:valL (c :: r)=(digitsVal (c :: r):Int):=by
    show (if (c :: r)[0]?=some 45 then _ else (digitsVal (figsOf (c :: r)):Int))=_
    rw [if_neg hl0,ef]
   have it:=intText_digits (x:=mkS (c :: r)) hd hne (by show (c :: r).toArray.size≤_; simp at h2 ⊢; omega)
   have hx:∃ k,dg k=c :: r:=by
    by_cases h0:(c :: r)[0]?=some 48
    ·have:c :: r=[48]:=by
      rcases h4 with h4 | h4
      ·exact absurd h0 h4
      ·simpa using h4
     exact ⟨0,by rw [this]; exact dg_one (by decide)⟩
    ·obtain ⟨k,_,ek⟩:=num_of hne hd h0
     exact ⟨k,ek⟩
   obtain ⟨k,ek⟩:=hx
   have ev:valL (c :: r)=(k:Int):=by rw [ev0,← ek,val_dg]
   refine ⟨by rw [ev,numT_nat,ek],by rw [ef]; exact hd,by rw [ef]; exact hne,by rw [ef]; exact h2,List.cons_ne_nil _ _,?_⟩
   rw [it,ev0]
   rfl
theorem name_signs {x:Str} (h:nameB x=true):∀ c ∈ x.cps.toList,97≤c∧c≤122:=fun c hc=>by
 unfold nameB at h
 simp only [Bool.and_eq_true,List.all_eq_true] at h
 have:=h.2 c hc
 unfold smallB at this
 simpa using this
theorem name_len {x:Str} (h:nameB x=true):1≤x.length∧x.length≤12:=by
 unfold nameB at h
 simp at h
 exact h.1
theorem num_signs {l:List Nat} (h:numOk l=true):∀ c ∈ l,c=45 ∨ (48≤c∧c≤57):=fun c hc=>by
 obtain ⟨_,hd,_,_,hl,_⟩:=num_word h
 cases l with
 | nil=>exact absurd rfl hl
 | cons d r =>
  by_cases h45:d=45
  ·have ef:figsOf (d :: r)=r:=by show (if d=45 then r else d :: r)=r; rw [if_pos h45]
   rw [ef] at hd
   rcases List.mem_cons.mp hc with z | z
   ·exact .inl (z.trans h45)
   ·exact .inr (hd c z)
  ·have ef:figsOf (d :: r)=d :: r:=by show (if d=45 then r else d :: r)=_; rw [if_neg h45]
   rw [ef] at hd
   exact .inr (hd c hc)
theorem num_len {l:List Nat} (h:numOk l=true):1≤l.length∧l.length≤61:=by
 obtain ⟨_,_,hn,h2,hl,_⟩:=num_word h
 cases l with
 | nil=>exact absurd rfl hl
 | cons d r =>
  have:(d :: r).length≤(figsOf (d :: r)).length + 1:=by
   show r.length + 1≤(if d=45 then r else d :: r).length + 1
   split
   ·exact Nat.le_refl _
   ·simp
  refine ⟨by simp,by omega⟩
theorem val_lt_aux:∀ (l:List Nat) (acc:Nat),AllDigits l→l.foldl (fun acc c=>acc * 10 + (c - 48)) acc + 1≤(acc + 1) * 10 ^ l.length
 | [],acc,_=>by simp
 | c :: r,acc,h=>by
  obtain ⟨h1,h2⟩:=h c List.mem_cons_self
  have ih:=val_lt_aux r (acc * 10 + (c - 48)) fun x hx=>h x (List.mem_cons_of_mem _ hx)
  rw [List.foldl_cons,List.length_cons]
  refine Nat.le_trans ih ?_
  rw [Nat.pow_succ,Nat.mul_comm (10 ^ r.length) 10,← Nat.mul_assoc]
  exact Nat.mul_le_mul_right _ (by omega)
theorem digitsVal_lt {l:List Nat} (h:AllDigits l):digitsVal l < 10 ^ l.length:=by
 have:=val_lt_aux l 0 h
 rw [Nat.zero_add,Nat.one_mul] at this
 exact this
theorem num_log {l:List Nat} (h:numOk l=true):(valL l).natAbs.log2 < 1920:=by
 obtain ⟨_,hd,_,h2,_,_⟩:=num_word h
 have h1:(valL l).natAbs < 10 ^ 120:=by
  have hv:digitsVal (figsOf l) < 10 ^ (figsOf l).length:=digitsVal_lt hd
  have hp:10 ^ (figsOf l).length≤10 ^ 120:=Nat.pow_le_pow_right (by decide) (Nat.le_trans h2 (by decide))
  have e:(valL l).natAbs=digitsVal (figsOf l):=by
   unfold valL
   split <;> simp
  omega
 have h3:(10:Nat) ^ 120 < 2 ^ 400:=by
  have z:((10:Nat) ^ 3) ^ 40 < (2 ^ 10) ^ 40:=Nat.pow_lt_pow_left (by decide) (by decide)
  rw [← Nat.pow_mul,← Nat.pow_mul] at z
  exact z
 by_cases h0:(valL l).natAbs=0
 ·rw [h0]; decide
 ·have:=(Nat.log2_lt h0).mpr (Nat.lt_trans h1 h3)
  omega
end Net
namespace Net
open PySem L2
end Net
namespace Net
open PySem L2 L2.Tx
def okX (x:Str):Prop:=x.length≤8000∧∀ c ∈ x.cps.toList,c < 1114112
theorem okX.len {x:Str} (h:okX x):x.length≤sizeLine:=Nat.le_trans h.1 (by decide)
theorem okX.rep {x:Str} (h:okX x):(reprText x).length≤100000:=by
 have:=StrLaws.reprText_len x fun c hc=>Nat.lt_trans (h.2 c hc) (by decide)
 have:=h.1
 omega
theorem okX.repS {x:Str} (h:okX x):(reprText x).length≤sizeLine:=Nat.le_trans h.rep (by decide)
structure Ecs (K:PySem.W.Frag) (mg:Str→Option Value) (ct:Addr):Prop where
 mt:mg "NoText" = some (.ref ct)
 ex:PySem.W.excIn K ct [.type "ValueError",.type "Exception",.type "BaseException",.type "object"] "ValueError.__new__" = true
def spNumX (ct:Addr):Sp:=fun vs H Q E=>∃ (x:Str),vs=[.str x,.int 60]∧okX x∧(numOk x.cps.toList=true→∀ H',Same H H'→Q (.int (valL x.cps.toList)) H')∧(numOk x.cps.toList=false→∀ H',Same H H'→E (.ref ct) none H')
theorem mem_figs (c:Nat):decide (c ∈ ("0123456789" : Str).cps.toList)=(decide (48≤c) && decide (c≤57)):=by
 have e:("0123456789" : Str).cps.toList=(List.range 10).map (48 + ·):=by decide +kernel
 rw [e,Bool.eq_iff_iff]
 simp only [decide_eq_true_eq,Bool.and_eq_true,List.mem_map,List.mem_range]
 constructor
 ·rintro ⟨k,h1,h2⟩
  omega
 ·intro h
  exact ⟨c - 48,by omega,by omega⟩
theorem minus_eq:("-" : Str)=⟨#[45]⟩:=by decide +kernel
theorem zero_eq:("0" : Str)=⟨#[48]⟩:=by decide +kernel
theorem empty_eq:("" : Str)=mkS []:=by decide +kernel
theorem figs_len (l:List Nat):(figsOf l).length≤l.length:=by
 cases l with
 | nil=>exact Nat.le_refl _
 | cons c r =>
  show (if c=45 then r else c :: r).length≤_
  split
  ·simp
  ·exact Nat.le_refl _
theorem mkS_len (l:List Nat):(mkS l).length=l.length:=by
 show l.toArray.size=_
 simp
theorem numOk_eq (l:List Nat):numOk l=((decide (1≤(figsOf l).length) && decide ((figsOf l).length≤60) && figB (figsOf l)) && !(decide ((figsOf l)[0]?=some 48) && decide (l ≠ [48]))):=rfl
section
variable {P:Program} {w:World} {K:PySem.W.Frag} {mg:Str→Option Value} {base:Heap} {ct:Addr}
theorem sc_readNum:FnScope ["text","most_figures","figures"] ["text","most_figures"] (defScope s_read_number):=⟨rfl,rfl,rfl,by decide +kernel,rfl,by decide +kernel,by decide +kernel⟩
theorem ok_readNum {f:Addr} {fd:FuncData} (F:Fun K "read_number" "read_number" s_read_number f fd) (T:Txt K mg) (R:Ecs K mg ct) (c1:Can P w K mg base 1 "is_made_of" ["text","signs"] spMade):FnOk P w K mg base (CXF P w) 2 f fd ["text","most_figures"] (spNumX ct):=by
 refine F.okX sc_readNum (fun vs H Q E h=>?_) (fun cdv A outer s H vs Q E hr W h=>?_)
 ·obtain ⟨x,rfl,_⟩:=h
  rfl
 ·obtain ⟨x,rfl,hx,q,qE⟩:=h
  refine ⟨_,(pss_cutE (ps_set (i:=2) sc_readNum.nd rfl (Or.inl rfl) (pe_ifExp (pt_val (pe_bm PySem.F.plainAttrs_str PySem.F.slot_str_startswith PySem.F.type_str_startswith mt_starts (pv 0) (pa_cons pe_str pa_nil))) (pe_slice sl_str (pv 0) (po_some pe_int) po_none) (pv 0)))
   (pss_cons (ps_if (PW.pt (pw_or (pt_not (pt_chain op_le op_le pe_int (pe_callB call_len_str (by rfl) T.len b_len (pa_cons (pv 2) pa_nil)) (pv 1))) (pw_or1 (pt_not (pt_val (pe_callC c1 hr (by rfl) (pa_cons (pv 2) (pa_cons (pe_globC T.figs (by rfl)) pa_nil))))))))
    (pss_one (ps_raise W rfl (by rfl) R.mt R.ex PySem.F.excBase_ValueError (pa_cons (pe_join (pj_cons (pe_rep (pv 0)) (pj_cons pe_str pj_nil)) (by decide)) pa_nil))) pss_nil)
   (pss_cons (ps_if (PW.pt (pw_and (pt_val (pe_bm PySem.F.plainAttrs_str PySem.F.slot_str_startswith PySem.F.type_str_startswith mt_starts (pv 2) (pa_cons pe_str pa_nil))) (pw_and1 (pt_cmpR op_ne (pv 0) pe_str (nomark _)))))
    (pss_one (ps_raise W rfl (by rfl) R.mt R.ex PySem.F.excBase_ValueError (pa_cons (pe_join (pj_cons (pe_rep (pv 0)) (pj_cons pe_str pj_nil)) (by decide)) pa_nil))) pss_nil)
   (pss_one (ps_ret (pe_callTy call_intT (by rfl) T.int b_int (pa_cons (pv 0) pa_nil))))))),?_⟩
  have hF:(mkS (figsOf x.cps.toList)).length≤8000:=by
   rw [mkS_len]
   exact Nat.le_trans (figs_len _) (by rw [len_eq]; exact hx.1)
  refine ⟨fun σ' H'=>σ'=[some (.str x),some (.int 60),some (.str (mkS (figsOf x.cps.toList)))]∧H=H',?_,?_⟩
  ·refine ⟨_,rfl,rfl,_,_,rfl,rfl,_,rfl,?_⟩
   rw [minus_eq,starts_one]
   refine ite2 (fun hi=>?_) (fun hi=>?_)
   ·have hi:=of_decide_eq_true hi
    refine ⟨_,rfl,_,rfl,_,rfl,hx.len,?_,rfl⟩
    show [some (V.str x),some (V.int 60),some (V.str _)]=_
    refine congrArg (fun z=>[some (V.str x),some (V.int 60),some (V.str z)]) (str_ext ?_)
    have hl:1≤x.length:=by
     have:=(List.getElem?_eq_some_iff.mp hi).1
     rw [len_eq] at this
     omega
    rw [show (1:Int)=((1:Nat):Int) from rfl,slice_from _ hl]
    show _=figsOf x.cps.toList
    cases e:x.cps.toList with
    | nil=>rw [e] at hi; cases hi
    | cons c r =>
     rw [e] at hi
     have hc:c=45:=by simpa using hi
     show r=if c=45 then r else c :: r
     rw [if_pos hc]
   ·have hi:¬ x.cps.toList[0]?=some 45:=fun z=>hi (decide_eq_true z)
    refine ⟨_,rfl,?_,rfl⟩
    show [some (V.str x),some (V.int 60),some (V.str _)]=_
    refine congrArg (fun z=>[some (V.str x),some (V.int 60),some (V.str z)]) (str_ext ?_)
    show _=figsOf x.cps.toList
    cases e:x.cps.toList with
    | nil=>rfl
    | cons c r =>
     rw [e] at hi
     have hc:c ≠ 45:=fun z=>hi (by rw [z]; rfl)
     show c :: r=if c=45 then r else c :: r
     rw [if_neg hc]
  ·rintro σ' H' ⟨rfl,rfl⟩
   have no1:¬ (1:Int)≤((mkS (figsOf x.cps.toList)).length:Int)→numOk x.cps.toList=false:=fun z=>by
    rw [mkS_len] at z
    rw [numOk_eq,decide_eq_false (p:=1≤(figsOf x.cps.toList).length) (by omega)]
    rfl
   have no2:¬ ((mkS (figsOf x.cps.toList)).length:Int)≤60→numOk x.cps.toList=false:=fun z=>by
    rw [mkS_len] at z
    rw [numOk_eq,decide_eq_false (p:=(figsOf x.cps.toList).length≤60) (by omega)]
    simp
   have raise:∀ {H':Hp},numOk x.cps.toList=false→Same H H'→E (.ref ct) none H':=fun z s'=>qE z _ s'
   refine ⟨_,rfl,_,rfl,Nat.le_trans hF (by decide),_,_,rfl,rfl,_,rfl,ite2 (fun h1=>?_) (fun h1=>⟨_,rfl,iteTb rfl (iteT ⟨_,rfl,.inl ⟨x,rfl,hx.repS,_,rfl,hx.rep,_,rfl,by decide +kernel,by show 1≤sizeLine; decide,raise (no1 fun z=>h1 (decide_eq_true z)) (Same.refl _)⟩⟩)⟩)⟩
   have h1:=of_decide_eq_true h1
   refine ⟨_,rfl,_,_,rfl,rfl,_,rfl,ite2 (fun h2=>iteT ⟨_,rfl,.inl ⟨x,rfl,hx.repS,_,rfl,hx.rep,_,rfl,by decide +kernel,by show 1≤sizeLine; decide,raise (no2 fun z=>?_) (Same.refl _)⟩⟩) (fun h2=>?_)⟩
   ·rw [decide_eq_true z] at h2
    exact Bool.false_ne_true h2
   have h2:((mkS (figsOf x.cps.toList)).length:Int)≤60:=by
    by_cases z:((mkS (figsOf x.cps.toList)).length:Int)≤60
    ·exact z
    ·exact absurd (by rw [decide_eq_false z]; rfl) h2
   have f1:decide (1≤(figsOf x.cps.toList).length)=true:=decide_eq_true (by rw [mkS_len] at h1; omega)
   have f2:decide ((figsOf x.cps.toList).length≤60)=true:=decide_eq_true (by rw [mkS_len] at h2; omega)
   refine ⟨_,rfl,_,"0123456789",rfl,Nat.le_trans hF (by decide),fun H1 s1=>⟨_,rfl,?_⟩⟩
   have e3:((mkS (figsOf x.cps.toList)).cps.toList.all fun c=>decide (c ∈ ("0123456789" : Str).cps.toList))=figB (figsOf x.cps.toList):=by
    simp only [mem_figs]
    rfl
   rw [e3]
   cases h3:figB (figsOf x.cps.toList) with
   | false =>
    refine iteT ⟨_,rfl,.inl ⟨x,rfl,hx.repS,_,rfl,hx.rep,_,rfl,by decide +kernel,by show 1≤sizeLine; decide,raise ?_ s1⟩⟩
    rw [numOk_eq,h3,f1,f2]
    rfl
   | true =>
    refine iteF ?_
    have fin:numOk x.cps.toList=true→∀ H2,Same H1 H2→∃ x' n,[V.str x]=[.str x']∧PySem.intText? x'=some n∧x'.length≤640∧Q (.int n) H2:=fun z H2 s2=>by
     obtain ⟨_,_,_,_,_,it⟩:=num_word z
     rw [cps_mkS] at it
     refine ⟨x,_,rfl,it,?_,q z _ (s1.trans s2)⟩
     have:=(num_len z).2
     rw [len_eq] at this
     omega
    refine ⟨_,rfl,rfl,_,_,rfl,rfl,_,rfl,?_⟩
    rw [zero_eq,starts_one]
    refine ite2 (fun hz=>?_) (fun hz=>iteF ⟨_,rfl,fin ?_ H1 (Same.refl _)⟩)
    ·have hz':(figsOf x.cps.toList)[0]?=some 48:=of_decide_eq_true hz
     refine ⟨_,rfl,rfl,_,rfl,ite2 (fun hn=>?_) (fun hn=>⟨_,rfl,fin ?_ H1 (Same.refl _)⟩)⟩
     ·refine ⟨_,rfl,.inl ⟨x,rfl,hx.repS,_,rfl,hx.rep,_,rfl,by decide +kernel,by show 1≤sizeLine; decide,raise ?_ s1⟩⟩
      have hne:x.cps.toList ≠ [48]:=fun z=>by
       have:x=(⟨#[48]⟩:Str):=str_ext z
       rw [this] at hn
       exact absurd hn (by decide +kernel)
      rw [numOk_eq,decide_eq_true hz',decide_eq_true hne]
      simp
     ·have he:x.cps.toList=[48]:=by
       by_cases z:x=(⟨#[48]⟩:Str)
       ·rw [z]
       ·exact absurd (by rw [decide_eq_false (fun y=>z (by injection y))]; rfl) hn
      rw [numOk_eq,f1,f2,h3,he]
      rfl
    ·have hz':¬ (figsOf x.cps.toList)[0]?=some 48:=fun z=>hz (decide_eq_true z)
     rw [numOk_eq,f1,f2,h3,decide_eq_false hz']
     rfl
end
end Net
namespace Net
open PySem L2 L2.Tx
def greatB (c:Nat):Bool:=decide (65≤c) && decide (c≤90)
def varB (x:Str):Bool:=decide (1≤x.length) && decide (x.length≤3) && x.cps.toList.all greatB
def okN (x:Str):Bool:=nameB x || varB x
inductive Ks where
 | all
 | of (w n:Str)
 | these (ns:List Str)
inductive Cl where
 | nm (w:Str) (ns:List Str)
 | cost (a b:Str) (n:Int)
 | num (n:Int)
 | size (s:Ks)
 | pairs (s t:Ks)
 | atm (a b:Cl)
 | neg (a:Cl)
 | bin (w:Str) (a b:Cl)
 | plus (a b:Cl)
 | two (w:Str) (a b:Cl)
 | ov (w v:Str) (s:Ks) (a:Cl)
 | tim (n:Int) (a:Cl)
def datK:Ks→PyData
 | .all=>.tuple [.str "all"]
 | .of w n=>.tuple [.str w,.str n]
 | .these ns=>.tuple [.str "these",.list (ns.map .str)]
def dat:Cl→PyData
 | .nm w ns=>.tuple (.str w :: ns.map .str)
 | .cost a b n=>.tuple [.str "cost",.str a,.str b,.int n]
 | .num n=>.tuple [.str "number",.int n]
 | .size s=>.tuple [.str "size",datK s]
 | .pairs s t=>.tuple [.str "pairs",datK s,datK t]
 | .atm a b=>.tuple [.str "atmost",dat a,dat b]
 | .neg a=>.tuple [.str "not",dat a]
 | .bin w a b=>.tuple [.str w,dat a,dat b]
 | .plus a b=>.tuple [.str "plus",dat a,dat b]
 | .two w a b=>.tuple [.str w,dat a,dat b]
 | .ov w v s a=>.tuple [.str w,.str v,datK s,dat a]
 | .tim n a=>.tuple [.str "times",.int n,dat a]
def hw:Cl→Str
 | .nm w _=>w
 | .cost _ _ _ => "cost"
 | .num _ => "number"
 | .size _ => "size"
 | .pairs _ _ => "pairs"
 | .atm _ _ => "atmost"
 | .neg _ => "not"
 | .bin w _ _=>w
 | .plus _ _ => "plus"
 | .two w _ _=>w
 | .ov w _ _ _=>w
 | .tim _ _ => "times"
def termWs:List Str:=["number","size","flow","apart","bare","pairs","plus","least","most","times"]
def isT (c:Cl):Bool:=decide (hw c ∈ termWs)
def nb (x:Str):Option Nat:=if x = "way" then some 2 else if x = "ring" then some 0 else if x = "round" then some 0 else if x = "must" then some 3 else if x = "flow" then some 2 else if x = "apart" then some 2 else if x = "bare" then some 2 else none
def wfN (n:Int):Prop:=numOk (numT n).cps.toList=true∧valL (numT n).cps.toList=n
def wfK:Ks→Prop
 | .all=>True
 | .of w n=>(w = "from" ∨ w = "to")∧okN n=true
 | .these ns=>∀ n ∈ ns,okN n=true
def wf:Cl→Prop
 | .nm w ns=>nb w=some ns.length∧∀ n ∈ ns,okN n=true
 | .cost a b n=>okN a=true∧okN b=true∧wfN n
 | .num n=>wfN n
 | .size s=>wfK s
 | .pairs s t=>wfK s∧wfK t
 | .atm a b=>isT a=true∧isT b=true∧wf a∧wf b
 | .neg a=>isT a=false∧wf a
 | .bin w a b=>(w = "and" ∨ w = "or")∧isT a=false∧isT b=false∧wf a∧wf b
 | .plus a b=>isT a=true∧isT b=true∧wf a∧wf b
 | .two w a b=>(w = "least" ∨ w = "most")∧isT a=true∧isT b=true∧wf a∧wf b
 | .ov w v s a=>(w = "each" ∨ w = "some")∧varB v=true∧wfK s∧isT a=false∧wf a
 | .tim n a=>0≤n∧wfN n∧isT a=true∧wf a
def dep:Cl→Nat
 | .atm a b=>1 + max (dep a) (dep b)
 | .neg a=>1 + dep a
 | .bin _ a b=>1 + max (dep a) (dep b)
 | .plus a b=>1 + max (dep a) (dep b)
 | .two _ a b=>1 + max (dep a) (dep b)
 | .ov _ _ _ a=>1 + dep a
 | .tim _ a=>1 + dep a
 | _=>1
def rn:Cl→Nat
 | .atm a b=>max (rn a) (rn b)
 | .neg a=>1 + rn a
 | .bin _ a b=>1 + max (rn a) (rn b)
 | .plus a b=>1 + max (rn a) (rn b)
 | .two _ a b=>1 + max (rn a) (rn b)
 | .ov _ _ _ a=>1 + rn a
 | .tim _ a=>1 + rn a
 | _=>1
def gl:List Str→List Str
 | []=>[]
 | n :: r=>n :: r.flatMap fun m=>[(",": Str),m]
def wdK:Ks→List Str
 | .all=>["all"]
 | .of w n=>[w,n]
 | .these ns => "{" :: (gl ns++[("}" : Str)])
def wd:Cl→List Str
 | .nm w ns=>w :: ns
 | .cost a b n=>["cost",a,b,"<=",numT n]
 | .num n=>[numT n]
 | .size s => "size" :: wdK s
 | .pairs s t => "pairs" :: (wdK s++wdK t)
 | .atm a b=>wd a++("<=" : Str) :: wd b
 | .neg a => "not" :: wd a
 | .bin w a b => "(" :: (wd a++w :: (wd b++[(")" : Str)]))
 | .plus a b => "(" :: (wd a++("+" : Str) :: (wd b++[(")" : Str)]))
 | .two w a b=>w :: "(" :: (wd a++("," : Str) :: (wd b++[(")" : Str)]))
 | .ov w v s a=>w :: v :: "in" :: (wdK s++(":" : Str) :: wd a)
 | .tim n a=>numT n :: "*" :: wd a
def hd (l:List Str):Str:=l.headD ""
def rName (l:List Str):Option (Str × List Str):=if okN (hd l)=true then some (hd l,l.tail) else none
def rPass (w:Str) (l:List Str):Option (List Str):=if hd l=w then some l.tail else none
def rNms:Nat→List Str→Option (List Str × List Str)
 | 0,l=>some ([],l)
 | n + 1,l=>(rName l).bind fun q=>(rNms n q.2).map fun p=>(q.1 :: p.1,p.2)
def rMore:List Str→Option (List Str × List Str)
 | []=>some ([],[])
 | [a]=>if a = "," then none else some ([],[a])
 | a :: w :: l=>if a = "," then (if okN w=true then (rMore l).map fun q=>(w :: q.1,q.2) else none) else some ([],a :: w :: l)
def rNames (l:List Str):Option (List Str × List Str) :=
 if hd l = "}" then some ([],l.tail) else (rName l).bind fun q=>(rMore q.2).bind fun p=>(rPass "}" p.2).map fun l3=>(q.1 :: p.1,l3)
def rSet (l:List Str):Option (Ks × List Str) :=
 if hd l = "all" then some (.all,l.tail) else if hd l = "from" ∨ hd l = "to" then (rName l.tail).map fun q=>(.of (hd l) q.1,q.2)
 else if hd l = "{" then (rNames l.tail).map fun q=>(.these q.1,q.2) else none
def rNum (w:Str):Option Int:=if numOk w.cps.toList=true then some (valL w.cps.toList) else none
def rCost (l:List Str):Option (Cl × List Str):=(rName l).bind fun q=>(rName q.2).bind fun p=>(rPass "<=" p.2).bind fun l3=>(rNum (hd l3)).map fun n=>(.cost q.1 p.1 n,l3.tail)
abbrev Rdr:=List Str→Option (Cl × List Str)
def wtOf (f:Rdr):Rdr:=fun l=>(f l).bind fun q=>if isT q.1=true then some q else none
def whOf (f:Rdr):Rdr:=fun l=>(f l).bind fun q=>if isT q.1=false ∨ hd q.2 ≠ "<=" then some q else (wtOf f q.2.tail).map fun p=>(.atm q.1 p.1,p.2)
def wcOf (f:Rdr):Rdr:=fun l=>(whOf f l).bind fun q=>if isT q.1=true then none else some q
def rOver (f:Rdr) (w:Str):Rdr:=fun l=>if varB (hd l)=true then (rPass "in" l.tail).bind fun l1=>(rSet l1).bind fun q=>(rPass ":" q.2).bind fun l2=>(wcOf f l2).map fun p=>(.ov w (hd l) q.1 p.1,p.2) else none
def rTwo (f:Rdr) (w:Str):Rdr:=fun l=>(rPass "(" l).bind fun l1=>(wtOf f l1).bind fun q=>(rPass "," q.2).bind fun l2=>(wtOf f l2).bind fun p=>(rPass ")" p.2).map fun l3=>(.two w q.1 p.1,l3)
def rBr (f:Rdr):Rdr:=fun l=>(whOf f l).bind fun q=>(whOf f q.2.tail).bind fun p=>(rPass ")" p.2).bind fun l3 =>
 if hd q.2 = "+" ∧ isT q.1=true∧isT p.1=true then some (.plus q.1 p.1,l3) else if (hd q.2 = "and" ∨ hd q.2 = "or")∧isT q.1=false∧isT p.1=false then some (.bin (hd q.2) q.1 p.1,l3) else none
def rFN (f:Rdr) (w:Str):Rdr:=fun l=>(rNum w).bind fun n=>if hd l ≠ "*" then some (.num n,l) else if n < 0 then none else (wtOf f l.tail).map fun q=>(.tim n q.1,q.2)
def firstOf (f:Rdr):Rdr:=fun l =>
 match nb (hd l) with
 | some n=>(rNms n l.tail).map fun q=>(.nm (hd l) q.1,q.2)
 | none=>if hd l = "cost" then rCost l.tail else if hd l = "not" then (wcOf f l.tail).map fun q=>(.neg q.1,q.2)
  else if hd l = "each" ∨ hd l = "some" then rOver f (hd l) l.tail else if hd l = "size" then (rSet l.tail).map fun q=>(.size q.1,q.2)
  else if hd l = "pairs" then (rSet l.tail).bind fun q=>(rSet q.2).map fun p=>(.pairs q.1 p.1,p.2)
  else if hd l = "least" ∨ hd l = "most" then rTwo f (hd l) l.tail else if hd l = "(" then rBr f l.tail else rFN f (hd l) l.tail
def rFirst:Nat→Rdr
 | 0=>fun _=>none
 | m + 1=>firstOf (rFirst m)
theorem hd_cons (w:Str) (l:List Str):hd (w :: l)=w:=rfl
theorem hd_ne {w w':Str} {l:List Str} (h:w ≠ w'):hd (w :: l) ≠ w':=h
theorem rName_ok {n:Str} {l:List Str} (h:okN n=true):rName (n :: l)=some (n,l):=if_pos h
theorem rNms_ok {l:List Str}:∀ {ns:List Str},(∀ n ∈ ns,okN n=true)→rNms ns.length (ns++l)=some (ns,l)
 | [],_=>rfl
 | n :: r,h=>by
  show (rName (n :: (r++l))).bind _=_
  rw [rName_ok (h n List.mem_cons_self)]
  show (rNms r.length (r++l)).map _=_
  rw [rNms_ok fun x hx=>h x (List.mem_cons_of_mem _ hx)]
  rfl
theorem okN_ne {w n:Str} (h:okN n=true) (hw:okN w=false):n ≠ w:=fun z=>by rw [z,hw] at h; cases h
theorem rMore_ok {l:List Str} (hl:hd l ≠ ","):∀ {ns:List Str},(∀ n ∈ ns,okN n=true)→rMore (ns.flatMap (fun m=>[(",": Str),m])++l)=some (ns,l)
 | [],_=>by
  show rMore l=_
  match l,hl with
  | [],_=>rfl
  | [a],hl=>exact if_neg hl
  | a :: w :: l,hl=>exact if_neg hl
 | n :: r,h=>by
  show rMore ("," :: n :: (r.flatMap (fun m=>[(",": Str),m])++l))=_
  unfold rMore
  rw [if_pos rfl,if_pos (h n List.mem_cons_self),rMore_ok hl fun x hx=>h x (List.mem_cons_of_mem _ hx)]
  rfl
theorem rNames_ok {l:List Str}:∀ {ns:List Str},(∀ n ∈ ns,okN n=true)→rNames (gl ns++("}" : Str) :: l)=some (ns,l)
 | [],_=>rfl
 | n :: r,h=>by
  show rNames (n :: (r.flatMap (fun m=>[(",": Str),m])++("}" : Str) :: l))=_
  unfold rNames
  rw [hd_cons,if_neg (okN_ne (h n List.mem_cons_self) (by decide +kernel)),rName_ok (h n List.mem_cons_self)]
  show (rMore (r.flatMap (fun m=>[(",": Str),m])++("}" : Str) :: l)).bind _=_
  rw [rMore_ok (hd_ne (by decide +kernel)) fun x hx=>h x (List.mem_cons_of_mem _ hx)]
  rfl
theorem rSet_ok {s:Ks} (h:wfK s) (l:List Str):rSet (wdK s++l)=some (s,l):=by
 cases s with
 | all=>rfl
 | of w n =>
  obtain ⟨hw,hn⟩:=h
  show rSet (w :: n :: l)=_
  have h1:w ≠ "all" := by rcases hw with rfl | rfl <;> decide +kernel
  unfold rSet
  rw [hd_cons,if_neg h1,if_pos hw]
  show (rName (n :: l)).map _=_
  rw [rName_ok hn]
  rfl
 | these ns =>
  show rSet ("{" :: (gl ns++[("}" : Str)]++l))=_
  unfold rSet
  rw [hd_cons,if_neg (by decide +kernel),if_neg (by decide +kernel),if_pos rfl]
  show (rNames (gl ns++[("}" : Str)]++l)).map _=_
  rw [List.append_assoc]
  show (rNames (gl ns++("}" : Str) :: l)).map _=_
  rw [rNames_ok h]
  rfl
theorem rNum_ok {n:Int} (h:wfN n):rNum (numT n)=some n:=by
 unfold rNum
 rw [if_pos h.1,h.2]
theorem num_ne {n:Int} (h:wfN n) {w:Str} (hw:(w.cps.toList.any fun c=>!(decide (c=45) || (decide (48≤c) && decide (c≤57))))=true):numT n ≠ w:=fun z=>by
 obtain ⟨c,hc,h1⟩:=List.any_eq_true.mp hw
 rw [← z] at hc
 rcases num_signs h.1 c hc with h2 | ⟨h2,h3⟩
 ·simp [h2] at h1
 ·simp [h2,h3] at h1
theorem nb_num {n:Int} (h:wfN n):nb (numT n)=none:=by
 unfold nb
 rw [if_neg (num_ne h (by decide +kernel)),if_neg (num_ne h (by decide +kernel)),if_neg (num_ne h (by decide +kernel)),if_neg (num_ne h (by decide +kernel)),if_neg (num_ne h (by decide +kernel)),if_neg (num_ne h (by decide +kernel)),if_neg (num_ne h (by decide +kernel))]
theorem first_num (f:Rdr) {n:Int} (h:wfN n) (l:List Str):firstOf f (numT n :: l)=rFN f (numT n) l:=by
 unfold firstOf
 rw [hd_cons,nb_num h]
 show (if numT n = "cost" then _ else _)=_
 rw [if_neg (num_ne h (by decide +kernel)),if_neg (num_ne h (by decide +kernel)),if_neg (fun z=>z.elim (num_ne h (by decide +kernel)) (num_ne h (by decide +kernel))),if_neg (num_ne h (by decide +kernel)),if_neg (num_ne h (by decide +kernel)),
  if_neg (fun z=>z.elim (num_ne h (by decide +kernel)) (num_ne h (by decide +kernel))),if_neg (num_ne h (by decide +kernel))]
 rfl
def isAt0:Cl→Bool
 | .atm _ _=>true
 | _=>false
theorem isT_no {a:Cl} (h:isT a=true):isAt0 a=false:=by
 cases a <;> first | rfl | exact absurd h (by show decide (("atmost" : Str) ∈ termWs) ≠ true; decide +kernel)
def FstOk (c:Cl):Prop:=∀ m rest,(rn c≤m→hd rest ≠ "*" → rFirst m (wd c++rest)=some (c,rest))∧(m < rn c→rFirst m (wd c++rest)=none)
def WhlOk (c:Cl):Prop:=∀ m rest,(rn c≤m→hd rest ≠ "*" → (isT c=true→hd rest ≠ "<=")→whOf (rFirst m) (wd c++rest)=some (c,rest))∧(m < rn c→whOf (rFirst m) (wd c++rest)=none)
theorem whl_of {c:Cl} (h:FstOk c):WhlOk c:=fun m rest=>⟨fun h1 h2 h3=>by
  unfold whOf
  rw [(h m rest).1 h1 h2]
  cases ht:isT c with
  | false=>exact if_pos (.inl ht)
  | true=>exact if_pos (.inr (h3 ht)),fun h1=>by
  unfold whOf
  rw [(h m rest).2 h1]
  rfl⟩
theorem wt_ok {c:Cl} (h:FstOk c) (ht:isT c=true) {m:Nat} {rest:List Str} (h1:rn c≤m) (h2:hd rest ≠ "*"):wtOf (rFirst m) (wd c++rest)=some (c,rest):=by
 unfold wtOf
 rw [(h m rest).1 h1 h2]
 exact if_pos ht
theorem wt_no {c:Cl} (h:FstOk c) {m:Nat} {rest:List Str} (h1:m < rn c):wtOf (rFirst m) (wd c++rest)=none:=by
 unfold wtOf
 rw [(h m rest).2 h1]
 rfl
theorem wc_ok {c:Cl} (h:WhlOk c) (ht:isT c=false) {m:Nat} {rest:List Str} (h1:rn c≤m) (h2:hd rest ≠ "*"):wcOf (rFirst m) (wd c++rest)=some (c,rest):=by
 unfold wcOf
 rw [(h m rest).1 h1 h2 fun z=>by rw [ht] at z; cases z]
 exact if_neg (by rw [ht]; exact Bool.false_ne_true)
theorem wc_no {c:Cl} (h:WhlOk c) {m:Nat} {rest:List Str} (h1:m < rn c):wcOf (rFirst m) (wd c++rest)=none:=by
 unfold wcOf
 rw [(h m rest).2 h1]
 rfl
theorem whl_atm {a b:Cl} (ha:FstOk a) (hb:FstOk b) (ta:isT a=true) (tb:isT b=true):WhlOk (.atm a b):=fun m rest=>by
 have e:wd (.atm a b)++rest=wd a++("<=" : Str) :: (wd b++rest):=by
  show (wd a++("<=" : Str) :: wd b)++rest=_
  rw [List.append_assoc]
  rfl
 have er:rn (.atm a b)=max (rn a) (rn b):=rfl
 rw [e,er]
 refine ⟨fun h1 h2 _=>?_,fun h1=>?_⟩
 ·unfold whOf
  rw [(ha m _).1 (by omega) (hd_ne (by decide +kernel))]
  show (if isT a=false ∨ ("<=" : Str) ≠ "<=" then _ else (wtOf (rFirst m) (wd b++rest)).map _)=_
  rw [if_neg (fun z=>z.elim (fun y=>by rw [ta] at y; cases y) (fun y=>y rfl)),wt_ok hb tb (by omega) h2]
  rfl
 ·by_cases h:m < rn a
  ·unfold whOf
   rw [(ha m _).2 h]
   rfl
  ·unfold whOf
   rw [(ha m _).1 (by omega) (hd_ne (by decide +kernel))]
   show (if isT a=false ∨ ("<=" : Str) ≠ "<=" then _ else (wtOf (rFirst m) (wd b++rest)).map _)=_
   rw [if_neg (fun z=>z.elim (fun y=>by rw [ta] at y; cases y) (fun y=>y rfl)),wt_no hb (by omega)]
   rfl
theorem fst_leaf {c:Cl} (hr:rn c=1) (h:∀ m rest,hd rest ≠ "*" → firstOf (rFirst m) (wd c++rest)=some (c,rest)):FstOk c:=fun m rest=>by
 rw [hr]
 cases m with
 | zero=>exact ⟨fun z=>absurd z (by omega),fun _=>rfl⟩
 | succ m=>exact ⟨fun _ h2=>h m rest h2,fun z=>absurd z (by omega)⟩
theorem fst_step {c:Cl} {k:Nat} (hr:rn c=1 + k) (h1:∀ m rest,k≤m→hd rest ≠ "*" → firstOf (rFirst m) (wd c++rest)=some (c,rest)) (h2:∀ m rest,m < k→firstOf (rFirst m) (wd c++rest)=none):FstOk c:=fun m rest=>by
 rw [hr]
 cases m with
 | zero=>exact ⟨fun z=>absurd z (by omega),fun _=>rfl⟩
 | succ m=>exact ⟨fun z s=>h1 m rest (by omega) s,fun z=>h2 m rest (by omega)⟩
theorem nb_hd {w:Str} {n:Nat} (h:nb w=some n) (f:Rdr) (l:List Str):firstOf f (w :: l)=(rNms n l).map fun q=>(.nm w q.1,q.2):=by
 unfold firstOf
 rw [hd_cons,h]
 rfl
theorem reads:∀ c:Cl,wf c→WhlOk c∧(isAt0 c=false→FstOk c)
 | .nm w ns,h=>by
  have F:FstOk (.nm w ns):=fst_leaf rfl fun m rest _=>by
   show firstOf _ (w :: (ns++rest))=_
   rw [nb_hd h.1,rNms_ok h.2]
   rfl
  exact ⟨whl_of F,fun _=>F⟩
 | .cost a b n,h=>by
  have F:FstOk (.cost a b n):=fst_leaf rfl fun m rest _=>by
   show firstOf _ ("cost" :: a :: b :: "<=" :: numT n :: rest)=_
   show rCost (a :: b :: "<=" :: numT n :: rest)=_
   unfold rCost
   rw [rName_ok h.1]
   show (rName (b :: "<=" :: numT n :: rest)).bind _=_
   rw [rName_ok h.2.1]
   show (rNum (numT n)).map _=_
   rw [rNum_ok h.2.2]
   rfl
  exact ⟨whl_of F,fun _=>F⟩
 | .num n,h=>by
  have F:FstOk (.num n):=fst_leaf rfl fun m rest hs=>by
   show firstOf _ (numT n :: rest)=_
   rw [first_num _ h]
   unfold rFN
   rw [rNum_ok h]
   exact if_pos hs
  exact ⟨whl_of F,fun _=>F⟩
 | .size s,h=>by
  have F:FstOk (.size s):=fst_leaf rfl fun m rest _=>by
   show (rSet (wdK s++rest)).map _=_
   rw [rSet_ok h]
   rfl
  exact ⟨whl_of F,fun _=>F⟩
 | .pairs s t,h=>by
  have F:FstOk (.pairs s t):=fst_leaf rfl fun m rest _=>by
   show (rSet ((wdK s++wdK t)++rest)).bind _=_
   rw [List.append_assoc,rSet_ok h.1]
   show (rSet (wdK t++rest)).map _=_
   rw [rSet_ok h.2]
   rfl
  exact ⟨whl_of F,fun _=>F⟩
 | .atm a b,h=>by
  obtain ⟨ta,tb,wa,wb⟩:=h
  exact ⟨whl_atm ((reads a wa).2 (isT_no ta)) ((reads b wb).2 (isT_no tb)) ta tb,fun z=>by cases z⟩
 | .neg a,h=>by
  obtain ⟨ta,wa⟩:=h
  have A:=(reads a wa).1
  have F:FstOk (.neg a):=fst_step (k:=rn a) rfl (fun m rest hm hs=>by
    show (wcOf (rFirst m) (wd a++rest)).map _=_
    rw [wc_ok A ta hm hs]
    rfl) fun m rest hm=>by
    show (wcOf (rFirst m) (wd a++rest)).map _=_
    rw [wc_no A hm]
    rfl
  exact ⟨whl_of F,fun _=>F⟩
 | .bin w a b,h=>by
  obtain ⟨hw,ta,tb,wa,wb⟩:=h
  have A:=(reads a wa).1
  have B:=(reads b wb).1
  have F:FstOk (.bin w a b):=by
   have e:∀ rest,(wd a++w :: (wd b++[(")" : Str)]))++rest=wd a++w :: (wd b++(")" : Str) :: rest):=fun rest=>by simp
   have w1:w ≠ "*" := by rcases hw with rfl | rfl <;> decide +kernel
   have w2:w ≠ "+" := by rcases hw with rfl | rfl <;> decide +kernel
   refine fst_step (k:=max (rn a) (rn b)) rfl (fun m rest hm hs=>?_) fun m rest hm=>?_
   ·show rBr (rFirst m) ((wd a++w :: (wd b++[(")" : Str)]))++rest)=_
    rw [e]
    unfold rBr
    rw [(A m _).1 (by omega) (hd_ne w1) fun z=>by rw [ta] at z; cases z]
    show (whOf (rFirst m) (wd b++(")" : Str) :: rest)).bind _=_
    rw [(B m _).1 (by omega) (hd_ne (by decide +kernel)) fun z=>by rw [tb] at z; cases z]
    show (if w = "+" ∧ isT a=true∧isT b=true then _ else if (w = "and" ∨ w = "or")∧isT a=false∧isT b=false then _ else _)=_
    rw [if_neg (fun z=>w2 z.1),if_pos ⟨hw,ta,tb⟩]
    rfl
   ·show rBr (rFirst m) ((wd a++w :: (wd b++[(")" : Str)]))++rest)=_
    rw [e]
    unfold rBr
    by_cases ha:m < rn a
    ·rw [(A m _).2 ha]
     rfl
    ·rw [(A m _).1 (by omega) (hd_ne w1) fun z=>by rw [ta] at z; cases z]
     show (whOf (rFirst m) (wd b++(")" : Str) :: rest)).bind _=_
     rw [(B m _).2 (by omega)]
     rfl
  exact ⟨whl_of F,fun _=>F⟩
 | .plus a b,h=>by
  obtain ⟨ta,tb,wa,wb⟩:=h
  have A:=(reads a wa).1
  have B:=(reads b wb).1
  have F:FstOk (.plus a b):=by
   have e:∀ rest,(wd a++("+" : Str) :: (wd b++[(")" : Str)]))++rest=wd a++("+" : Str) :: (wd b++(")" : Str) :: rest):=fun rest=>by simp
   refine fst_step (k:=max (rn a) (rn b)) rfl (fun m rest hm hs=>?_) fun m rest hm=>?_
   ·show rBr (rFirst m) ((wd a++("+" : Str) :: (wd b++[(")" : Str)]))++rest)=_
    rw [e]
    unfold rBr
    rw [(A m _).1 (by omega) (hd_ne (by decide +kernel)) fun _=>hd_ne (by decide +kernel)]
    show (whOf (rFirst m) (wd b++(")" : Str) :: rest)).bind _=_
    rw [(B m _).1 (by omega) (hd_ne (by decide +kernel)) fun _=>hd_ne (by decide +kernel)]
    show (if ("+" : Str) = "+" ∧ isT a=true∧isT b=true then _ else _)=_
    rw [if_pos ⟨rfl,ta,tb⟩]
    rfl
   ·show rBr (rFirst m) ((wd a++("+" : Str) :: (wd b++[(")" : Str)]))++rest)=_
    rw [e]
    unfold rBr
    by_cases ha:m < rn a
    ·rw [(A m _).2 ha]
     rfl
    ·rw [(A m _).1 (by omega) (hd_ne (by decide +kernel)) fun _=>hd_ne (by decide +kernel)]
     show (whOf (rFirst m) (wd b++(")" : Str) :: rest)).bind _=_
     rw [(B m _).2 (by omega)]
     rfl
  exact ⟨whl_of F,fun _=>F⟩
 | .two w a b,h=>by
  obtain ⟨hw,ta,tb,wa,wb⟩:=h
  have A:=(reads a wa).2 (isT_no ta)
  have B:=(reads b wb).2 (isT_no tb)
  have F:FstOk (.two w a b):=by
   have e:∀ rest,(wd a++("," : Str) :: (wd b++[(")" : Str)]))++rest=wd a++("," : Str) :: (wd b++(")" : Str) :: rest):=fun rest=>by simp
   have ew:∀ (f:Rdr) (l:List Str),firstOf f (w :: l)=rTwo f w l:=fun f l=>by rcases hw with rfl | rfl <;> rfl
   refine fst_step (k:=max (rn a) (rn b)) rfl (fun m rest hm hs=>?_) fun m rest hm=>?_
   ·show firstOf (rFirst m) (w :: ("(" : Str) :: ((wd a++("," : Str) :: (wd b++[(")" : Str)]))++rest))=_
    rw [e,ew]
    show (wtOf (rFirst m) (wd a++("," : Str) :: (wd b++(")" : Str) :: rest))).bind _=_
    rw [wt_ok A ta (by omega) (hd_ne (by decide +kernel))]
    show (wtOf (rFirst m) (wd b++(")" : Str) :: rest)).bind _=_
    rw [wt_ok B tb (by omega) (hd_ne (by decide +kernel))]
    rfl
   ·show firstOf (rFirst m) (w :: ("(" : Str) :: ((wd a++("," : Str) :: (wd b++[(")" : Str)]))++rest))=_
    rw [e,ew]
    show (wtOf (rFirst m) (wd a++("," : Str) :: (wd b++(")" : Str) :: rest))).bind _=_
    by_cases ha:m < rn a
    ·rw [wt_no A ha]
     rfl
    ·rw [wt_ok A ta (by omega) (hd_ne (by decide +kernel))]
     show (wtOf (rFirst m) (wd b++(")" : Str) :: rest)).bind _=_
     rw [wt_no B (by omega)]
     rfl
  exact ⟨whl_of F,fun _=>F⟩
 | .ov w v s a,h=>by
  obtain ⟨hw,hv,hs,ta,wa⟩:=h
  have A:=(reads a wa).1
  have F:FstOk (.ov w v s a):=by
   have ew:∀ (f:Rdr) (l:List Str),firstOf f (w :: l)=rOver f w l:=fun f l=>by rcases hw with rfl | rfl <;> rfl
   have ev:∀ (m:Nat) (rest:List Str),firstOf (rFirst m) (wd (.ov w v s a)++rest)=(wcOf (rFirst m) (wd a++rest)).map fun p=>(.ov w v s p.1,p.2):=fun m rest=>by
    show firstOf (rFirst m) (w :: v :: ("in" : Str) :: ((wdK s++(":" : Str) :: wd a)++rest))=_
    rw [ew]
    unfold rOver
    rw [hd_cons,if_pos hv]
    show (rSet ((wdK s++(":" : Str) :: wd a)++rest)).bind _=_
    rw [List.append_assoc,rSet_ok hs]
    rfl
   refine fst_step (k:=rn a) rfl (fun m rest hm hr=>?_) fun m rest hm=>?_
   ·rw [ev,wc_ok A ta hm hr]
    rfl
   ·rw [ev,wc_no A hm]
    rfl
  exact ⟨whl_of F,fun _=>F⟩
 | .tim n a,h=>by
  obtain ⟨h0,hn,ta,wa⟩:=h
  have A:=(reads a wa).2 (isT_no ta)
  have F:FstOk (.tim n a):=by
   have ev:∀ (m:Nat) (rest:List Str),firstOf (rFirst m) (wd (.tim n a)++rest)=(wtOf (rFirst m) (wd a++rest)).map fun p=>(.tim n p.1,p.2):=fun m rest=>by
    show firstOf (rFirst m) (numT n :: ("*" : Str) :: (wd a++rest))=_
    rw [first_num _ hn]
    unfold rFN
    rw [rNum_ok hn]
    refine Eq.trans (if_neg (show ¬ n < 0 by omega)) ?_
    rfl
   refine fst_step (k:=rn a) rfl (fun m rest hm hr=>?_) fun m rest hm=>?_
   ·rw [ev,wt_ok A ta hm hr]
    rfl
   ·rw [ev,wt_no A hm]
    rfl
  exact ⟨whl_of F,fun _=>F⟩
end Net
namespace Net
open PySem L2 L2.Tx
def sgns:List Nat:=[40,41,123,125,44,58]
def sprB (S:List Nat) (l:List Nat):List Nat:=l.flatMap fun c=>if c ∈ S then [32,c,32] else [c]
theorem spr_repl {c:Nat} {S:List Nat} (hc:c ∉ S) (h32:c ≠ 32) (l:List Nat):replL c [32,c,32] (sprB S l)=sprB (c :: S) l:=by
 induction l with
 | nil=>rfl
 | cons d r ih =>
  show replL c [32,c,32] ((if d ∈ S then [32,d,32] else [d])++sprB S r)=(if d ∈ c :: S then [32,d,32] else [d])++sprB (c :: S) r
  have ha:∀ u v:List Nat,replL c [32,c,32] (u++v)=replL c [32,c,32] u++replL c [32,c,32] v:=fun u v=>by
   unfold replL
   rw [List.flatMap_append]
  rw [ha,ih]
  refine congrArg (·++sprB (c :: S) r) ?_
  by_cases hd:d ∈ S
  ·have hdc:d ≠ c:=fun z=>hc (z ▸ hd)
   rw [if_pos hd,if_pos (List.mem_cons_of_mem _ hd)]
   show (if 32=c then _ else [32])++((if d=c then _ else [d])++((if 32=c then _ else [32])++[]))=_
   rw [if_neg (Ne.symm h32),if_neg hdc]
   rfl
  ·rw [if_neg hd]
   show (if d=c then [32,c,32] else [d])++[]=_
   rw [List.append_nil]
   by_cases hdc:d=c
   ·rw [if_pos hdc,if_pos (by rw [hdc]; exact List.mem_cons_self),hdc]
   ·rw [if_neg hdc,if_neg (by simp [hdc,hd])]
theorem spr_nil (l:List Nat):sprB [] l=l:=by
 induction l with
 | nil=>rfl
 | cons d r ih =>
  show (if d ∈ ([]:List Nat) then _ else [d])++sprB [] r=_
  rw [ih,if_neg (fun z=>nomatch z)]
  rfl
theorem spr_len (S l:List Nat):(sprB S l).length≤3 * l.length:=by
 induction l with
 | nil=>exact Nat.le_refl _
 | cons d r ih =>
  show ((if d ∈ S then [32,d,32] else [d])++sprB S r).length≤_
  rw [List.length_append,List.length_cons]
  split
  ·show 3 + _≤_
   omega
  ·show 1 + _≤_
   omega
def flW (w:List Nat):List (List Nat):=if w=[] then [] else [w]
def tk:List Nat→List Nat→List (List Nat)
 | w,[]=>flW w
 | w,c :: r=>if c=32 then flW w++tk [] r else if c ∈ sgns then flW w++[c] :: tk [] r else tk (w++[c]) r
theorem tk_cut:∀ (l w:List Nat),(cutA 32 w (sprB [58,44,125,123,41,40] l)).filter (fun t=>decide (t ≠ []))=tk w l
 | [],w=>by
  show ([w]:List (List Nat)).filter _=flW w
  unfold flW
  by_cases h:w=[]
  ·rw [if_pos h,h]
   rfl
  ·rw [if_neg h,List.filter_cons_of_pos (by simp [h])]
   rfl
 | c :: r,w=>by
  have hm:(c ∈ [58,44,125,123,41,40]) ↔ c ∈ sgns:=by
   unfold sgns
   simp only [List.mem_cons,List.not_mem_nil,or_false]
   omega
  have fl:∀ L:List (List Nat),(w :: L).filter (fun t=>decide (t ≠ []))=flW w++L.filter fun t=>decide (t ≠ []):=fun L=>by
   unfold flW
   by_cases h:w=[]
   ·rw [if_pos h,h]
    rfl
   ·rw [if_neg h,List.filter_cons_of_pos (by simp [h])]
    rfl
  show (cutA 32 w ((if c ∈ [58,44,125,123,41,40] then [32,c,32] else [c])++sprB [58,44,125,123,41,40] r)).filter _=tk w (c :: r)
  unfold tk
  by_cases h32:c=32
  ·subst h32
   rw [if_neg (by decide),if_pos rfl]
   show (cutA 32 w (32 :: sprB _ r)).filter _=_
   unfold cutA
   rw [if_pos rfl,fl,tk_cut r []]
  ·rw [if_neg h32]
   by_cases hs:c ∈ sgns
   ·rw [if_pos (hm.mpr hs),if_pos hs]
    show (cutA 32 w (32 :: c :: 32 :: sprB _ r)).filter _=_
    unfold cutA
    rw [if_pos rfl,fl]
    unfold cutA
    rw [if_neg h32]
    unfold cutA
    rw [if_pos rfl,List.filter_cons_of_pos (by simp),tk_cut r []]
    rfl
   ·rw [if_neg (fun z=>hs (hm.mp z)),if_neg hs]
    show (cutA 32 w (c :: sprB _ r)).filter _=_
    conv=>lhs; unfold cutA
    rw [if_neg h32,tk_cut r (w++[c])]
def Sto (r:List Nat):Prop:=∀ c,r.head?=some c→c=32 ∨ c ∈ sgns
def plainL (v:List Nat):Prop:=∀ c ∈ v,c ≠ 32∧c ∉ sgns
theorem tk_acc:∀ (v w r:List Nat),plainL v→tk w (v++r)=tk (w++v) r
 | [],w,r,_=>by rw [List.append_nil]; rfl
 | c :: v,w,r,h=>by
  obtain ⟨h1,h2⟩:=h c List.mem_cons_self
  show tk w (c :: (v++r))=_
  conv=>lhs; unfold tk
  rw [if_neg h1,if_neg h2,tk_acc v _ r fun d hd=>h d (List.mem_cons_of_mem _ hd),List.append_assoc]
  rfl
theorem tk_stop {w r:List Nat} (hw:w ≠ []) (hr:Sto r):tk w r=w :: tk [] r:=by
 have fw:flW w=[w]:=if_neg hw
 cases r with
 | nil =>
  show flW w=w :: flW []
  rw [fw]
  rfl
 | cons c r =>
  unfold tk
  by_cases h32:c=32
  ·rw [if_pos h32,if_pos h32,fw]
   rfl
  ·have hs:c ∈ sgns:=(hr c rfl).resolve_left h32
   rw [if_neg h32,if_neg h32,if_pos hs,if_pos hs,fw]
   rfl
theorem tk_word {v r:List Nat} (hv:v ≠ []) (h:plainL v) (hr:Sto r):tk [] (v++r)=v :: tk [] r:=by
 rw [tk_acc v [] r h,List.nil_append,tk_stop hv hr]
theorem tk_sp (r:List Nat):tk [] (32 :: r)=tk [] r:=by
 conv=>lhs; unfold tk
 rw [if_pos rfl]
 rfl
theorem sto_sp (r:List Nat):Sto (32 :: r):=fun c h=>.inl (by simpa using h.symm)
theorem sto_nil:Sto []:=fun _ h=>nomatch h
def txK:Ks→Str
 | .all=>Str.join " " ["all"]
 | .of w n=>Str.join " " [w,n]
 | .these ns=>(("{" : Str)++Str.join ", " ns)++("}" : Str)
def tx:Cl→Str
 | .nm w ns=>Str.join " " (w :: ns)
 | .cost a b n=>(Str.join " " ["cost",a,b]++(" <= " : Str))++numT n
 | .num n=>numT n
 | .size s=>Str.join " " ["size",txK s]
 | .pairs s t=>Str.join " " ["pairs",txK s,txK t]
 | .atm a b=>(tx a++(" <= " : Str))++tx b
 | .neg a=>("not " : Str)++tx a
 | .bin w a b=>("(" : Str)++(tx a++((" " : Str)++(w++((" " : Str)++(tx b++((")" : Str)++Str.empty))))))
 | .plus a b=>("(" : Str)++(tx a++((" + " : Str)++(tx b++((")" : Str)++Str.empty))))
 | .two w a b=>w++(("(" : Str)++(tx a++((", " : Str)++(tx b++((")" : Str)++Str.empty)))))
 | .ov w v s a=>w++((" " : Str)++(v++((" in " : Str)++(txK s++((": " : Str)++(tx a++Str.empty))))))
 | .tim n a=>(numT n++(" * " : Str))++tx a
def cpsL (x:Str):List Nat:=x.cps.toList
def Apart (x:Str) (ws:List Str):Prop:=∀ r,Sto r→tk [] (x.cps.toList++r)=ws.map cpsL++tk [] r
def plainS (x:Str):Prop:=x.cps.toList ≠ []∧plainL x.cps.toList
theorem ap_word {x:Str} (h:plainS x):Apart x [x]:=fun r hr=>tk_word h.1 h.2 hr
theorem plain_name {x:Str} (h:okN x=true):plainS x:=by
 have key:1≤x.length∧∀ c ∈ x.cps.toList,65≤c∧c≤90 ∨ 97≤c∧c≤122:=by
  rcases Bool.or_eq_true_iff.mp h with h | h
  ·exact ⟨(name_len h).1,fun c hc=>.inr (name_signs h c hc)⟩
  ·unfold varB at h
   simp only [Bool.and_eq_true,decide_eq_true_eq,List.all_eq_true] at h
   refine ⟨h.1.1,fun c hc=>.inl ?_⟩
   have:=h.2 c hc
   unfold greatB at this
   simpa using this
 refine ⟨fun z=>?_,fun c hc=>?_⟩
 ·have:=key.1
  rw [← len_eq,z] at this
  exact absurd this (by decide)
 ·have:=key.2 c hc
  refine ⟨by omega,fun z=>?_⟩
  unfold sgns at z
  simp only [List.mem_cons,List.not_mem_nil,or_false] at z
  omega
theorem plain_num {n:Int} (h:wfN n):plainS (numT n):=by
 refine ⟨fun z=>?_,fun c hc=>?_⟩
 ·have:=(num_len h.1).1
  rw [z] at this
  exact absurd this (by decide)
 ·have:=num_signs h.1 c hc
  refine ⟨by omega,fun z=>?_⟩
  unfold sgns at z
  simp only [List.mem_cons,List.not_mem_nil,or_false] at z
  omega
theorem plain_lit {x:Str} (h:(decide (x.cps.toList ≠ []) && x.cps.toList.all fun c=>decide (c ≠ 32) && decide (c ∉ sgns))=true):plainS x:=by
 simp only [Bool.and_eq_true,decide_eq_true_eq,List.all_eq_true] at h
 exact h
theorem ap_sp {x y:Str} {ws vs:List Str} (hx:Apart x ws) (hy:Apart y vs):Apart (x++((" " : Str)++y)) (ws++vs):=fun r hr=>by
 rw [cps_app,cps_app,List.append_assoc,List.append_assoc,show (" " : Str).cps.toList=[32] from by decide +kernel]
 show tk [] (x.cps.toList++32 :: (y.cps.toList++r))=_
 rw [hx _ (sto_sp _),tk_sp,hy r hr,List.map_append,List.append_assoc]
theorem join_one (z x:Str):Str.join z [x]=x:=by
 refine str_ext ?_
 have:=join_glue z [x.cps.toList]
 rw [List.map_cons,cps_mkS] at this
 exact this
theorem join_two (z x y:Str) (l:List Str):Str.join z (x :: y :: l)=x++(z++Str.join z (y :: l)):=by
 refine str_ext ?_
 have e:∀ l:List Str,(Str.join z l).cps.toList=glueL z.cps.toList (l.map cpsL):=fun l=>by
  have:=join_glue z (l.map cpsL)
  rw [List.map_map] at this
  have e2:l.map (mkS ∘ cpsL)=l:=by
   have:(mkS ∘ cpsL)=id:=funext fun x=>cps_mkS x
   rw [this,List.map_id]
  rw [e2] at this
  exact this
 rw [e,cps_app,cps_app,e]
 rfl
theorem ap_join:∀ {l:List (Str × List Str)},l ≠ []→(∀ p ∈ l,Apart p.1 p.2)→Apart (Str.join " " (l.map (·.1))) (l.flatMap (·.2))
 | [],h,_=>absurd rfl h
 | [p],_,h=>by
  show Apart (Str.join " " [p.1]) (p.2++[])
  rw [join_one,List.append_nil]
  exact h p List.mem_cons_self
 | p :: q :: l,_,h=>by
  show Apart (Str.join " " (p.1 :: q.1 :: l.map (·.1))) (p.2++(q :: l).flatMap (·.2))
  rw [join_two]
  exact ap_sp (h p List.mem_cons_self) (ap_join (List.cons_ne_nil _ _) fun x hx=>h x (List.mem_cons_of_mem _ hx))
theorem ap_names {ns:List Str} (hne:ns ≠ []) (h:∀ n ∈ ns,plainS n):Apart (Str.join " " ns) ns:=by
 have:=ap_join (l:=ns.map fun n=>(n,[n])) (by simpa using hne) (fun p hp=>by
  obtain ⟨n,hn,rfl⟩:=List.mem_map.mp hp
  exact ap_word (h n hn))
 rw [List.map_map,List.flatMap_map] at this
 have e1:ns.map ((fun p:Str × List Str=>p.1) ∘ fun n=>(n,[n]))=ns:=by
  have:((fun p:Str × List Str=>p.1) ∘ fun n=>(n,[n]))=id:=rfl
  rw [this,List.map_id]
 have e2:(ns.flatMap fun n=>[n])=ns:=by
  induction ns with
  | nil=>rfl
  | cons a r ih=>simp
 rw [e1] at this
 have e3:(ns.flatMap fun a=>(((a,[a]):Str × List Str)).2)=ns:=e2
 rw [e3] at this
 exact this
theorem str_assoc (x y z:Str):(x++y)++z=x++(y++z):=str_ext (by rw [cps_app,cps_app,cps_app,cps_app,List.append_assoc])
def Lead (s:Str) (us:List Str):Prop:=∀ r,tk [] (s.cps.toList++r)=us.map cpsL++tk [] r
def Begs (s:Str):Prop:=∀ r,Sto (s.cps.toList++r)
theorem ap_lead {s y:Str} {us vs:List Str} (hs:Lead s us) (hy:Apart y vs):Apart (s++y) (us++vs):=fun r hr=>by
 rw [cps_app,List.append_assoc,hs,hy r hr,List.map_append,List.append_assoc]
theorem ap_then {x s y:Str} {ws us vs:List Str} (hx:Apart x ws) (hb:Begs s) (hs:Lead s us) (hy:Apart y vs):Apart (x++(s++y)) (ws++(us++vs)):=fun r hr=>by
 rw [cps_app,List.append_assoc,hx _ (by rw [cps_app,List.append_assoc]; exact hb _),ap_lead hs hy r hr,List.map_append,List.map_append,List.map_append,List.append_assoc,List.append_assoc,List.append_assoc]
theorem ap_empty:Apart Str.empty []:=fun r _=>rfl
theorem ap_mt {x:Str} {ws:List Str} (h:Apart x ws):Apart (x++Str.empty) ws:=fun r hr=>by
 rw [cps_app,show Str.empty.cps.toList=[] from rfl,List.append_nil]
 exact h r hr
theorem beg_of {s:Str} {c:Nat} {t:List Nat} (e:s.cps.toList=c :: t) (hc:c=32 ∨ c ∈ sgns):Begs s:=fun r d hd=>by
 rw [e] at hd
 have:c=d:=by simpa using hd
 rw [← this]
 exact hc
theorem e_le:(" <= " : Str).cps.toList=[32,60,61,32]:=by decide +kernel
theorem e_in:(" in " : Str).cps.toList=[32,105,110,32]:=by decide +kernel
theorem e_cm:(", " : Str).cps.toList=[44,32]:=by decide +kernel
theorem e_cn:(": " : Str).cps.toList=[58,32]:=by decide +kernel
theorem e_pl:(" + " : Str).cps.toList=[32,43,32]:=by decide +kernel
theorem e_ti:(" * " : Str).cps.toList=[32,42,32]:=by decide +kernel
theorem e_op:("(" : Str).cps.toList=[40]:=by decide +kernel
theorem e_sh:(")" : Str).cps.toList=[41]:=by decide +kernel
theorem e_bl:(" " : Str).cps.toList=[32]:=by decide +kernel
theorem e_no:("not " : Str).cps.toList=[110,111,116,32]:=by decide +kernel
theorem e_cu:("{" : Str).cps.toList=[123]:=by decide +kernel
theorem e_cv:("}" : Str).cps.toList=[125]:=by decide +kernel
theorem l_le:Lead " <= " ["<="]:=fun r=>by
 rw [e_le,show ([("<=" : Str)].map cpsL)=[[60,61]] from by decide +kernel]; rfl
theorem l_in:Lead " in " ["in"]:=fun r=>by
 rw [e_in,show ([("in" : Str)].map cpsL)=[[105,110]] from by decide +kernel]; rfl
theorem l_cm:Lead ", " [","]:=fun r=>by
 rw [e_cm,show ([("," : Str)].map cpsL)=[[44]] from by decide +kernel]; rfl
theorem l_cn:Lead ": " [":"]:=fun r=>by
 rw [e_cn,show ([(":" : Str)].map cpsL)=[[58]] from by decide +kernel]; rfl
theorem l_pl:Lead " + " ["+"]:=fun r=>by
 rw [e_pl,show ([("+" : Str)].map cpsL)=[[43]] from by decide +kernel]; rfl
theorem l_ti:Lead " * " ["*"]:=fun r=>by
 rw [e_ti,show ([("*" : Str)].map cpsL)=[[42]] from by decide +kernel]; rfl
theorem l_op:Lead "(" ["("]:=fun r=>by
 rw [show ([("(" : Str)].map cpsL)=[[40]] from by decide +kernel,e_op]; rfl
theorem l_sh:Lead ")" [")"]:=fun r=>by
 rw [show ([(")" : Str)].map cpsL)=[[41]] from by decide +kernel,e_sh]; rfl
theorem l_bl:Lead " " []:=fun r=>by rw [e_bl]; rfl
theorem l_no:Lead "not " ["not"]:=fun r=>by
 rw [e_no,show ([("not" : Str)].map cpsL)=[[110,111,116]] from by decide +kernel]; rfl
theorem l_cu:Lead "{" ["{"]:=fun r=>by
 rw [show ([("{" : Str)].map cpsL)=[[123]] from by decide +kernel,e_cu]; rfl
theorem l_cv:Lead "}" ["}"]:=fun r=>by
 rw [show ([("}" : Str)].map cpsL)=[[125]] from by decide +kernel,e_cv]; rfl
theorem b_bl {s:Str} {t:List Nat} (e:s.cps.toList=32 :: t):Begs s:=beg_of e (.inl rfl)
theorem b_sg {s:Str} {c:Nat} {t:List Nat} (e:s.cps.toList=c :: t) (h:c ∈ sgns):Begs s:=beg_of e (.inr h)
theorem ap_comma:∀ {ns:List Str},(∀ n ∈ ns,okN n=true)→Apart (Str.join ", " ns) (gl ns)
 | [],_=>fun r _=>rfl
 | [n],h=>by
  rw [join_one]
  exact ap_word (plain_name (h n List.mem_cons_self))
 | n :: m :: r,h=>by
  rw [join_two]
  have ih:=ap_comma (ns:=m :: r) fun x hx=>h x (List.mem_cons_of_mem _ hx)
  have:=ap_then (ap_word (plain_name (h n List.mem_cons_self))) (b_sg e_cm (by decide)) l_cm ih
  exact this
theorem apartK {s:Ks} (h:wfK s):Apart (txK s) (wdK s):=by
 cases s with
 | all =>
  show Apart (Str.join " " ["all"]) _
  rw [join_one]
  exact ap_word (plain_lit (by decide +kernel))
 | of w n =>
  refine ap_names (List.cons_ne_nil _ _) fun x hx=>?_
  rcases List.mem_cons.mp hx with rfl | hx
  ·rcases h.1 with rfl | rfl <;> exact plain_lit (by decide +kernel)
  ·rcases List.mem_cons.mp hx with rfl | hx
   ·exact plain_name h.2
   ·cases hx
 | these ns =>
  show Apart ((("{" : Str)++Str.join ", " ns)++("}" : Str)) _
  rw [str_assoc]
  have hv:Apart ("}" : Str) ["}"]:=fun r _=>l_cv r
  have h1:Apart (Str.join ", " ns++("}" : Str)) (gl ns++[("}" : Str)]):=fun r hr=>by
   rw [cps_app,List.append_assoc,ap_comma h _ (b_sg e_cv (by decide) r),l_cv r,List.map_append,List.append_assoc]
  exact ap_lead l_cu h1
theorem apart:∀ c:Cl,wf c→Apart (tx c) (wd c)
 | .nm w ns,h=>by
  refine ap_names (List.cons_ne_nil _ _) fun x hx=>?_
  rcases List.mem_cons.mp hx with rfl | hx
  ·refine plain_lit ?_
   have:=h.1
   unfold nb at this
   split at this
   ·rename_i e; rw [e]; decide +kernel
   split at this
   ·rename_i e; rw [e]; decide +kernel
   split at this
   ·rename_i e; rw [e]; decide +kernel
   split at this
   ·rename_i e; rw [e]; decide +kernel
   split at this
   ·rename_i e; rw [e]; decide +kernel
   split at this
   ·rename_i e; rw [e]; decide +kernel
   split at this
   ·rename_i e; rw [e]; decide +kernel
   cases this
  ·exact plain_name (h.2 x hx)
 | .cost a b n,h=>by
  show Apart ((Str.join " " ["cost",a,b]++(" <= " : Str))++numT n) _
  rw [str_assoc]
  refine ap_then (ws:=["cost",a,b]) (ap_names (List.cons_ne_nil _ _) fun x hx=>?_) (b_bl e_le) l_le (ap_word (plain_num h.2.2))
  rcases List.mem_cons.mp hx with rfl | hx
  ·exact plain_lit (by decide +kernel)
  ·rcases List.mem_cons.mp hx with rfl | hx
   ·exact plain_name h.1
   ·rcases List.mem_cons.mp hx with rfl | hx
    ·exact plain_name h.2.1
    ·cases hx
 | .num n,h=>ap_word (plain_num h)
 | .size s,h=>by
  show Apart (Str.join " " ["size",txK s]) _
  have:=ap_join (l:=[(("size" : Str),[("size" : Str)]),(txK s,wdK s)]) (List.cons_ne_nil _ _) (fun p hp=>by
   rcases List.mem_cons.mp hp with rfl | hp
   ·exact ap_word (plain_lit (by decide +kernel))
   ·rcases List.mem_cons.mp hp with rfl | hp
    ·exact apartK h
    ·cases hp)
  have e:([(("size" : Str),[("size" : Str)]),(txK s,wdK s)]:List (Str × List Str)).flatMap (·.2)=wd (.size s):=by
   show [("size" : Str)]++(wdK s++[])=_
   rw [List.append_nil]
   rfl
  rw [e] at this
  exact this
 | .pairs s t,h=>by
  show Apart (Str.join " " ["pairs",txK s,txK t]) _
  have:=ap_join (l:=[(("pairs" : Str),[("pairs" : Str)]),(txK s,wdK s),(txK t,wdK t)]) (List.cons_ne_nil _ _) (fun p hp=>by
   rcases List.mem_cons.mp hp with rfl | hp
   ·exact ap_word (plain_lit (by decide +kernel))
   ·rcases List.mem_cons.mp hp with rfl | hp
    ·exact apartK h.1
    ·rcases List.mem_cons.mp hp with rfl | hp
     ·exact apartK h.2
     ·cases hp)
  have e:([(("pairs" : Str),[("pairs" : Str)]),(txK s,wdK s),(txK t,wdK t)]:List (Str × List Str)).flatMap (·.2)=wd (.pairs s t):=by
   show [("pairs" : Str)]++(wdK s++(wdK t++[]))=_
   rw [List.append_nil]
   rfl
  rw [e] at this
  exact this
 | .atm a b,h=>by
  show Apart ((tx a++(" <= " : Str))++tx b) _
  rw [str_assoc]
  exact ap_then (apart a h.2.2.1) (b_bl e_le) l_le (apart b h.2.2.2)
 | .neg a,h=>ap_lead l_no (apart a h.2)
 | .bin w a b,h=>by
  obtain ⟨hw,_,_,wa,wb⟩:=h
  have pw:plainS w:=by rcases hw with rfl | rfl <;> exact plain_lit (by decide +kernel)
  have:=ap_lead l_op (ap_then (apart a wa) (b_bl e_bl) l_bl (ap_then (ap_word pw) (b_bl e_bl) l_bl (ap_then (apart b wb) (b_sg e_sh (by decide)) l_sh ap_empty)))
  exact this
 | .plus a b,h=>by
  obtain ⟨_,_,wa,wb⟩:=h
  have:=ap_lead l_op (ap_then (apart a wa) (b_bl e_pl) l_pl (ap_then (apart b wb) (b_sg e_sh (by decide)) l_sh ap_empty))
  exact this
 | .two w a b,h=>by
  obtain ⟨hw,_,_,wa,wb⟩:=h
  have pw:plainS w:=by rcases hw with rfl | rfl <;> exact plain_lit (by decide +kernel)
  have:=ap_then (ap_word pw) (b_sg e_op (by decide)) l_op (ap_then (apart a wa) (b_sg e_cm (by decide)) l_cm (ap_then (apart b wb) (b_sg e_sh (by decide)) l_sh ap_empty))
  exact this
 | .ov w v s a,h=>by
  obtain ⟨hw,hv,hs,_,wa⟩:=h
  have pw:plainS w:=by rcases hw with rfl | rfl <;> exact plain_lit (by decide +kernel)
  have pv:plainS v:=plain_name (by unfold okN; rw [hv,Bool.or_true])
  have:=ap_then (ap_word pw) (b_bl e_bl) l_bl (ap_then (ap_word pv) (b_bl e_in) l_in (ap_then (apartK hs) (b_sg e_cn (by decide)) l_cn (ap_mt (apart a wa))))
  exact this
 | .tim n a,h=>by
  show Apart ((numT n++(" * " : Str))++tx a) _
  rw [str_assoc]
  exact ap_then (ap_word (plain_num h.2.1)) (b_bl e_ti) l_ti (apart a h.2.2.2)
def wordsC (x:Str):List Str:=(tk [] x.cps.toList).map mkS
theorem words_tx {c:Cl} (h:wf c):wordsC (tx c)=wd c:=by
 have:=apart c h [] sto_nil
 rw [List.append_nil] at this
 unfold wordsC
 rw [this]
 show ((wd c).map cpsL++[]).map mkS=_
 rw [List.append_nil,List.map_map]
 have e:(mkS ∘ cpsL)=id:=funext fun x=>cps_mkS x
 rw [e,List.map_id]
end Net
namespace Net
open PySem L2 L2.Tx
def setWs:List Str:=["all","from","to","these"]
structure Wrd (P:Program) (w:World) (K:PySem.W.Frag) (mg:Str→Option Value) (C:Addr):Prop where
 cl:Cls K C
 mgC:mg "WordRow" = some (.ref C)
 nW:NoAttr K C "words"
 nT:NoAttr K C "taken"
 setW:∃ a,mg "SET_WORDS" = some (.ref a)∧∀ H,SqT K H a (setWs.map V.str)
 termW:∃ a,mg "TERM_WORDS" = some (.ref a)∧∀ H,SqT K H a (termWs.map V.str)
 nbD:∃ a vs,mg "NAMES_BEHIND" = some (.ref a)∧KDict P w K a vs∧(∀ x:Str,(valueAt vs (Sum.inr x)).isSome=(nb x).isSome)∧∀ (x:Str) (n:Nat),nb x=some n→∃ u,valueAt vs (Sum.inr x)=some u∧RelV (.int (n:Int)) u
def rowF (a:Addr) (i:Nat):List (Str × V):=[("words",.ref a),("taken",.int (i:Int))]
theorem wt_ne:¬ (("words" : Str) = "taken"):=by decide +kernel
theorem rowF_w (a:Addr) (i:Nat):(rowF a i).lookup ("words" : Str)=some (.ref a):=by
 unfold rowF
 rw [List.lookup_cons,show (("words" : Str) == "words")=true from by decide +kernel]
theorem look_ne {x y:Str} {v:V} {l:List (Str × V)} (h:x ≠ y):List.lookup x ((y,v) :: l)=List.lookup x l:=by
 rw [List.lookup_cons,beq_eq_false_iff_ne.mpr h]
theorem rowF_t (a:Addr) (i:Nat):(rowF a i).lookup ("taken" : Str)=some (.int (i:Int)):=by
 unfold rowF
 rw [look_ne (Ne.symm wt_ne)]
 rfl
theorem rowF_no (a:Addr) (i:Nat) {m:Str} (h1:m ≠ "words") (h2:m ≠ "taken"):(rowF a i).lookup m=none:=by
 unfold rowF
 rw [look_ne h1,look_ne h2]
 rfl
theorem put_w (a:Addr):putF "words" (.ref a) []=[(("words" : Str),V.ref a)]:=rfl
theorem put_t (a:Addr):putF "taken" (.int 0) [(("words" : Str),V.ref a)]=rowF a 0:=by
 show (if ("words" : Str) = "taken" then _ else _)=_
 rw [if_neg wt_ne]
 rfl
theorem put_i (a:Addr) (i:Nat) (v:V):putF "taken" v (rowF a i)=[(("words" : Str),V.ref a),(("taken" : Str),v)]:=by
 show (if ("words" : Str) = "taken" then _ else (("words" : Str),V.ref a) :: (if ("taken" : Str) = "taken" then _ else _))=_
 rw [if_neg wt_ne,if_pos rfl]
structure RowIs (C:Addr) (Z:Addr→Prop) (H:Hp) (r dx a:Addr) (ws:List Str) (i:Nat):Prop where
 row:H r=some (.ins C dx (rowF a i))
 lst:H a=some (.lst (ws.map V.str))
 fr:∀ p,H p=none→Z p
theorem none_same {H H':Hp} (s:Same H H') {p:Addr} (h:H' p=none):H p=none:=by
 cases e:H p with
 | none=>rfl
 | some o=>rw [s _ _ e] at h; cases h
theorem none_upd {H:Hp} {r:Addr} {o:HO} {p:Addr} (h:upd H r o p=none):H p=none:=by
 by_cases e:p=r
 ·rw [e,upd_same] at h; cases h
 ·rw [upd_ne e] at h; exact h
def PDF (Z:Addr→Prop) (H:Hp):Nat→V→PyData→Prop
 | _,.non,d=>d=.none
 | _,.bl b,d=>d=.bool b
 | _,.int i,d=>d=.int i
 | _,.str x,d=>PyData.strOk x=true∧d=.str x
 | n + 1,.ref a,d=>(∃ xs ds,H a=some (.lst xs)∧Z a∧d=.list ds∧Paired (PDF Z H n) xs ds) ∨ ∃ xs ds,H a=some (.tup xs)∧d=.tuple ds∧Paired (PDF Z H n) xs ds
 | _,_,_=>False
theorem PDF.pd {Z:Addr→Prop} {H:Hp}:∀ {n:Nat} {v:V} {d:PyData},PDF Z H n v d→PD H n v d
 | 0,v,d,h=>by cases v <;> first | exact h | exact h.elim
 | n + 1,v,d,h=>by
  cases v <;> first | exact h | exact h.elim | skip
  rcases h with ⟨xs,ds,e,_,e2,p⟩ | ⟨xs,ds,e,e2,p⟩
  ·exact .inl ⟨xs,ds,e,e2,L2.Paired.mapP p fun _ _ h=>PDF.pd h⟩
  ·exact .inr ⟨xs,ds,e,e2,L2.Paired.mapP p fun _ _ h=>PDF.pd h⟩
theorem PDF.same {Z:Addr→Prop} {H H':Hp} (s:Same H H'):∀ {n:Nat} {v:V} {d:PyData},PDF Z H n v d→PDF Z H' n v d
 | 0,v,d,h=>by cases v <;> first | exact h | exact h.elim
 | n + 1,v,d,h=>by
  cases v <;> first | exact h | exact h.elim | skip
  rcases h with ⟨xs,ds,e,f,e2,p⟩ | ⟨xs,ds,e,e2,p⟩
  ·exact .inl ⟨xs,ds,s _ _ e,f,e2,L2.Paired.mapP p fun _ _ h=>PDF.same s h⟩
  ·exact .inr ⟨xs,ds,s _ _ e,e2,L2.Paired.mapP p fun _ _ h=>PDF.same s h⟩
theorem PDF.up {Z:Addr→Prop} {H:Hp}:∀ {n:Nat} {v:V} {d:PyData},PDF Z H n v d→PDF Z H (n + 1) v d
 | 0,v,d,h=>by cases v <;> first | exact h | exact h.elim
 | n + 1,v,d,h=>by
  cases v <;> first | exact h | exact h.elim | skip
  rcases h with ⟨xs,ds,e,f,e2,p⟩ | ⟨xs,ds,e,e2,p⟩
  ·exact .inl ⟨xs,ds,e,f,e2,L2.Paired.mapP p fun _ _ h=>PDF.up h⟩
  ·exact .inr ⟨xs,ds,e,e2,L2.Paired.mapP p fun _ _ h=>PDF.up h⟩
theorem PDF.mono {Z:Addr→Prop} {H:Hp} {n:Nat} {v:V} {d:PyData} (h:PDF Z H n v d):∀ k,PDF Z H (n + k) v d
 | 0=>h
 | k + 1=>(PDF.mono h k).up
def Rw (r:Addr) (H H':Hp):Prop:=∀ b o,b ≠ r→H b=some o→H' b=some o
theorem Rw.refl (r:Addr) (H:Hp):Rw r H H:=fun _ _ _ e=>e
theorem Rw.trans {r:Addr} {H H1 H2:Hp} (a:Rw r H H1) (b:Rw r H1 H2):Rw r H H2:=fun x o n e=>b x o n (a x o n e)
theorem Rw.same {r:Addr} {H H':Hp} (s:Same H H'):Rw r H H':=fun x o _ e=>s x o e
theorem Rw.upd (r:Addr) (H:Hp) (o:HO):Rw r H (upd H r o):=fun x u n e=>by rw [upd_ne n]; exact e
theorem RowIs.same {C:Addr} {Z:Addr→Prop} {H H':Hp} {r dx a:Addr} {ws:List Str} {i:Nat} (R:RowIs C Z H r dx a ws i) (s:Same H H'):RowIs C Z H' r dx a ws i:=⟨s _ _ R.row,s _ _ R.lst,fun p hp=>R.fr p (none_same s hp)⟩
theorem RowIs.ne {C:Addr} {Z:Addr→Prop} {H:Hp} {r dx a:Addr} {ws:List Str} {i:Nat} (R:RowIs C Z H r dx a ws i):a ≠ r:=fun z=>by
 have h1:=R.row
 have h2:=R.lst
 rw [z,h1] at h2
 cases h2
theorem Rw.pd {r:Addr} {Z:Addr→Prop} {H H':Hp} {C dx:Addr} {fs:List (Str × V)} (s:Rw r H H') (hr:H r=some (.ins C dx fs)):∀ {n:Nat} {v:V} {d:PyData},PDF Z H n v d→PDF Z H' n v d
 | 0,v,d,h=>by cases v <;> first | exact h | exact h.elim
 | n + 1,v,d,h=>by
  cases v <;> first | exact h | exact h.elim | skip
  rcases h with ⟨xs,ds,e,f,e2,p⟩ | ⟨xs,ds,e,e2,p⟩
  ·exact .inl ⟨xs,ds,s _ _ (fun z=>by rw [z,hr] at e; cases e) e,f,e2,L2.Paired.mapP p fun _ _ h=>Rw.pd s hr h⟩
  ·exact .inr ⟨xs,ds,s _ _ (fun z=>by rw [z,hr] at e; cases e) e,e2,L2.Paired.mapP p fun _ _ h=>Rw.pd s hr h⟩
def okWs (ws:List Str):Prop:=ws.length≤8000∧∀ y ∈ ws,okX y
theorem okX_empty:okX "" := ⟨by decide +kernel,fun c hc=>by have:c ∈ ([]:List Nat):=hc; cases this⟩
theorem okWs.hd {ws:List Str} (h:okWs ws) (i:Nat):okX (hd (ws.drop i)):=by
 unfold Net.hd
 cases e:ws.drop i with
 | nil=>exact okX_empty
 | cons x r=>exact h.2 x (List.mem_of_mem_drop (by rw [e]; exact List.mem_cons_self))
def spRow {α:Type} (C ct:Addr) (Z:Addr→Prop) (rest:List V) (rf:List Str→Option (α × List Str)) (Rel:Hp→V→α→Prop):Sp:=fun vs H Q E=>∃ (r dx a:Addr) (ws:List Str) (i:Nat),vs=.ref r :: rest∧RowIs C Z H r dx a ws i∧okWs ws ∧
 (∀ x l',rf (ws.drop i)=some (x,l')→∀ v H' i',Rw r H H'→RowIs C Z H' r dx a ws i'→ws.drop i'=l'→Rel H' v x→Q v H')∧(rf (ws.drop i)=none→∀ H',Rw r H H'→E (.ref ct) none H')
def spVar:Sp:=fun vs H Q _=>∃ (x:Str),vs=[.str x]∧x.length≤sizeLine∧∀ H',Same H H'→Q (.bl (varB x)) H'
def spSplitC:Sp:=fun vs H Q _=>∃ (x:Str),vs=[.str x]∧okX x∧∀ l H',Same H H'→H' l=some (.lst ((wordsC x).map V.str))→Q (.ref l) H'
def spInitR (C:Addr):Sp:=fun vs H Q _=>∃ (r dx a:Addr),vs=[.ref r,.ref a]∧H r=some (.ins C dx [])∧Q .non (upd H r (.ins C dx (rowF a 0)))
def spComing (C:Addr) (Z:Addr→Prop):Sp:=fun vs H Q _=>∃ (r dx a:Addr) (ws:List Str) (i:Nat),vs=[.ref r]∧RowIs C Z H r dx a ws i∧Q (.str (hd (ws.drop i))) H
def spTake (C:Addr) (Z:Addr→Prop):Sp:=fun vs H Q _=>∃ (r dx a:Addr) (ws:List Str) (i:Nat),vs=[.ref r]∧RowIs C Z H r dx a ws i∧Q (.str (hd (ws.drop i))) (upd H r (.ins C dx (rowF a (i + 1))))
def spPass (C ct:Addr) (Z:Addr→Prop):Sp:=fun vs H Q E=>∃ (r dx a:Addr) (ws:List Str) (i:Nat) (w:Str),vs=[.ref r,.str w]∧okX w∧RowIs C Z H r dx a ws i∧(hd (ws.drop i)=w→Q .non (upd H r (.ins C dx (rowF a (i + 1)))))∧(hd (ws.drop i) ≠ w→∀ H',Rw r H H'→E (.ref ct) none H')
theorem RowIs.next {C:Addr} {Z:Addr→Prop} {H:Hp} {r dx a:Addr} {ws:List Str} {i:Nat} (R:RowIs C Z H r dx a ws i) (j:Nat):RowIs C Z (upd H r (.ins C dx (rowF a j))) r dx a ws j:=⟨upd_same,by rw [upd_ne R.ne]; exact R.lst,fun p hp=>R.fr p (none_upd hp)⟩
theorem drop_tail (ws:List Str) (i:Nat):ws.drop (i + 1)=(ws.drop i).tail:=by rw [List.tail_drop]
def spIsT:Sp:=fun vs H Q _=>∃ (v:V) (n:Nat) (c:Cl),vs=[v]∧PD H n v (dat c)∧Q (.bl (isT c)) H
theorem dat_hw (c:Cl):∃ ds,dat c=.tuple (.str (hw c) :: ds):=by cases c <;> exact ⟨_,rfl⟩
theorem PD.tup_of {H:Hp} {n:Nat} {v:V} {ds:List PyData} (h:PD H n v (.tuple ds)):∃ m a xs,n=m + 1∧v=.ref a∧H a=some (.tup xs)∧Paired (PD H m) xs ds:=by
 cases n with
 | zero=>cases v <;> first | exact h.elim | cases (show PyData.tuple ds=_ from h) | cases h.2
 | succ n =>
  cases v <;> first | exact h.elim | cases (show PyData.tuple ds=_ from h) | cases h.2 | skip
  rcases h with ⟨xs,ds',e1,e2,p⟩ | ⟨xs,ds',e1,e2,p⟩
  ·cases e2
  ·cases e2; exact ⟨n,_,xs,rfl,rfl,e1,p⟩
theorem PD.str_is {H:Hp} {n:Nat} {v:V} {x:Str} (h:PD H n v (.str x)):v=.str x:=by
 obtain ⟨y,h1,h2⟩:=h.str_of rfl
 cases h2
 exact h1
theorem dat_first {H:Hp} {n:Nat} {v:V} {c:Cl} (h:PD H n v (dat c)):∃ a xs,v=.ref a∧H a=some (.tup (.str (hw c) :: xs)):=by
 obtain ⟨ds,e⟩:=dat_hw c
 rw [e] at h
 obtain ⟨m,a,xs,rfl,rfl,ha,pr⟩:=h.tup_of
 cases pr with
 | @cons x _ xs' _ p t=>exact ⟨a,xs',rfl,by rw [ha,p.str_is]⟩
theorem in_strs (x:Str) (l:List Str):inV (.str x) (l.map V.str)=decide (x ∈ l):=by
 unfold inV
 rw [List.any_map,Bool.eq_iff_iff,List.any_eq_true,decide_eq_true_eq]
 constructor
 ·rintro ⟨y,hy,h⟩
  have:y=x:=by
   have h':decide (y=x)=true:=h
   exact of_decide_eq_true h'
  rw [← this]
  exact hy
 ·intro h
  exact ⟨x,h,decide_eq_true rfl⟩
theorem flat_strs (l:List Str):(l.map V.str).all flatV=true:=by
 rw [List.all_map,List.all_eq_true]
 intro x _
 rfl
section
variable {P:Program} {w:World} {K:PySem.W.Frag} {mg:Str→Option Value} {base:Heap} {C ct:Addr} {Z:Addr→Prop}
theorem mem_great (c:Nat):decide (c ∈ ("ABCDEFGHIJKLMNOPQRSTUVWXYZ" : Str).cps.toList)=greatB c:=by
 have e:("ABCDEFGHIJKLMNOPQRSTUVWXYZ" : Str).cps.toList=(List.range 26).map (65 + ·):=by decide +kernel
 rw [e]
 unfold greatB
 rw [Bool.eq_iff_iff]
 simp only [decide_eq_true_eq,Bool.and_eq_true,List.mem_map,List.mem_range]
 constructor
 ·rintro ⟨k,h1,h2⟩
  omega
 ·intro h
  exact ⟨c - 65,by omega,by omega⟩
theorem sc_var:FnScope ["word"] ["word"] (defScope s_is_variable):=⟨rfl,rfl,rfl,by decide +kernel,rfl,by decide +kernel,by decide +kernel⟩
theorem ok_var {f:Addr} {fd:FuncData} (F:Fun K "is_variable" "is_variable" s_is_variable f fd) (T:Txt K mg) (c1:Can P w K mg base 1 "is_made_of" ["text","signs"] spMade):FnOk P w K mg base CX0 2 f fd ["word"] spVar:=by
 refine F.ok sc_var (fun vs H Q E h=>?_) (fun cdv A outer s H vs Q E hr h=>?_)
 ·obtain ⟨x,rfl,_⟩:=h
  rfl
 ·obtain ⟨x,rfl,hx,k⟩:=h
  refine ⟨_,(pss_one (ps_ret (pe_and (pe_chain op_le op_le pe_int (pe_callB call_len_str (by rfl) T.len b_len (pa_cons (pv 0) pa_nil)) (pe_globC T.longV (by rfl))) (pe_one (pe_callC c1 hr (by rfl) (pa_cons (pv 0) (pa_cons (pe_globC T.great (by rfl)) pa_nil))))))),?_⟩
  refine ⟨_,rfl,x,rfl,hx,_,_,rfl,rfl,_,rfl,?_⟩
  refine ite2 (fun h1=>⟨_,_,rfl,rfl,_,rfl,ite2 (fun h2=>⟨_,rfl,x,_,rfl,hx,fun H' s'=>?_⟩) (fun h2=>?_)⟩) (fun h1=>⟨_,rfl,iteF ?_⟩)
  ·have e:varB x=(x.cps.toList.all fun c=>decide (c ∈ ("ABCDEFGHIJKLMNOPQRSTUVWXYZ" : Str).cps.toList)):=by
    unfold varB
    rw [decide_eq_true (p:=1≤x.length) (by have:=of_decide_eq_true h1; omega),decide_eq_true (p:=x.length≤3) (by have:=of_decide_eq_true h2; omega)]
    simp only [mem_great,Bool.true_and]
   rw [← e]
   exact k H' s'
  ·have e:varB x=false:=by
    unfold varB
    rw [decide_eq_false (p:=x.length≤3) (fun z=>h2 (decide_eq_true (by omega)))]
    simp
   have:=k H (Same.refl H)
   rw [e] at this
   exact this
  ·have e:varB x=false:=by
    unfold varB
    rw [decide_eq_false (p:=1≤x.length) (fun z=>h1 (decide_eq_true (by omega)))]
    simp
   have:=k H (Same.refl H)
   rw [e] at this
   exact this
theorem sc_initR:FnScope ["self","words"] ["self","words"] (defScope s_WordRow_init):=⟨rfl,rfl,rfl,by decide +kernel,rfl,by decide +kernel,by decide +kernel⟩
theorem ok_initR {f:Addr} {fd:FuncData} (F:Fun K "__init__" "WordRow.__init__" s_WordRow_init f fd) (W:Wrd P w K mg C):FnOk P w K mg base CX0 1 f fd ["self","words"] (spInitR C):=by
 refine F.ok sc_initR (fun vs H Q E h=>?_) (fun cdv A outer s H vs Q E hr h=>?_)
 ·obtain ⟨r,dx,a,rfl,_⟩:=h
  rfl
 ·obtain ⟨r,dx,a,rfl,hR,q⟩:=h
  refine ⟨_,(pss_cons (ps_fld (pv 0) (pv 1) rfl)
   (pss_one (ps_fld (pv 0) pe_int rfl))),?_⟩
  refine ⟨_,rfl,_,rfl,r,C,dx,_,rfl,hR,W.cl,W.nW,by decide,?_⟩
  refine ⟨_,rfl,r,C,dx,_,rfl,upd_same,W.cl,W.nT,by show 1 < 1000; decide,?_⟩
  rw [upd_upd,put_w,put_t]
  exact q
theorem sc_coming:FnScope ["self"] ["self"] (defScope s_WordRow_coming):=⟨rfl,rfl,rfl,by decide +kernel,rfl,by decide +kernel,by decide +kernel⟩
theorem ok_coming {f:Addr} {fd:FuncData} (F:Fun K "coming" "WordRow.coming" s_WordRow_coming f fd) (T:Txt K mg) (W:Wrd P w K mg C):FnOk P w K mg base CX0 1 f fd ["self"] (spComing C Z):=by
 refine F.ok sc_coming (fun vs H Q E h=>?_) (fun cdv A outer s H vs Q E hr h=>?_)
 ·obtain ⟨r,dx,a,ws,i,rfl,_⟩:=h
  rfl
 ·obtain ⟨r,dx,a,ws,i,rfl,R,q⟩:=h
  refine ⟨_,(pss_one (ps_ret (pe_ifExp (pt_cmpR op_lt (pe_fld (pv 0) rfl) (pe_callB call_len_seq (by rfl) T.len b_len (pa_cons (pe_fld (pv 0) rfl) pa_nil)) (nomark _)) (pe_ix ix_list (pe_fld (pv 0) rfl) (pe_fld (pv 0) rfl) (fun _ _=>by rfl)) pe_str))),?_⟩
  refine ⟨_,rfl,r,C,dx,_,_,rfl,R.row,W.cl,W.nT,rowF_t a i,_,rfl,r,C,dx,_,_,rfl,R.row,W.cl,W.nW,rowF_w a i,a,_,rfl,.inl (SqL.of R.lst),_,_,rfl,rfl,_,rfl,?_⟩
  refine ite2 (fun h=>?_) (fun h=>?_)
  ·have hi:i < ws.length:=by
    have:=of_decide_eq_true h
    rw [List.length_map] at this
    omega
   refine ⟨_,rfl,r,C,dx,_,_,rfl,R.row,W.cl,W.nW,rowF_w a i,_,rfl,r,C,dx,_,_,rfl,R.row,W.cl,W.nT,rowF_t a i,a,_,_,_,rfl,rfl,SqL.of R.lst,atI_nat (v:=V.str ws[i]) (by simp [hi]),?_⟩
   have e:hd (ws.drop i)=ws[i]:=by
    rw [List.drop_eq_getElem_cons hi]
    rfl
   rw [e] at q
   exact q
  ·have hi:ws.length≤i:=by
    by_cases z:i < ws.length
    ·exact absurd (decide_eq_true (by rw [List.length_map]; omega)) h
    ·omega
   rw [List.drop_of_length_le hi] at q
   exact q
theorem sc_take:FnScope ["self","word"] ["self"] (defScope s_WordRow_take):=⟨rfl,rfl,rfl,by decide +kernel,rfl,by decide +kernel,by decide +kernel⟩
theorem co_no (a:Addr) (i:Nat):(rowF a i).lookup ("coming" : Str)=none:=rowF_no a i (by decide +kernel) (by decide +kernel)
theorem ta_no (a:Addr) (i:Nat):(rowF a i).lookup ("take" : Str)=none:=rowF_no a i (by decide +kernel) (by decide +kernel)
theorem po_no (a:Addr) (i:Nat):(rowF a i).lookup ("pass_over" : Str)=none:=rowF_no a i (by decide +kernel) (by decide +kernel)
theorem ok_take {f:Addr} {fd:FuncData} (F:Fun K "take" "WordRow.take" s_WordRow_take f fd) (W:Wrd P w K mg C) (m1:CanM P w K mg base 1 C "coming" ["self"] (spComing C Z)):FnOk P w K mg base CX0 2 f fd ["self"] (spTake C Z):=by
 refine F.ok sc_take (fun vs H Q E h=>?_) (fun cdv A outer s H vs Q E hr h=>?_)
 ·obtain ⟨r,dx,a,ws,i,rfl,_⟩:=h
  rfl
 ·obtain ⟨r,dx,a,ws,i,rfl,R,q⟩:=h
  refine ⟨_,(pss_cons (ps_set (i:=1) sc_take.nd rfl (Or.inl rfl) (pe_methC0 (pv 0) W.cl m1 hr))
   (pss_cons (ps_fldaug (pv 0) pe_int in_add)
   (pss_one (ps_ret (pv 1))))),?_⟩
  refine ⟨_,rfl,r,dx,_,rfl,R.row,co_no a i,r,dx,a,ws,i,rfl,R,?_⟩
  refine ⟨_,rfl,r,C,dx,_,_,rfl,R.row,W.cl,W.nT,rowF_t a i,_,_,rfl,rfl,dx,_,R.row,by show 2 < 1000; decide,?_⟩
  refine ⟨_,rfl,?_⟩
  rw [put_i]
  have e:[(("words" : Str),V.ref a),(("taken" : Str),V.int ((i:Int) + 1))]=rowF a (i + 1):=by
   unfold rowF
   rw [Int.natCast_succ]
  rw [e]
  exact q
theorem sc_pass:FnScope ["self","word"] ["self","word"] (defScope s_WordRow_pass_over):=⟨rfl,rfl,rfl,by decide +kernel,rfl,by decide +kernel,by decide +kernel⟩
theorem ok_pass {f:Addr} {fd:FuncData} (F:Fun K "pass_over" "WordRow.pass_over" s_WordRow_pass_over f fd) (W:Wrd P w K mg C) (R0:Ecs K mg ct) (m1:CanM P w K mg base 2 C "take" ["self"] (spTake C Z)):FnOk P w K mg base (CXF P w) 3 f fd ["self","word"] (spPass C ct Z):=by
 refine F.okX sc_pass (fun vs H Q E h=>?_) (fun cdv A outer s H vs Q E hr Wt h=>?_)
 ·obtain ⟨r,dx,a,ws,i,x,rfl,_⟩:=h
  rfl
 ·obtain ⟨r,dx,a,ws,i,x,rfl,hx,R,q,qE⟩:=h
  refine ⟨_,(pss_one (ps_if (pt_cmpR op_ne (pe_methC0 (pv 0) W.cl m1 hr) (pv 1) (nomark _)) (pss_one (ps_raise Wt rfl (by rfl) R0.mt R0.ex PySem.F.excBase_ValueError (pa_cons (pe_join (pj_cons (pe_rep (pv 1)) (pj_cons pe_str pj_nil)) (by decide)) pa_nil))) pss_nil)),?_⟩
  refine ⟨_,rfl,r,dx,_,rfl,R.row,ta_no a i,r,dx,a,ws,i,rfl,R,_,rfl,rfl,_,rfl,ite2 (fun h=>?_) (fun h=>?_)⟩
  ·refine ⟨_,rfl,.inl ⟨x,rfl,hx.repS,_,rfl,hx.rep,_,rfl,by decide +kernel,by show 1≤sizeLine; decide,qE (fun z=>?_) _ (Rw.upd _ _ _)⟩⟩
   rw [z] at h
   simp at h
  ·refine q ?_
   by_cases z:hd (ws.drop i)=x
   ·exact z
   ·refine absurd ?_ h
    rw [decide_eq_false (fun y=>z (by injection y))]
    rfl
theorem sc_isT:FnScope ["whole"] ["whole"] (defScope s_is_term):=⟨rfl,rfl,rfl,by decide +kernel,rfl,by decide +kernel,by decide +kernel⟩
theorem ok_isT {f:Addr} {fd:FuncData} (F:Fun K "is_term" "is_term" s_is_term f fd) (W:Wrd P w K mg C):FnOk P w K mg base CX0 1 f fd ["whole"] spIsT:=by
 obtain ⟨tw,mt,sq⟩:=W.termW
 refine F.ok sc_isT (fun vs H Q E h=>?_) (fun cdv A outer s H vs Q E hr h=>?_)
 ·obtain ⟨v,n,c,rfl,_⟩:=h
  rfl
 ·obtain ⟨v,n,c,rfl,pd,q⟩:=h
  obtain ⟨a,xs,rfl,ha⟩:=dat_first pd
  refine ⟨_,(pss_one (ps_ret (pe_cmpR op_in_seq (pe_ix ix_tup (pv 0) pe_int (fun _ _=>by rfl)) (pe_globC (v:=.ref tw) ⟨_,mt,rfl⟩ (by rfl)) (by with_unfolding_all rfl)))),?_⟩
  refine ⟨_,rfl,a,_,_,V.str (hw c),rfl,rfl,SqT.of ha,atI_nat (j:=0) rfl,tw,_,rfl,.inr (sq H),rfl,flat_strs _,?_⟩
  show Q (.bl (inV (.str (hw c)) (termWs.map V.str))) H
  rw [in_strs]
  exact q
end
end Net
namespace Net
open PySem L2 L2.Tx
theorem sgn6_eq:("(){},:" : Str).cps.toList=sgns:=by decide +kernel
theorem sgn_at {j c:Nat} (h:sgns[j]?=some c):j < 6∧Builtin.Str.strKind ⟨#[c]⟩≤1∧c ≠ 32∧c ∉ (sgns.take j).reverse∧(sgns.take (j + 1)).reverse=c :: (sgns.take j).reverse:=by
 have hj:j < 6:=(List.getElem?_eq_some_iff.mp h).1
 have:j=0 ∨ j=1 ∨ j=2 ∨ j=3 ∨ j=4 ∨ j=5:=by omega
 rcases this with rfl | rfl | rfl | rfl | rfl | rfl <;> (simp [sgns] at h; subst h; exact ⟨by decide,by decide +kernel,by decide,by decide,rfl⟩)
theorem spread_at {x y:Str} {c:Nat} {S:List Nat} (hk:Builtin.Str.strKind ⟨#[c]⟩≤1) (h32:c ≠ 32) (hS:c ∉ S) (hy:y=mkS (sprB S x.cps.toList)) :
  PySem.Txt.replace y ⟨#[c]⟩ ((" " : Str)++((⟨#[c]⟩:Str)++((" " : Str)++Str.empty)))=mkS (sprB (c :: S) x.cps.toList):=by
 refine str_ext ?_
 rw [replace_any _ _ _ hk,cps_app,cps_app,cps_app,e_bl,hy]
 show replL c ([32]++([c]++([32]++[]))) (sprB S x.cps.toList)=sprB (c :: S) x.cps.toList
 exact spr_repl hS h32 _
theorem words_len8 (l:List Nat):∀ w:List Nat,(tk w l).length≤w.length + l.length∧(∀ p ∈ tk w l,p.length≤w.length + l.length∧∀ c ∈ p,c ∈ w ∨ c ∈ l):=by
 have fl:∀ w:List Nat,(flW w).length≤w.length∧∀ p ∈ flW w,p=w:=fun w=>by
  unfold flW
  by_cases h:w=[]
  ·rw [if_pos h]
   exact ⟨Nat.zero_le _,fun _ z=>nomatch z⟩
  ·rw [if_neg h]
   refine ⟨?_,fun p hp=>by simpa using hp⟩
   have:w.length ≠ 0:=fun z=>h (List.length_eq_zero_iff.mp z)
   show 1≤_
   omega
 induction l with
 | nil =>
  intro w
  refine ⟨by have:=(fl w).1; show (flW w).length≤_; omega,fun p hp=>?_⟩
  have:=(fl w).2 p hp
  subst this
  exact ⟨Nat.le_refl _,fun c hc=>.inl hc⟩
 | cons c r ih =>
  intro w
  unfold tk
  have i0:=ih []
  have iw:=ih (w++[c])
  by_cases h32:c=32
  ·rw [if_pos h32]
   refine ⟨by have:=(fl w).1; rw [List.length_append,List.length_cons]; have:=i0.1; simp at this; omega,fun p hp=>?_⟩
   rcases List.mem_append.mp hp with hp | hp
   ·have:=(fl w).2 p hp
    subst this
    exact ⟨by omega,fun d hd=>.inl hd⟩
   ·obtain ⟨h1,h2⟩:=i0.2 p hp
    refine ⟨by rw [List.length_cons]; simp at h1; omega,fun d hd=>?_⟩
    rcases h2 d hd with z | z
    ·cases z
    ·exact .inr (List.mem_cons_of_mem _ z)
  ·rw [if_neg h32]
   by_cases hs:c ∈ sgns
   ·rw [if_pos hs]
    refine ⟨by have:=(fl w).1; rw [List.length_append,List.length_cons,List.length_cons]; have:=i0.1; simp at this; omega,fun p hp=>?_⟩
    rcases List.mem_append.mp hp with hp | hp
    ·have:=(fl w).2 p hp
     subst this
     exact ⟨by omega,fun d hd=>.inl hd⟩
    ·rcases List.mem_cons.mp hp with rfl | hp
     ·refine ⟨by rw [List.length_singleton,List.length_cons]; omega,fun d hd=>?_⟩
      have:d=c:=by simpa using hd
      exact .inr (by rw [this]; exact List.mem_cons_self)
     ·obtain ⟨h1,h2⟩:=i0.2 p hp
      refine ⟨by rw [List.length_cons]; simp at h1; omega,fun d hd=>?_⟩
      rcases h2 d hd with z | z
      ·cases z
      ·exact .inr (List.mem_cons_of_mem _ z)
   ·rw [if_neg hs]
    refine ⟨by have:=iw.1; rw [List.length_append,List.length_singleton] at this; rw [List.length_cons]; omega,fun p hp=>?_⟩
    obtain ⟨h1,h2⟩:=iw.2 p hp
    rw [List.length_append,List.length_singleton] at h1
    refine ⟨by rw [List.length_cons]; omega,fun d hd=>?_⟩
    rcases h2 d hd with z | z
    ·rcases List.mem_append.mp z with z | z
     ·exact .inl z
     ·have:d=c:=by simpa using z
      exact .inr (by rw [this]; exact List.mem_cons_self)
    ·exact .inr (List.mem_cons_of_mem _ z)
theorem words_okW {x:Str} (h:okX x):okWs (wordsC x):=by
 obtain ⟨h1,h2⟩:=words_len8 x.cps.toList []
 have hx:=h.1
 rw [← len_eq] at hx
 refine ⟨by unfold wordsC; rw [List.length_map]; simp at h1; simp at hx; omega,fun y hy=>?_⟩
 obtain ⟨p,hp,rfl⟩:=List.mem_map.mp hy
 obtain ⟨h3,h4⟩:=h2 p hp
 refine ⟨by rw [mkS_len]; simp at h3; simp at hx; omega,fun c hc=>?_⟩
 rcases h4 c hc with z | z
 ·cases z
 ·exact h.2 c z
theorem blank_eq8:(" " : Str)=⟨#[32]⟩:=by decide +kernel
section
variable {P:Program} {w:World} {K:PySem.W.Frag} {mg:Str→Option Value} {base:Heap} {C ct:Addr}
theorem sc_splitC:FnScope ["text","spread","sign"] ["text"] (defScope s_split_text):=⟨rfl,rfl,rfl,by decide +kernel,rfl,by decide +kernel,by decide +kernel⟩
theorem ok_splitC {f:Addr} {fd:FuncData} (F:Fun K "split_text" "split_text" s_split_text f fd) (T:Txt K mg):FnOk P w K mg base CX0 1 f fd ["text"] spSplitC:=by
 have nd_0:List.Nodup (["word"]:List Str):=by decide +kernel
 refine F.okT sc_splitC (by rfl) (fun vs H Q E h=>?_) (fun cdv A outer s H vs Q E hr h s1 tok I=>?_)
 ·obtain ⟨x,rfl,_⟩:=h
  rfl
 ·obtain ⟨x,rfl,hx,q⟩:=h
  refine wpAny_mono (pst_seq (X:=Cx.nox _) (ps_set (i:=1) sc_splitC.nd rfl (Or.inl rfl) (pv 0)) (fun pins s2 σ2 H2 t2 I2 h2=>pst_forS (i:=2)
   (tb:=fun c D σ H=>∃ z:Str,σ[1]?=some (some (.str z))∧tJCons (tC (.str " ")) (tJCons (tFmt (tVar 2)) (tJCons (tC (.str " ")) tJNil)) σ H fun w H1=>(((⟨#[c]⟩:Str) == w)=false∧z.length + (z.length + 1) * w.length≤16777216∧D.nx (σ.set 1 (some (.str (PySem.Txt.replace z ⟨#[c]⟩ w)))) H1))
   PassesOwn.never rfl sc_splitC.nd rfl rfl (pe_globC T.signs (by rfl))
   (fun pins s3 σ3 H3 D3 c tk3 I3 hh h0 h1 ⟨z,hz,h⟩=>sr_repl (i:=1) (c:=⟨#[c]⟩) (z:=z) sc_splitC.nd rfl rfl rfl (Or.inl rfl) (pjt_cons pe_str (pjt_cons (pe_fmt (pv 2)) (pjt_cons pe_str pjt_nil))) (by decide) I3 hh h0 h1 hz h)
   (pss_one (ps_ret (pe_comp (N:=["word"]) (xs:=1) (js:=[]) rfl (compScope_of rfl) (pi_list (pe_bm PySem.F.plainAttrs_str PySem.F.slot_str_split PySem.F.type_str_split mt_split (pv 1) (pa_cons pe_str pa_nil))) (fun _ _ _ _=>pg_name (i:=0) nd_0 rfl (Or.inl rfl)) (fun _ _ _ _=>pts_one (pt_cmpR op_ne (pv 0) pe_str (nomark _))) (fun _ _ _ _=>pv 0))))
   t2 I2 h2) tok (I.wish _) ?_) (fun _ _ q=>q.unwish) fun _ _ z=>False.elim z
  have hl:=len_eq x
  have h0:=hx.1
  refine ⟨_,rfl,_,rfl,by decide +kernel,fun j σ' H'=>H'=H∧∃ o,σ'=[some (.str x),some (.str (mkS (sprB (sgns.take j).reverse x.cps.toList))),o],⟨rfl,none,?_⟩,?_,?_⟩
  ·show [some (V.str x),some (V.str x),none]=_
   rw [show (sgns.take 0).reverse=[] from rfl,spr_nil,cps_mkS]
  ·rintro j c σ' H' hc ⟨rfl,o,rfl⟩
   have hc':sgns[j]?=some c:=by
    rw [← sgn6_eq]
    simpa using hc
   obtain ⟨hj,hk,h32,hS,hN⟩:=sgn_at hc'
   have hz:(mkS (sprB (sgns.take j).reverse x.cps.toList)).length≤24000:=by
    rw [mkS_len]
    have:=spr_len (sgns.take j).reverse x.cps.toList
    omega
   have l1:(⟨#[c]⟩:Str).length=1:=rfl
   refine ⟨_,rfl,_,rfl,by decide +kernel,_,rfl,.inl ⟨_,rfl,by rw [l1]; decide,_,rfl,by rw [l1]; decide,_,rfl,by decide +kernel,?_,?_,?_⟩⟩
   ·rw [beq_eq_false_iff_ne]
    intro z
    have:=congrArg (fun y:Str=>y.cps.toList.length) z
    simp only [cps_app,List.length_append,e_bl] at this
    exact absurd this (by simp)
   ·have:((" " : Str)++((⟨#[c]⟩:Str)++((" " : Str)++Str.empty))).length=3:=by
     rw [← len_eq,cps_app,cps_app,cps_app,e_bl]
     rfl
    rw [this]
    omega
   ·refine ⟨rfl,some (.str ⟨#[c]⟩),?_⟩
    show [some (V.str x),some (V.str _),some (V.str ⟨#[c]⟩)]=_
    rw [spread_at hk h32 hS rfl,hN]
  ·intro σ' H' hh
   obtain ⟨eH,o,rfl⟩:=hh
   rw [eH]
   have e6:(sgns.take ("(){},:" : Str).cps.size).reverse=[58,44,125,123,41,40]:=by decide +kernel
   rw [e6]
   have n2:(mkS (sprB [58,44,125,123,41,40] x.cps.toList)).length≤24000:=by
    rw [mkS_len]
    have:=spr_len [58,44,125,123,41,40] x.cps.toList
    omega
   have e3:PySem.Txt.split (mkS (sprB [58,44,125,123,41,40] x.cps.toList)) " " = (cutA 32 [] (sprB [58,44,125,123,41,40] x.cps.toList)).map mkS:=by
    rw [blank_eq8,split_any _ _ (by decide +kernel)]
    rfl
   have n3:(cutA 32 [] (sprB [58,44,125,123,41,40] x.cps.toList)).length≤80000:=by
    have h3:=cutA_len 32 (sprB [58,44,125,123,41,40] x.cps.toList) []
    have:=spr_len [58,44,125,123,41,40] x.cps.toList
    omega
   refine ⟨_,rfl,rfl,_,_,rfl,rfl,by decide +kernel,Nat.le_trans (Nat.add_le_add_right n2 2) (by decide),fun l hl0=>?_⟩
   rw [e3]
   have s1:Same H (upd H l (.lst (((cutA 32 [] (sprB [58,44,125,123,41,40] x.cps.toList)).map mkS).map V.str))):=Same.new hl0
   have ec:(upd H l (.lst (((cutA 32 [] (sprB [58,44,125,123,41,40] x.cps.toList)).map mkS).map V.str))) l=some (.lst (((cutA 32 [] (sprB [58,44,125,123,41,40] x.cps.toList)).map mkS).map V.str)):=upd_same
   generalize upd H l (.lst (((cutA 32 [] (sprB [58,44,125,123,41,40] x.cps.toList)).map mkS).map V.str))=H1 at s1 ec
   have tc:=tk_cut x.cps.toList []
   generalize cutA 32 [] (sprB [58,44,125,123,41,40] x.cps.toList)=ps at n3 ec tc
   refine ⟨l,rfl,⟨_,SqL.of ec⟩,comp_list (K:=K) (ys:=(ps.map mkS).map V.str) (fun i acc σ' H'=>H'=H1∧acc=(((ps.take i).filter fun t=>decide (t ≠ [])).map mkS).map V.str∧∃ o,σ'=[o])
    ⟨rfl,rfl,none,rfl⟩ (fun i acc σ' H' h=>?_) ?_ (fun i acc σ' H' _ h=>by rw [h.1]; exact SqL.of ec) (fun i v acc σ' H' hv h=>?_) (fun acc σ' H' h p hp=>?_)⟩
   ·rw [h.2.1,List.length_map,List.length_map]
    refine Nat.le_trans (List.length_filter_le _ _) ?_
    rw [List.length_take]
    omega
   ·rw [List.length_map,List.length_map]
    exact Nat.le_trans n3 (by decide)
   ·obtain ⟨rfl,rfl,o,rfl⟩:=h
    rw [List.getElem?_map,List.getElem?_map] at hv
    cases hp:ps[i]? with
    | none=>rw [hp] at hv; cases hv
    | some p =>
     rw [hp] at hv
     cases hv
     refine ⟨_,rfl,rfl,_,rfl,?_⟩
     rw [empty_eq]
     have tk1:ps.take (i + 1)=ps.take i++[p]:=by rw [List.take_add_one,hp]; rfl
     refine ite2 (fun h1=>?_) (fun h1=>?_)
     ·have hpn:p ≠ []:=fun z=>by
       rw [z] at h1
       exact absurd h1 (by simp)
      refine ⟨_,rfl,rfl,?_,_,rfl⟩
      rw [tk1,List.filter_append,List.filter_cons_of_pos (by simp [hpn]),List.map_append,List.map_append]
      rfl
     ·have hpn:p=[]:=by
       by_cases z:p=[]
       ·exact z
       ·refine absurd ?_ h1
        have:¬ V.str (mkS p)=V.str (mkS []):=fun y=>z (by
         injection y with y
         have:=congrArg (fun q:Str=>q.cps.toList) y
         exact this)
        rw [decide_eq_false this]
        rfl
      refine ⟨rfl,?_,_,rfl⟩
      rw [tk1,List.filter_append,hpn,List.filter_cons_of_neg (by simp),List.filter_nil,List.append_nil]
   ·obtain ⟨rfl,rfl,o,rfl⟩:=h
    refine q p _ (s1.upd hp) ?_
    rw [upd_same]
    have et:ps.take ((ps.map mkS).map V.str).length=ps:=List.take_of_length_le (by rw [List.length_map,List.length_map]; exact Nat.le_refl _)
    rw [et,tc]
    rfl
end
end Net
namespace Net
open PySem L2 L2.Tx
theorem deq_t {x y:Str} (h:decide (V.str x=V.str y)=true):x=y:=by injection of_decide_eq_true h
theorem deq_f {x y:Str} (h:¬ decide (V.str x=V.str y)=true):x ≠ y:=fun z=>h (decide_eq_true (by rw [z]))
theorem dne_t {x y:Str} (h:(!decide (V.str x=V.str y))=true):x ≠ y:=fun z=>by rw [z] at h; simp at h
theorem dne_f {x y:Str} (h:¬ (!decide (V.str x=V.str y))=true):x=y:=by
 by_cases z:x=y
 ·exact z
 ·exact absurd (by rw [decide_eq_false (fun e=>z (by injection e))]; rfl) h
theorem rMore_end {l:List Str} (h:hd l ≠ ","):rMore l=some ([],l):=by
 match l,h with
 | [],_=>rfl
 | [a],h=>exact if_neg h
 | a :: w :: l,h=>exact if_neg h
theorem okN_empty:okN "" = false:=by decide +kernel
theorem rMore_step {l:List Str} (h:hd l = ","):rMore l=(rName l.tail).bind fun q=>(rMore q.2).map fun p=>(q.1 :: p.1,p.2):=by
 match l,h with
 | [],h=>exact absurd h (by decide +kernel)
 | [a],h =>
  have h':a = "," := h
  show (if a = "," then none else some ([],[a]))=(rName []).bind _
  rw [if_pos h']
  show none=(if okN "" = true then _ else none).bind _
  rw [okN_empty]
  rfl
 | a :: w :: l,h =>
  have h':a = "," := h
  show (if a = "," then (if okN w=true then (rMore l).map fun q=>(w :: q.1,q.2) else none) else some ([],a :: w :: l))=(if okN w=true then some (w,l) else none).bind _
  rw [if_pos h']
  split <;> rfl
def nmTail (ns:List Str) (l:List Str):Option (List Str × List Str):=(rMore l).bind fun p=>(rPass "}" p.2).map fun l3=>(ns++p.1,l3)
theorem rNames_eq (l:List Str):rNames l=if hd l = "}" then nmTail [] l else (rName l).bind fun q=>nmTail [q.1] q.2:=by
 unfold rNames nmTail
 by_cases h:hd l = "}"
 ·rw [if_pos h,if_pos h,rMore_end (by rw [h]; decide +kernel)]
  show _=(if hd l = "}" then some l.tail else none).map _
  rw [if_pos h]
  rfl
 ·rw [if_neg h,if_neg h]
  rfl
theorem nmTail_step {ns l:List Str} (h:hd l = ","):nmTail ns l=(rName l.tail).bind fun q=>nmTail (ns++[q.1]) q.2:=by
 unfold nmTail
 rw [rMore_step h]
 cases rName l.tail with
 | none=>rfl
 | some q =>
  show ((rMore q.2).map _).bind _=(rMore q.2).bind _
  cases rMore q.2 with
  | none=>rfl
  | some p =>
   show (rPass "}" p.2).map _=(rPass "}" p.2).map _
   simp only [List.append_assoc,List.singleton_append]
theorem nmTail_end {ns l:List Str} (h:hd l ≠ ","):nmTail ns l=(rPass "}" l).map fun l3=>(ns,l3):=by
 unfold nmTail
 rw [rMore_end h]
 show (rPass "}" l).map (fun l3=>(ns++[],l3))=_
 rw [List.append_nil]
def RelN (_:Hp) (v:V) (x:Str):Prop:=v=.str x
def RelL (Z:Addr→Prop) (H:Hp) (v:V) (ns:List Str):Prop:=∃ p,v=.ref p∧Z p∧H p=some (.lst (ns.map V.str))
def RelK (Z:Addr→Prop) (H:Hp) (v:V) (s:Ks):Prop:=PDF Z H 2 v (datK s)
def RelF (Z:Addr→Prop) (H:Hp) (v:V) (c:Cl):Prop:=PDF Z H (dep c + 2) v (dat c)
theorem ok_strOk {x:Str} (h:okX x):PyData.strOk x=true:=by
 unfold PyData.strOk
 rw [Array.all_eq_true']
 intro c hc
 have:=h.2 c (by simpa using hc)
 simpa using this
theorem pd_str {Z:Addr→Prop} {H:Hp} {n:Nat} {x:Str} (h:PyData.strOk x=true):PDF Z H n (.str x) (.str x):=by cases n <;> exact ⟨h,rfl⟩
theorem pd_int {Z:Addr→Prop} {H:Hp} {n:Nat} {i:Int}:PDF Z H n (.int i) (.int i):=by cases n <;> rfl
theorem pd_tup {Z:Addr→Prop} {H:Hp} {n:Nat} {p:Addr} {xs:List V} {ds:List PyData} (h:H p=some (.tup xs)) (pr:Paired (PDF Z H n) xs ds):PDF Z H (n + 1) (.ref p) (.tuple ds):=.inr ⟨xs,ds,h,rfl,pr⟩
theorem pd_lst {Z:Addr→Prop} {H:Hp} {n:Nat} {p:Addr} {xs:List V} {ds:List PyData} (h:H p=some (.lst xs)) (hz:Z p) (pr:Paired (PDF Z H n) xs ds):PDF Z H (n + 1) (.ref p) (.list ds):=.inl ⟨xs,ds,h,hz,rfl,pr⟩
theorem okN_strOk {x:Str} (h:okN x=true):PyData.strOk x=true:=by
 rcases Bool.or_eq_true_iff.mp h with h | h
 ·exact strOk_of h
 ·unfold varB at h
  simp only [Bool.and_eq_true,List.all_eq_true] at h
  unfold PyData.strOk
  rw [Array.all_eq_true']
  intro c hc
  have:=h.2 c (by simpa using hc)
  unfold greatB at this
  simp at this
  simp
  omega
theorem pd_names {Z:Addr→Prop} {H:Hp} {n:Nat}:∀ {ns:List Str},(∀ x ∈ ns,okN x=true)→Paired (PDF Z H n) (ns.map V.str) (ns.map PyData.str)
 | [],_=>.nil
 | x :: r,ok=>.cons (pd_str (okN_strOk (ok x List.mem_cons_self))) (pd_names fun y hy=>ok y (List.mem_cons_of_mem _ hy))
theorem rName_some {l:List Str} {q:Str × List Str} (h:rName l=some q):okN q.1=true∧q.1=hd l∧q.2=l.tail:=by
 unfold rName at h
 split at h
 ·cases h
  exact ⟨‹_›,rfl,rfl⟩
 ·cases h
theorem rMore_some:∀ {l:List Str} {q:List Str × List Str},rMore l=some q→∀ n ∈ q.1,okN n=true
 | [],q,h=>by cases h; exact fun _ z=>nomatch z
 | [a],q,h=>by
  have h':(if a = "," then none else some (([]:List Str),[a]))=some q:=h
  split at h'
  ·cases h'
  ·cases h'
   exact fun _ z=>nomatch z
 | a :: w :: l,q,h=>by
  have h':(if a = "," then (if okN w=true then (rMore l).map fun q=>(w :: q.1,q.2) else none) else some (([]:List Str),a :: w :: l))=some q:=h
  split at h'
  ·split at h'
   ·rename_i hw
    cases e:rMore l with
    | none=>rw [e] at h'; cases h'
    | some p =>
     rw [e] at h'
     cases h'
     intro n hn
     rcases List.mem_cons.mp hn with rfl | hn
     ·exact hw
     ·exact rMore_some e n hn
   ·cases h'
  ·cases h'
   exact fun _ z=>nomatch z
theorem rNames_some {l:List Str} {q:List Str × List Str} (h:rNames l=some q):∀ n ∈ q.1,okN n=true:=by
 unfold rNames at h
 split at h
 ·cases h
  exact fun _ z=>nomatch z
 ·cases e1:rName l with
  | none=>rw [e1] at h; cases h
  | some q1 =>
   rw [e1] at h
   cases e2:rMore q1.2 with
   | none =>
    have h':(rMore q1.2).bind _=some q:=h
    rw [e2] at h'
    cases h'
   | some p =>
    have h':(rMore q1.2).bind _=some q:=h
    rw [e2] at h'
    cases e3:rPass "}" p.2 with
    | none =>
     have h2:(rPass "}" p.2).map _=some q:=h'
     rw [e3] at h2
     cases h2
    | some l3 =>
     have h2:(rPass "}" p.2).map _=some q:=h'
     rw [e3] at h2
     cases h2
     intro n hn
     rcases List.mem_cons.mp hn with rfl | hn
     ·exact (rName_some e1).1
     ·exact rMore_some e2 n hn
section
variable {P:Program} {w:World} {K:PySem.W.Frag} {mg:Str→Option Value} {base:Heap} {C ct:Addr} {Z:Addr→Prop}
theorem sc_rname:FnScope ["row","word"] ["row"] (defScope s_read_name):=⟨rfl,rfl,rfl,by decide +kernel,rfl,by decide +kernel,by decide +kernel⟩
theorem ok_rname {f:Addr} {fd:FuncData} (F:Fun K "read_name" "read_name" s_read_name f fd) (W:Wrd P w K mg C) (R0:Ecs K mg ct) (mt:CanM P w K mg base 2 C "take" ["self"] (spTake C Z)) (cn:Can P w K mg base 2 "is_name" ["word"] spName) (cv:Can P w K mg base 2 "is_variable" ["word"] spVar) :
  FnOk P w K mg base (CXF P w) 3 f fd ["row"] (spRow C ct Z [] rName RelN):=by
 refine F.okX sc_rname (fun vs H Q E h=>?_) (fun cdv A outer s H vs Q E hr Wt h=>?_)
 ·obtain ⟨r,dx,a,ws,i,rfl,_⟩:=h
  rfl
 ·obtain ⟨r,dx,a,ws,i,rfl,R,ok,q,qE⟩:=h
  refine ⟨_,(pss_cons (ps_set (i:=1) sc_rname.nd rfl (Or.inl rfl) (pe_methC0 (pv 0) W.cl mt hr))
   (pss_cons (ps_if (PW.pt (pw_and (pt_not (pt_val (pe_callC cn hr (by rfl) (pa_cons (pv 1) pa_nil)))) (pw_and1 (pt_not (pt_val (pe_callC cv hr (by rfl) (pa_cons (pv 1) pa_nil))))))) (pss_one (ps_raise Wt rfl (by rfl) R0.mt R0.ex PySem.F.excBase_ValueError (pa_cons (pe_join (pj_cons (pe_rep (pv 1)) (pj_cons pe_str pj_nil)) (by decide)) pa_nil))) pss_nil)
   (pss_one (ps_ret (pv 1))))),?_⟩
  refine ⟨_,rfl,r,dx,_,rfl,R.row,ta_no a i,r,dx,a,ws,i,rfl,R,?_⟩
  have R1:=R.next (i + 1)
  have s1:Rw r H (upd H r (.ins C dx (rowF a (i + 1)))):=Rw.upd _ _ _
  have hx:=ok.hd i
  generalize upd H r (.ins C dx (rowF a (i + 1)))=H1 at R1 s1
  have good:okN (hd (ws.drop i))=true→∀ H2,Same H1 H2→Q (.str (hd (ws.drop i))) H2:=fun h H2 s2 =>
   q (hd (ws.drop i)) (ws.drop i).tail (if_pos h) _ H2 (i + 1) (s1.trans (Rw.same s2)) (R1.same s2) (drop_tail ws i) rfl
  refine ⟨_,rfl,_,rfl,hx.len,fun H2 s2=>⟨_,rfl,?_⟩⟩
  cases hn:nameB (hd (ws.drop i)) with
  | true =>
   refine iteF ⟨_,rfl,good ?_ H2 s2⟩
   unfold okN
   rw [hn]
   rfl
  | false =>
   refine iteT ⟨_,rfl,_,rfl,hx.len,fun H3 s3=>⟨_,rfl,?_⟩⟩
   cases hv:varB (hd (ws.drop i)) with
   | true =>
    refine iteF ⟨_,rfl,good ?_ H3 (s2.trans s3)⟩
    unfold okN
    rw [hv,Bool.or_true]
   | false =>
    refine iteT ⟨_,rfl,.inl ⟨_,rfl,hx.repS,_,rfl,hx.rep,_,rfl,by decide +kernel,by show 1≤sizeLine; decide,qE ?_ _ (s1.trans (Rw.same (s2.trans s3)))⟩⟩
    unfold rName okN
    rw [hn,hv]
    rfl
theorem sc_rnames:FnScope ["row","names"] ["row"] (defScope s_read_names):=⟨rfl,rfl,rfl,by decide +kernel,rfl,by decide +kernel,by decide +kernel⟩
theorem ok_rnames {f:Addr} {fd:FuncData} (F:Fun K "read_names" "read_names" s_read_names f fd) (W:Wrd P w K mg C) (mt:CanM P w K mg base 2 C "take" ["self"] (spTake C Z)) (mc:CanM P w K mg base 1 C "coming" ["self"] (spComing C Z)) (mp:CanMX P w K mg base 3 C "pass_over" ["self","word"] (spPass C ct Z))
  (cr:CanX P w K mg base 3 "read_name" ["row"] (spRow C ct Z [] rName RelN)):FnOk P w K mg base (CXF P w) 4 f fd ["row"] (spRow C ct Z [] rNames (RelL Z)):=by
 refine F.okX sc_rnames (fun vs H Q E h=>?_) (fun cdv A outer s H vs Q E hr Wt h=>?_)
 ·obtain ⟨r,dx,a,ws,i,rfl,_⟩:=h
  rfl
 ·obtain ⟨r,dx,a,ws,i,rfl,R,ok,q,qE⟩:=h
  have r1:Room 1 _:=hr.mono (by decide)
  have r2:Room 2 _:=hr.mono (by decide)
  refine ⟨_,(pss_cons (ps_set (i:=1) sc_rnames.nd rfl (Or.inl rfl) (pe_lst pa_nil))
   (pss_cutE (ps_if (pt_cmpR op_ne (pe_methC0 (pv 0) W.cl mc r1) pe_str (nomark _)) (pss_one (ps_expr (pe_bm PySem.F.plainAttrs_list PySem.F.slot_list_append PySem.F.type_list_append mt_append (pv 1) (pa_cons (pe_callX cr Wt hr (by rfl) (pa_cons (pv 0) pa_nil)) pa_nil)))) pss_nil)
   (pss_cons (ps_while Wt.own (pt_cmpR op_eq (pe_methC0 (pv 0) W.cl mc r1) pe_str (nomark _))
     (pss_cons (ps_expr (pe_methC0 (pv 0) W.cl mt r2))
   (pss_one (ps_expr (pe_bm PySem.F.plainAttrs_list PySem.F.slot_list_append PySem.F.type_list_append mt_append (pv 1) (pa_cons (pe_callX cr Wt hr (by rfl) (pa_cons (pv 0) pa_nil)) pa_nil))))))
   (pss_cons (ps_expr (pe_methX (pv 0) W.cl mp Wt hr (pa_cons pe_str pa_nil)))
   (pss_one (ps_ret (pv 1))))))),?_⟩
  refine ⟨by decide,fun p hp=>?_⟩
  have pr:p ≠ r:=fun z=>by rw [z,R.row] at hp; cases hp
  have zp:Z p:=R.fr p hp
  have R1:RowIs C Z (upd H p (.lst [])) r dx a ws i:=R.same (Same.new hp)
  have g1:(upd H p (.lst [])) p=some (.lst (([]:List Str).map V.str)):=upd_same
  have s1:Rw r H (upd H p (.lst [])):=Rw.same (Same.new hp)
  have ap:a ≠ p:=fun z=>by rw [← z,R.lst] at hp; cases hp
  have dl:∀ j,(ws.drop j).length≤8000:=fun j=>by rw [List.length_drop]; have:=ok.1; omega
  have kp:∀ {H1 H2:Hp},Rw r H H1→(∀ b o,b ≠ r→b ≠ p→H1 b=some o→H2 b=some o)→Rw r H H2:=fun h1 h2 b o nb e=>h2 b o nb (fun z=>by rw [z,hp] at e; cases e) (h1 b o nb e)
  generalize upd H p (.lst [])=H0 at R1 g1 s1
  refine ⟨fun σ' H'=>σ'=[some (.ref r),some (.ref p)]∧∃ ns i',Rw r H H'∧RowIs C Z H' r dx a ws i'∧H' p=some (.lst (ns.map V.str))∧rNames (ws.drop i)=nmTail ns (ws.drop i')∧ns.length + (ws.drop i').length≤8001,?_,?_⟩
  ·refine ⟨_,rfl,r,dx,_,rfl,R1.row,co_no a i,r,dx,a,ws,i,rfl,R1,rfl,_,rfl,ite2 (fun h=>?_) (fun h=>?_)⟩
   ·have h:=dne_t h
    have e0:rNames (ws.drop i)=(rName (ws.drop i)).bind fun q=>nmTail [q.1] q.2:=by rw [rNames_eq,if_neg h]
    refine ⟨_,rfl,.inl ⟨rfl,_,SqL.of g1⟩,_,rfl,r,dx,a,ws,i,rfl,R1,ok,fun x l' e v H' i' s' R' d' rel=>?_,fun e H' s'=>qE (by rw [e0,e]; rfl) _ (s1.trans s')⟩
    cases rel
    have gp:=s' p _ pr g1
    refine ⟨p,_,_,rfl,rfl,gp,by decide,rfl,[x],i',kp (s1.trans s') (fun b o nb np e=>by rw [upd_ne np]; exact e),⟨by rw [upd_ne pr.symm]; exact R'.row,by rw [upd_ne ap]; exact R'.lst,fun z hz=>R'.fr z (none_upd hz)⟩,upd_same,?_,by show 1 + _≤_; have:=dl i'; omega⟩
    ·rw [e0,e]
     show nmTail [x] l'=_
     rw [d']
   ·have h:=dne_f h
    exact ⟨rfl,[],i,s1,R1,g1,by rw [rNames_eq,if_pos h],by show 0 + _≤_; have:=dl i; omega⟩
  ·rintro σ' H' ⟨rfl,ns,i',s',R',g',e',hl⟩
   refine ⟨fun m σ2 H2=>σ2=[some (.ref r),some (.ref p)]∧∃ ns i',m=(ws.drop i').length∧Rw r H H2∧RowIs C Z H2 r dx a ws i'∧H2 p=some (.lst (ns.map V.str))∧rNames (ws.drop i)=nmTail ns (ws.drop i')∧ns.length + (ws.drop i').length≤8001,
    ⟨_,rfl,ns,i',rfl,s',R',g',e',hl⟩,?_⟩
   clear s' R' g' e' hl
   rintro m σ2 H2 ⟨rfl,ns,i',rfl,s2,R2,g2,e2,hl⟩
   refine ⟨_,rfl,r,dx,_,rfl,R2.row,co_no a i',r,dx,a,ws,i',rfl,R2,rfl,_,rfl,ite2 (fun h=>?_) (fun h=>?_)⟩
   ·have h:=deq_t h
    refine ⟨fun σ3 H3=>σ3=[some (.ref r),some (.ref p)]∧∃ ns i3,(ws.drop i3).length < (ws.drop i').length∧Rw r H H3∧RowIs C Z H3 r dx a ws i3∧H3 p=some (.lst (ns.map V.str))∧rNames (ws.drop i)=nmTail ns (ws.drop i3)∧ns.length + (ws.drop i3).length≤8001,?_,?_⟩
    ·rintro σ3 H3 ⟨rfl,ns3,i3,lt,t3⟩
     exact ⟨_,lt,rfl,ns3,i3,rfl,t3⟩
    have ne:0 < (ws.drop i').length:=by
     cases z:ws.drop i' with
     | nil=>rw [z] at h; exact absurd h (by decide +kernel)
     | cons _ _=>exact Nat.zero_lt_succ _
    have lt:(ws.drop (i' + 1)).length + 1=(ws.drop i').length:=by
     rw [drop_tail,List.length_tail]
     omega
    refine ⟨_,rfl,r,dx,_,rfl,R2.row,ta_no a i',r,dx,a,ws,i',rfl,R2,?_⟩
    have R3:=R2.next (i' + 1)
    have g3:(upd H2 r (.ins C dx (rowF a (i' + 1)))) p=some (.lst (ns.map V.str)):=by rw [upd_ne pr]; exact g2
    have s3:Rw r H (upd H2 r (.ins C dx (rowF a (i' + 1)))):=s2.trans (Rw.upd _ _ _)
    generalize upd H2 r (.ins C dx (rowF a (i' + 1)))=H3 at R3 g3 s3
    have e3:nmTail ns (ws.drop i')=(rName (ws.drop (i' + 1))).bind fun q=>nmTail (ns++[q.1]) q.2:=by rw [nmTail_step h,drop_tail]
    refine ⟨_,rfl,.inl ⟨rfl,_,SqL.of g3⟩,_,rfl,r,dx,a,ws,i' + 1,rfl,R3,ok,fun x l' e v H4 i4 s4 R4 d4 rel=>?_,fun e H4 s4=>qE (by rw [e2,e3,e]; rfl) _ (s3.trans s4)⟩
    cases rel
    have g4:=s4 p _ pr g3
    have hl4:(ws.drop i4).length≤(ws.drop (i' + 1)).length:=by
     have e9:l'=_:=(rName_some e).2.2
     rw [d4,e9,List.length_tail]
     omega
    refine ⟨p,_,_,rfl,rfl,g4,?_,rfl,ns++[x],i4,by omega,kp (s3.trans s4) (fun b o nb np e=>by rw [upd_ne np]; exact e),⟨by rw [upd_ne pr.symm]; exact R4.row,by rw [upd_ne ap]; exact R4.lst,fun z hz=>R4.fr z (none_upd hz)⟩,?_,?_,?_⟩
    ·rw [List.length_map]
     exact Nat.lt_of_le_of_lt (show ns.length≤8001 by omega) (by decide)
    ·rw [upd_same,List.map_append]
     rfl
    ·rw [e2,e3,e,d4]
     rfl
    ·rw [List.length_append,List.length_singleton]
     omega
   ·have h:=deq_f h
    have e3:nmTail ns (ws.drop i')=(rPass "}" (ws.drop i')).map fun l3=>(ns,l3):=nmTail_end h
    refine ⟨_,rfl,r,dx,_,rfl,R2.row,po_no a i',r,dx,a,ws,i',_,rfl,⟨by decide +kernel,by decide +kernel⟩,R2,fun z=>?_,fun z H4 s4=>qE ?_ _ (s2.trans s4)⟩
    ·refine ⟨_,rfl,q ns (ws.drop i').tail ?_ _ _ (i' + 1) (s2.trans (Rw.upd _ _ _)) (R2.next (i' + 1)) (drop_tail ws i') ⟨p,rfl,zp,?_⟩⟩
     ·rw [e2,e3]
      unfold rPass
      rw [if_pos z]
      rfl
     ·rw [upd_ne pr]
      exact g2
    ·rw [e2,e3]
     unfold rPass
     rw [if_neg z]
     rfl
theorem sc_rset:FnScope ["row","word"] ["row"] (defScope s_read_set):=⟨rfl,rfl,rfl,by decide +kernel,rfl,by decide +kernel,by decide +kernel⟩
theorem ok_rset {f:Addr} {fd:FuncData} (F:Fun K "read_set" "read_set" s_read_set f fd) (W:Wrd P w K mg C) (R0:Ecs K mg ct) (mt:CanM P w K mg base 2 C "take" ["self"] (spTake C Z)) (cr:CanX P w K mg base 3 "read_name" ["row"] (spRow C ct Z [] rName RelN)) (cs:CanX P w K mg base 4 "read_names" ["row"] (spRow C ct Z [] rNames (RelL Z))) :
  FnOk P w K mg base (CXF P w) 5 f fd ["row"] (spRow C ct Z [] rSet (RelK Z)):=by
 refine F.okX sc_rset (fun vs H Q E h=>?_) (fun cdv A outer s H vs Q E hr Wt h=>?_)
 ·obtain ⟨r,dx,a,ws,i,rfl,_⟩:=h
  rfl
 ·obtain ⟨r,dx,a,ws,i,rfl,R,ok,q,qE⟩:=h
  have r3:Room 3 _:=hr.mono (by decide)
  have r2:Room 2 _:=hr.mono (by decide)
  refine ⟨_,(pss_cons (ps_set (i:=1) sc_rset.nd rfl (Or.inl rfl) (pe_methC0 (pv 0) W.cl mt r2))
   (pss_cons (ps_if (pt_cmpR op_eq (pv 1) pe_str (nomark _)) (pss_one (ps_ret (pe_tup (pa_cons (pv 1) pa_nil)))) pss_nil)
   (pss_cutE (ps_if (PW.pt (pw_or (pt_cmpR op_eq (pv 1) pe_str (nomark _)) (pw_or1 (pt_cmpR op_eq (pv 1) pe_str (nomark _))))) (pss_one (ps_ret (pe_tup (pa_cons (pv 1) (pa_cons (pe_callX cr Wt r3 (by rfl) (pa_cons (pv 0) pa_nil)) pa_nil))))) pss_nil)
   (pss_cons (ps_if (pt_cmpR op_ne (pv 1) pe_str (nomark _)) (pss_one (ps_raise Wt rfl (by rfl) R0.mt R0.ex PySem.F.excBase_ValueError (pa_cons (pe_join (pj_cons (pe_rep (pv 1)) (pj_cons pe_str pj_nil)) (by decide)) pa_nil))) pss_nil)
   (pss_one (ps_ret (pe_tup (pa_cons pe_str (pa_cons (pe_callX cs Wt hr (by rfl) (pa_cons (pv 0) pa_nil)) pa_nil))))))))),?_⟩
  refine ⟨_,rfl,r,dx,_,rfl,R.row,ta_no a i,r,dx,a,ws,i,rfl,R,?_⟩
  have R1:=R.next (i + 1)
  have s1:Rw r H (upd H r (.ins C dx (rowF a (i + 1)))):=Rw.upd _ _ _
  have hx:=ok.hd i
  have dt:=drop_tail ws i
  generalize upd H r (.ins C dx (rowF a (i + 1)))=H1 at R1 s1
  refine ⟨_,rfl,rfl,_,rfl,ite2 (fun h=>?_) (fun h1=>?_)⟩
  ·have h:=deq_t h
   refine ⟨_,rfl,by show 1≤sizeLine; decide,fun t ht=>q .all (ws.drop i).tail (if_pos h) _ _ (i + 1) (s1.trans (Rw.same (Same.new ht))) (R1.same (Same.new ht)) dt ?_⟩
   rw [h]
   exact pd_tup (n:=1) upd_same (.cons (pd_str (by decide +kernel)) .nil)
  have h1:=deq_f h1
  have name:(hd (ws.drop i) = "from" ∨ hd (ws.drop i) = "to")→∃ x,[some (V.ref r),some (V.str (hd (ws.drop i)))][1]?=some (some x)∧∃ x',[some (V.ref r),some (V.str (hd (ws.drop i)))][0]?=some (some x')∧∃ r' dx' a' ws' i',[x']=.ref r' :: []∧RowIs C Z H1 r' dx' a' ws' i'∧okWs ws' ∧
    (∀ x0 l',rName (ws'.drop i')=some (x0,l')→∀ v H' i'',Rw r' H1 H'→RowIs C Z H' r' dx' a' ws' i''→ws'.drop i''=l'→RelN H' v x0→[x,v].length≤sizeLine∧∀ t,H' t=none→Q (.ref t) (upd H' t (.tup [x,v])))∧(rName (ws'.drop i')=none→∀ H',Rw r' H1 H'→E (.ref ct) none H'):=fun h=>by
   have e0:rSet (ws.drop i)=(rName (ws.drop (i + 1))).map fun q=>(.of (hd (ws.drop i)) q.1,q.2):=by
    unfold rSet
    rw [if_neg h1,if_pos h,dt]
   refine ⟨_,rfl,_,rfl,r,dx,a,ws,i + 1,rfl,R1,ok,fun x l' e v H' i' s' R' d' rel=>⟨by show 2≤sizeLine; decide,fun t ht=>?_⟩,fun e H' s'=>qE (by rw [e0,e]; rfl) _ (s1.trans s')⟩
   cases rel
   refine q (.of (hd (ws.drop i)) x) l' (by rw [e0,e]; rfl) _ _ i' (s1.trans (s'.trans (Rw.same (Same.new ht)))) (R'.same (Same.new ht)) d' ?_
   exact pd_tup (n:=1) upd_same (.cons (pd_str (ok_strOk hx)) (.cons (pd_str (okN_strOk (rName_some e).1)) .nil))
  refine ⟨fun σ' H'=>σ'=[some (V.ref r),some (V.str (hd (ws.drop i)))]∧H'=H1∧hd (ws.drop i) ≠ "from" ∧ hd (ws.drop i) ≠ "to",?_,?_⟩
  ·refine ⟨_,rfl,rfl,_,rfl,ite2 (fun h=>iteT (name (.inl (deq_t h)))) (fun h2=>⟨_,rfl,rfl,_,rfl,ite2 (fun h=>name (.inr (deq_t h))) (fun h3=>⟨rfl,rfl,deq_f h2,deq_f h3⟩)⟩)⟩
  ·rintro σ' H' ⟨rfl,rfl,h2,h3⟩
   refine ⟨_,rfl,rfl,_,rfl,ite2 (fun h=>?_) (fun h=>?_)⟩
   ·refine ⟨_,rfl,.inl ⟨_,rfl,hx.repS,_,rfl,hx.rep,_,rfl,by decide +kernel,by show 1≤sizeLine; decide,qE ?_ _ s1⟩⟩
    unfold rSet
    rw [if_neg h1,if_neg (fun z=>z.elim h2 h3),if_neg (dne_t h)]
   ·have h:=dne_f h
    have e0:rSet (ws.drop i)=(rNames (ws.drop (i + 1))).map fun q=>(.these q.1,q.2):=by
     unfold rSet
     rw [if_neg h1,if_neg (fun z=>z.elim h2 h3),if_pos h,dt]
    refine ⟨_,rfl,r,dx,a,ws,i + 1,rfl,R1,ok,fun x l' e v H' i' s' R' d' rel=>⟨by show 2≤sizeLine; decide,fun t ht=>?_⟩,fun e H' s'=>qE (by rw [e0,e]; rfl) _ (s1.trans s')⟩
    obtain ⟨p,rfl,hz,hp⟩:=rel
    refine q (.these x) l' (by rw [e0,e]; rfl) _ _ i' (s1.trans (s'.trans (Rw.same (Same.new ht)))) (R'.same (Same.new ht)) d' ?_
    exact pd_tup (n:=1) upd_same (.cons (pd_str (by decide +kernel)) (.cons (pd_lst (n:=0) (Same.new ht _ _ hp) hz (pd_names (rNames_some e))) .nil))
theorem sc_rcost:FnScope ["row","a","b"] ["row"] (defScope s_read_cost):=⟨rfl,rfl,rfl,by decide +kernel,rfl,by decide +kernel,by decide +kernel⟩
theorem ok_rcost {f:Addr} {fd:FuncData} (F:Fun K "read_cost" "read_cost" s_read_cost f fd) (T:Txt K mg) (W:Wrd P w K mg C) (mt:CanM P w K mg base 2 C "take" ["self"] (spTake C Z)) (mp:CanMX P w K mg base 3 C "pass_over" ["self","word"] (spPass C ct Z)) (cr:CanX P w K mg base 3 "read_name" ["row"] (spRow C ct Z [] rName RelN))
  (cu:CanX P w K mg base 2 "read_number" ["text","most_figures"] (spNumX ct)):FnOk P w K mg base (CXF P w) 4 f fd ["row"] (spRow C ct Z [] rCost (RelF Z)):=by
 refine F.okX sc_rcost (fun vs H Q E h=>?_) (fun cdv A outer s H vs Q E hr Wt h=>?_)
 ·obtain ⟨r,dx,a,ws,i,rfl,_⟩:=h
  rfl
 ·obtain ⟨r,dx,a,ws,i,rfl,R,ok,q,qE⟩:=h
  have r2:Room 2 _:=hr.mono (by decide)
  refine ⟨_,(pss_cons (ps_set (i:=1) sc_rcost.nd rfl (Or.inl rfl) (pe_callX cr Wt hr (by rfl) (pa_cons (pv 0) pa_nil)))
   (pss_cons (ps_set (i:=2) sc_rcost.nd rfl (Or.inl rfl) (pe_callX cr Wt hr (by rfl) (pa_cons (pv 0) pa_nil)))
   (pss_cons (ps_expr (pe_methX (pv 0) W.cl mp Wt hr (pa_cons pe_str pa_nil)))
   (pss_one (ps_ret (pe_tup (pa_cons pe_str (pa_cons (pv 1) (pa_cons (pv 2) (pa_cons (pe_callX cu Wt r2 (by rfl) (pa_cons (pe_methC0 (pv 0) W.cl mt r2) (pa_cons (pe_globC T.mostF (by rfl)) pa_nil))) pa_nil)))))))))),?_⟩
  refine ⟨_,rfl,r,dx,a,ws,i,rfl,R,ok,fun x1 l1 e1 v1 H1 i1 s1 R1 d1 rel1=>?_,fun e H' s'=>qE (by unfold rCost; rw [e]; rfl) _ s'⟩
  cases rel1
  subst d1
  refine ⟨_,rfl,r,dx,a,ws,i1,rfl,R1,ok,fun x2 l2 e2 v2 H2 i2 s2 R2 d2 rel2=>?_,fun e H' s'=>qE (by unfold rCost; rw [e1]; show (rName (ws.drop i1)).bind _=_; rw [e]; rfl) _ (s1.trans s')⟩
  cases rel2
  subst d2
  have e0:rCost (ws.drop i)=(rPass "<=" (ws.drop i2)).bind fun l3=>(rNum (hd l3)).map fun n=>(.cost x1 x2 n,l3.tail):=by
   unfold rCost
   rw [e1]
   show (rName (ws.drop i1)).bind _=_
   rw [e2]
   rfl
  refine ⟨_,rfl,r,dx,_,rfl,R2.row,po_no a i2,r,dx,a,ws,i2,_,rfl,⟨by decide +kernel,by decide +kernel⟩,R2,fun z=>?_,fun z H4 s4=>qE ?_ _ (s1.trans (s2.trans s4))⟩
  rotate_left
  ·rw [e0]
   unfold rPass
   rw [if_neg z]
   rfl
  have R3:=R2.next (i2 + 1)
  have s3:Rw r H (upd H2 r (.ins C dx (rowF a (i2 + 1)))):=s1.trans (s2.trans (Rw.upd _ _ _))
  generalize upd H2 r (.ins C dx (rowF a (i2 + 1)))=H3 at R3 s3
  have e3:rCost (ws.drop i)=(rNum (hd (ws.drop (i2 + 1)))).map fun n=>(.cost x1 x2 n,(ws.drop (i2 + 1)).tail):=by
   rw [e0]
   unfold rPass
   rw [if_pos z,drop_tail]
   rfl
  refine ⟨_,rfl,_,rfl,_,rfl,r,dx,_,rfl,R3.row,ta_no a (i2 + 1),r,dx,a,ws,i2 + 1,rfl,R3,?_⟩
  have R4:=R3.next (i2 + 1 + 1)
  have s4:Rw r H (upd H3 r (.ins C dx (rowF a (i2 + 1 + 1)))):=s3.trans (Rw.upd _ _ _)
  generalize upd H3 r (.ins C dx (rowF a (i2 + 1 + 1)))=H4 at R4 s4
  refine ⟨_,rfl,ok.hd _,fun hk H5 s5=>⟨by show 4≤sizeLine; decide,fun t ht=>?_⟩,fun hk H5 s5=>qE ?_ _ (s4.trans (Rw.same s5))⟩
  ·refine q (.cost x1 x2 _) (ws.drop (i2 + 1)).tail (by rw [e3]; unfold rNum; rw [if_pos hk]; rfl) _ _ (i2 + 1 + 1) (s4.trans (Rw.same (s5.trans (Same.new ht)))) (R4.same (s5.trans (Same.new ht))) (drop_tail ws (i2 + 1)) ?_
   exact pd_tup (n:=2) upd_same (.cons (pd_str (by decide +kernel)) (.cons (pd_str (okN_strOk (rName_some e1).1)) (.cons (pd_str (okN_strOk (rName_some e2).1)) (.cons pd_int .nil))))
  ·rw [e3]
   unfold rNum
   rw [hk]
   rfl
end
end Net
namespace Net
open PySem L2 L2.Tx
def spFst (C ct:Addr) (Z:Addr→Prop) (m:Nat):Sp:=spRow C ct Z [.int (m:Int)] (rFirst m) (RelF Z)
def spWt (C ct:Addr) (Z:Addr→Prop) (m:Nat):Sp:=spRow C ct Z [.int (m:Int)] (wtOf (rFirst m)) (RelF Z)
def spWh (C ct:Addr) (Z:Addr→Prop) (m:Nat):Sp:=spRow C ct Z [.int (m:Int)] (whOf (rFirst m)) (RelF Z)
def spWc (C ct:Addr) (Z:Addr→Prop) (m:Nat):Sp:=spRow C ct Z [.int (m:Int)] (wcOf (rFirst m)) (RelF Z)
def spOver (C ct:Addr) (Z:Addr→Prop) (m:Nat):Sp:=fun vs H Q E=>∃ w:Str,(w = "each" ∨ w = "some")∧spRow C ct Z [.int ((m + 1:Nat):Int),.str w] (rOver (rFirst m) w) (RelF Z) vs H Q E
def spTwo (C ct:Addr) (Z:Addr→Prop) (m:Nat):Sp:=fun vs H Q E=>∃ w:Str,(w = "least" ∨ w = "most")∧spRow C ct Z [.int ((m + 1:Nat):Int),.str w] (rTwo (rFirst m) w) (RelF Z) vs H Q E
def spBr (C ct:Addr) (Z:Addr→Prop) (m:Nat):Sp:=spRow C ct Z [.int ((m + 1:Nat):Int)] (rBr (rFirst m)) (RelF Z)
def spFN (C ct:Addr) (Z:Addr→Prop) (m:Nat):Sp:=fun vs H Q E=>∃ w:Str,okX w∧spRow C ct Z [.int ((m + 1:Nat):Int),.str w] (rFN (rFirst m) w) (RelF Z) vs H Q E
theorem less_one (r:Addr) (m:Nat):[V.ref r,V.int (((m + 1:Nat):Int) - 1)]=V.ref r :: [V.int (m:Int)]:=by
 have:((m + 1:Nat):Int) - 1=(m:Int):=by omega
 rw [this]
theorem RelF.rw {r C dx:Addr} {Z:Addr→Prop} {fs:List (Str × V)} {H H':Hp} {v:V} {c:Cl} (h:RelF Z H v c) (s:Rw r H H') (hr:H r=some (.ins C dx fs)):RelF Z H' v c:=s.pd hr h
theorem RelF.same {Z:Addr→Prop} {H H':Hp} {v:V} {c:Cl} (h:RelF Z H v c) (s:Same H H'):RelF Z H' v c:=PDF.same s h
theorem first_none {f:Rdr} {l:List Str} (h:nb (hd l)=none):firstOf f l=(if hd l = "cost" then rCost l.tail else if hd l = "not" then (wcOf f l.tail).map fun q=>(.neg q.1,q.2)
  else if hd l = "each" ∨ hd l = "some" then rOver f (hd l) l.tail else if hd l = "size" then (rSet l.tail).map fun q=>(.size q.1,q.2)
  else if hd l = "pairs" then (rSet l.tail).bind fun q=>(rSet q.2).map fun p=>(.pairs q.1 p.1,p.2)
  else if hd l = "least" ∨ hd l = "most" then rTwo f (hd l) l.tail else if hd l = "(" then rBr f l.tail else rFN f (hd l) l.tail):=by
 unfold firstOf
 rw [h]
theorem first_nm {f:Rdr} {l:List Str} {n:Nat} (h:nb (hd l)=some n):firstOf f l=(rNms n l.tail).map fun q=>(.nm (hd l) q.1,q.2):=by
 unfold firstOf
 rw [h]
theorem rel_nm {Z:Addr→Prop} {H:Hp} {t:Addr} {w:Str} {ns:List Str} (h:H t=some (.tup (.str w :: ns.map V.str))) (hw:PyData.strOk w=true) (hn:∀ x ∈ ns,okN x=true):RelF Z H (.ref t) (.nm w ns):=pd_tup (n:=2) h (.cons (pd_str hw) (pd_names hn))
theorem rel_neg {Z:Addr→Prop} {H:Hp} {t:Addr} {v:V} {c:Cl} (h:H t=some (.tup [.str "not",v])) (hc:RelF Z H v c):RelF Z H (.ref t) (.neg c):=by
 show PDF Z H (1 + dep c + 2) _ _
 rw [show 1 + dep c + 2=(dep c + 2) + 1 by omega]
 exact pd_tup h (.cons (pd_str (by decide +kernel)) (.cons hc .nil))
theorem rel_two {Z:Addr→Prop} {H:Hp} {w:Str} {v u:V} {a b:Cl} {n:Nat} (hn:n=max (dep a) (dep b)) (hw:PyData.strOk w=true) (ha:RelF Z H v a) (hb:RelF Z H u b):Paired (PDF Z H (n + 2)) [.str w,v,u] [.str w,dat a,dat b]:=by
 have h1:PDF Z H (n + 2) v (dat a):=by
  have:=PDF.mono ha (n - dep a)
  rwa [show dep a + 2 + (n - dep a)=n + 2 by omega] at this
 have h2:PDF Z H (n + 2) u (dat b):=by
  have:=PDF.mono hb (n - dep b)
  rwa [show dep b + 2 + (n - dep b)=n + 2 by omega] at this
 exact .cons (pd_str hw) (.cons h1 (.cons h2 .nil))
theorem rel_2 {Z:Addr→Prop} {H:Hp} {t:Addr} {w:Str} {v u:V} {a b c:Cl} (h:H t=some (.tup [.str w,v,u])) (hw:PyData.strOk w=true) (ha:RelF Z H v a) (hb:RelF Z H u b) (hd:dep c=1 + max (dep a) (dep b)) (he:dat c=.tuple [.str w,dat a,dat b]):RelF Z H (.ref t) c:=by
 show PDF Z H (dep c + 2) _ _
 rw [hd,he,show 1 + max (dep a) (dep b) + 2=(max (dep a) (dep b) + 2) + 1 by omega]
 exact pd_tup h (rel_two rfl hw ha hb)
theorem rel_tim {Z:Addr→Prop} {H:Hp} {t:Addr} {n:Int} {v:V} {c:Cl} (h:H t=some (.tup [.str "times",.int n,v])) (hc:RelF Z H v c):RelF Z H (.ref t) (.tim n c):=by
 show PDF Z H (1 + dep c + 2) _ _
 rw [show 1 + dep c + 2=(dep c + 2) + 1 by omega]
 exact pd_tup h (.cons (pd_str (by decide +kernel)) (.cons pd_int (.cons hc .nil)))
theorem rel_ov {Z:Addr→Prop} {H:Hp} {t:Addr} {w x:Str} {k v:V} {s:Ks} {c:Cl} (h:H t=some (.tup [.str w,.str x,k,v])) (hw:PyData.strOk w=true) (hx:PyData.strOk x=true) (hk:RelK Z H k s) (hc:RelF Z H v c):RelF Z H (.ref t) (.ov w x s c):=by
 show PDF Z H (1 + dep c + 2) _ _
 rw [show 1 + dep c + 2=(dep c + 2) + 1 by omega]
 have h2:PDF Z H (dep c + 2) k (datK s):=by
  have:=PDF.mono hk (dep c)
  rwa [show 2 + dep c=dep c + 2 by omega] at this
 exact pd_tup h (.cons (pd_str hw) (.cons (pd_str hx) (.cons h2 (.cons hc .nil))))
section
variable {P:Program} {w:World} {K:PySem.W.Frag} {mg:Str→Option Value} {base:Heap} {C ct:Addr} {Z:Addr→Prop} {L m:Nat}
theorem sc_rwt:FnScope ["row","room","whole"] ["row","room"] (defScope s_read_whole_term):=⟨rfl,rfl,rfl,by decide +kernel,rfl,by decide +kernel,by decide +kernel⟩
theorem ok_rwt {f:Addr} {fd:FuncData} (F:Fun K "read_whole_term" "read_whole_term" s_read_whole_term f fd) (R0:Ecs K mg ct) (hL:1≤L) (cf:CanX P w K mg base L "read_first" ["row","room"] (spFst C ct Z m)) (ci:Can P w K mg base 1 "is_term" ["whole"] spIsT):FnOk P w K mg base (CXF P w) (L + 1) f fd ["row","room"] (spWt C ct Z m):=by
 refine F.okX sc_rwt (fun vs H Q E h=>?_) (fun cdv A outer s H vs Q E hr Wt h=>?_)
 ·obtain ⟨r,dx,a,ws,i,rfl,_⟩:=h
  rfl
 ·obtain ⟨r,dx,a,ws,i,rfl,R,ok,q,qE⟩:=h
  have r1:Room 1 _:=hr.mono (by omega)
  refine ⟨_,(pss_cons (ps_set (i:=2) sc_rwt.nd rfl (Or.inl rfl) (pe_callX cf Wt hr (by rfl) (pa_cons (pv 0) (pa_cons (pv 1) pa_nil))))
   (pss_cons (ps_if (pt_not (pt_val (pe_callC ci r1 (by rfl) (pa_cons (pv 2) pa_nil)))) (pss_one (ps_raise Wt rfl (by rfl) R0.mt R0.ex PySem.F.excBase_ValueError (pa_cons pe_str pa_nil))) pss_nil)
   (pss_one (ps_ret (pv 2))))),?_⟩
  refine ⟨_,rfl,_,rfl,r,dx,a,ws,i,rfl,R,ok,fun c l' e v H' i' s' R' d' rel=>?_,fun e H' s'=>qE (by unfold wtOf; rw [e]; rfl) _ s'⟩
  refine ⟨_,rfl,v,_,c,rfl,PDF.pd rel,_,rfl,?_⟩
  cases ht:isT c with
  | true=>exact iteF ⟨_,rfl,q c l' (by unfold wtOf; rw [e]; exact if_pos ht) v H' i' s' R' d' rel⟩
  | false=>exact iteT ⟨by show 1≤sizeLine; decide,qE (by unfold wtOf; rw [e]; exact if_neg (by rw [ht]; exact Bool.false_ne_true)) _ s'⟩
theorem sc_rwh:FnScope ["row","room","first"] ["row","room"] (defScope s_read_whole):=⟨rfl,rfl,rfl,by decide +kernel,rfl,by decide +kernel,by decide +kernel⟩
theorem ok_rwh {f:Addr} {fd:FuncData} (F:Fun K "read_whole" "read_whole" s_read_whole f fd) (W:Wrd P w K mg C) (hL:2≤L) (cf:CanX P w K mg base L "read_first" ["row","room"] (spFst C ct Z m)) (cw:CanX P w K mg base L "read_whole_term" ["row","room"] (spWt C ct Z m)) (ci:Can P w K mg base 1 "is_term" ["whole"] spIsT)
  (mc:CanM P w K mg base 1 C "coming" ["self"] (spComing C Z)) (mt:CanM P w K mg base 2 C "take" ["self"] (spTake C Z)):FnOk P w K mg base (CXF P w) (L + 1) f fd ["row","room"] (spWh C ct Z m):=by
 refine F.okX sc_rwh (fun vs H Q E h=>?_) (fun cdv A outer s H vs Q E hr Wt h=>?_)
 ·obtain ⟨r,dx,a,ws,i,rfl,_⟩:=h
  rfl
 ·obtain ⟨r,dx,a,ws,i,rfl,R,ok,q,qE⟩:=h
  have r1:Room 1 _:=hr.mono (by omega)
  have r2:Room 2 _:=hr.mono (by omega)
  refine ⟨_,(pss_cons (ps_set (i:=2) sc_rwh.nd rfl (Or.inl rfl) (pe_callX cf Wt hr (by rfl) (pa_cons (pv 0) (pa_cons (pv 1) pa_nil))))
   (pss_cons (ps_if (PW.pt (pw_or (pt_not (pt_val (pe_callC ci r1 (by rfl) (pa_cons (pv 2) pa_nil)))) (pw_or1 (pt_cmpR op_ne (pe_methC0 (pv 0) W.cl mc r1) pe_str (nomark _))))) (pss_one (ps_ret (pv 2))) pss_nil)
   (pss_cons (ps_expr (pe_methC0 (pv 0) W.cl mt r2))
   (pss_one (ps_ret (pe_tup (pa_cons pe_str (pa_cons (pv 2) (pa_cons (pe_callX cw Wt hr (by rfl) (pa_cons (pv 0) (pa_cons (pv 1) pa_nil))) pa_nil))))))))),?_⟩
  refine ⟨_,rfl,_,rfl,r,dx,a,ws,i,rfl,R,ok,fun c l' e v H' i' s' R' d' rel=>?_,fun e H' s'=>qE (by unfold whOf; rw [e]; rfl) _ s'⟩
  subst d'
  have e0:whOf (rFirst m) (ws.drop i)=if isT c=false ∨ hd (ws.drop i') ≠ "<=" then some (c,ws.drop i') else (wtOf (rFirst m) (ws.drop i').tail).map fun p=>(.atm c p.1,p.2):=by
   unfold whOf
   rw [e]
   rfl
  refine ⟨_,rfl,v,_,c,rfl,PDF.pd rel,_,rfl,?_⟩
  cases ht:isT c with
  | false=>exact iteT ⟨_,rfl,q c _ (by rw [e0]; exact if_pos (.inl ht)) v H' i' s' R' rfl rel⟩
  | true =>
   refine iteF ⟨_,rfl,r,dx,_,rfl,R'.row,co_no a i',r,dx,a,ws,i',rfl,R',rfl,_,rfl,ite2 (fun h=>?_) (fun h=>?_)⟩
   ·exact ⟨_,rfl,q c _ (by rw [e0]; exact if_pos (.inr (dne_t h))) v H' i' s' R' rfl rel⟩
   ·have h:=dne_f h
    have e1:whOf (rFirst m) (ws.drop i)=(wtOf (rFirst m) (ws.drop (i' + 1))).map fun p=>(.atm c p.1,p.2):=by
     rw [e0,if_neg (fun z=>z.elim (fun y=>by rw [ht] at y; cases y) (fun y=>y h)),drop_tail]
    refine ⟨_,rfl,r,dx,_,rfl,R'.row,ta_no a i',r,dx,a,ws,i',rfl,R',?_⟩
    have R2:=R'.next (i' + 1)
    have s2:Rw r H' (upd H' r (.ins C dx (rowF a (i' + 1)))):=Rw.upd _ _ _
    have rel2:=rel.rw s2 R'.row
    generalize upd H' r (.ins C dx (rowF a (i' + 1)))=H2 at R2 s2 rel2
    refine ⟨_,rfl,_,rfl,_,rfl,r,dx,a,ws,i' + 1,rfl,R2,ok,fun b l3 e3 v3 H3 i3 s3 R3 d3 rel3=>⟨by show 3≤sizeLine; decide,fun t ht=>?_⟩,fun e3 H3 s3=>qE (by rw [e1,e3]; rfl) _ (s'.trans (s2.trans s3))⟩
    have sn:Same H3 (upd H3 t (.tup [.str "atmost",v,v3])):=Same.new ht
    exact q (.atm c b) l3 (by rw [e1,e3]; rfl) _ _ i3 (s'.trans (s2.trans (s3.trans (Rw.same sn)))) (R3.same sn) d3 (rel_2 upd_same (by decide +kernel) ((rel2.rw s3 R2.row).same sn) (rel3.same sn) rfl rfl)
theorem sc_rwc:FnScope ["row","room","whole"] ["row","room"] (defScope s_read_whole_claim):=⟨rfl,rfl,rfl,by decide +kernel,rfl,by decide +kernel,by decide +kernel⟩
theorem ok_rwc {f:Addr} {fd:FuncData} (F:Fun K "read_whole_claim" "read_whole_claim" s_read_whole_claim f fd) (R0:Ecs K mg ct) (hL:1≤L) (cf:CanX P w K mg base L "read_whole" ["row","room"] (spWh C ct Z m)) (ci:Can P w K mg base 1 "is_term" ["whole"] spIsT):FnOk P w K mg base (CXF P w) (L + 1) f fd ["row","room"] (spWc C ct Z m):=by
 refine F.okX sc_rwc (fun vs H Q E h=>?_) (fun cdv A outer s H vs Q E hr Wt h=>?_)
 ·obtain ⟨r,dx,a,ws,i,rfl,_⟩:=h
  rfl
 ·obtain ⟨r,dx,a,ws,i,rfl,R,ok,q,qE⟩:=h
  have r1:Room 1 _:=hr.mono (by omega)
  refine ⟨_,(pss_cons (ps_set (i:=2) sc_rwc.nd rfl (Or.inl rfl) (pe_callX cf Wt hr (by rfl) (pa_cons (pv 0) (pa_cons (pv 1) pa_nil))))
   (pss_cons (ps_if (pt_val (pe_callC ci r1 (by rfl) (pa_cons (pv 2) pa_nil))) (pss_one (ps_raise Wt rfl (by rfl) R0.mt R0.ex PySem.F.excBase_ValueError (pa_cons pe_str pa_nil))) pss_nil)
   (pss_one (ps_ret (pv 2))))),?_⟩
  refine ⟨_,rfl,_,rfl,r,dx,a,ws,i,rfl,R,ok,fun c l' e v H' i' s' R' d' rel=>?_,fun e H' s'=>qE (by unfold wcOf; rw [e]; rfl) _ s'⟩
  refine ⟨_,rfl,v,_,c,rfl,PDF.pd rel,_,rfl,?_⟩
  cases ht:isT c with
  | false=>exact iteF ⟨_,rfl,q c l' (by unfold wcOf; rw [e]; exact if_neg (by rw [ht]; exact Bool.false_ne_true)) v H' i' s' R' d' rel⟩
  | true=>exact iteT ⟨by show 1≤sizeLine; decide,qE (by unfold wcOf; rw [e]; exact if_pos ht) _ s'⟩
end
end Net
namespace Net
open PySem L2 L2.Tx
theorem rPass_t {w:Str} {l:List Str} (h:hd l=w):rPass w l=some l.tail:=if_pos h
theorem rPass_f {w:Str} {l:List Str} (h:hd l ≠ w):rPass w l=none:=if_neg h
theorem varB_strOk {x:Str} (h:varB x=true):PyData.strOk x=true:=okN_strOk (by unfold okN; rw [h,Bool.or_true])
theorem okX_lit {x:Str} (h:(decide (x.length≤8000) && x.cps.toList.all fun c=>decide (c < 1114112))=true):okX x:=by
 simp only [Bool.and_eq_true,decide_eq_true_eq,List.all_eq_true] at h
 exact h
section
variable {P:Program} {w:World} {K:PySem.W.Frag} {mg:Str→Option Value} {base:Heap} {C ct:Addr} {Z:Addr→Prop} {L m:Nat}
theorem sc_rov:FnScope ["row","room","word","variable","kind"] ["row","room","word"] (defScope s_read_over_places):=⟨rfl,rfl,rfl,by decide +kernel,rfl,by decide +kernel,by decide +kernel⟩
theorem ok_rov {f:Addr} {fd:FuncData} (F:Fun K "read_over_places" "read_over_places" s_read_over_places f fd) (W:Wrd P w K mg C) (R0:Ecs K mg ct) (hL:5≤L) (mt:CanM P w K mg base 2 C "take" ["self"] (spTake C Z)) (cv:Can P w K mg base 2 "is_variable" ["word"] spVar)
  (mp:CanMX P w K mg base 3 C "pass_over" ["self","word"] (spPass C ct Z)) (cs:CanX P w K mg base 5 "read_set" ["row"] (spRow C ct Z [] rSet (RelK Z))) (cw:CanX P w K mg base L "read_whole_claim" ["row","room"] (spWc C ct Z m)):FnOk P w K mg base (CXF P w) (L + 1) f fd ["row","room","word"] (spOver C ct Z m):=by
 refine F.okX sc_rov (fun vs H Q E h=>?_) (fun cdv A outer s H vs Q E hr Wt h=>?_)
 ·obtain ⟨x,_,r,dx,a,ws,i,rfl,_⟩:=h
  rfl
 ·obtain ⟨x,hx,r,dx,a,ws,i,rfl,R,ok,q,qE⟩:=h
  have r2:Room 2 _:=hr.mono (by omega)
  have r3:Room 3 _:=hr.mono (by omega)
  have r5:Room 5 _:=hr.mono (by omega)
  refine ⟨_,(pss_cons (ps_set (i:=3) sc_rov.nd rfl (Or.inl rfl) (pe_methC0 (pv 0) W.cl mt r2))
   (pss_cons (ps_if (pt_not (pt_val (pe_callC cv r2 (by rfl) (pa_cons (pv 3) pa_nil)))) (pss_one (ps_raise Wt rfl (by rfl) R0.mt R0.ex PySem.F.excBase_ValueError (pa_cons (pe_join (pj_cons (pe_rep (pv 3)) (pj_cons pe_str pj_nil)) (by decide)) pa_nil))) pss_nil)
   (pss_cons (ps_expr (pe_methX (pv 0) W.cl mp Wt r3 (pa_cons pe_str pa_nil)))
   (pss_cons (ps_set (i:=4) sc_rov.nd rfl (Or.inl rfl) (pe_callX cs Wt r5 (by rfl) (pa_cons (pv 0) pa_nil)))
   (pss_cons (ps_expr (pe_methX (pv 0) W.cl mp Wt r3 (pa_cons pe_str pa_nil)))
   (pss_one (ps_ret (pe_tup (pa_cons (pv 2) (pa_cons (pv 3) (pa_cons (pv 4) (pa_cons (pe_callX cw Wt hr (by rfl) (pa_cons (pv 0) (pa_cons (pe_op op_sub (pv 1) pe_int) pa_nil))) pa_nil)))))))))))),?_⟩
  have hX:=ok.hd i
  refine ⟨_,rfl,r,dx,_,rfl,R.row,ta_no a i,r,dx,a,ws,i,rfl,R,?_⟩
  have R1:=R.next (i + 1)
  have s1:Rw r H (upd H r (.ins C dx (rowF a (i + 1)))):=Rw.upd _ _ _
  generalize upd H r (.ins C dx (rowF a (i + 1)))=H1 at R1 s1
  refine ⟨_,rfl,_,rfl,hX.len,fun H2 s2=>⟨_,rfl,?_⟩⟩
  cases hv:varB (hd (ws.drop i)) with
  | false =>
   refine iteT ⟨_,rfl,.inl ⟨_,rfl,hX.repS,_,rfl,hX.rep,_,rfl,by decide +kernel,by show 1≤sizeLine; decide,qE ?_ _ (s1.trans (Rw.same s2))⟩⟩
   unfold rOver
   rw [hv]
   rfl
  | true =>
   have R2:=R1.same s2
   have t2:Rw r H H2:=s1.trans (Rw.same s2)
   have e0:rOver (rFirst m) x (ws.drop i)=(rPass "in" (ws.drop (i + 1))).bind fun l1=>(rSet l1).bind fun q=>(rPass ":" q.2).bind fun l2=>(wcOf (rFirst m) l2).map fun p=>(.ov x (hd (ws.drop i)) q.1 p.1,p.2):=by
    unfold rOver
    rw [if_pos hv,drop_tail]
   refine iteF ⟨_,rfl,r,dx,_,rfl,R2.row,po_no a (i + 1),r,dx,a,ws,i + 1,_,rfl,okX_lit (by decide +kernel),R2,fun z=>?_,fun z H4 s4=>qE (by rw [e0,rPass_f z]; rfl) _ (t2.trans s4)⟩
   have R3:=R2.next (i + 1 + 1)
   have s3:Rw r H (upd H2 r (.ins C dx (rowF a (i + 1 + 1)))):=t2.trans (Rw.upd _ _ _)
   generalize upd H2 r (.ins C dx (rowF a (i + 1 + 1)))=H3 at R3 s3
   have e3:rOver (rFirst m) x (ws.drop i)=(rSet (ws.drop (i + 1 + 1))).bind fun q=>(rPass ":" q.2).bind fun l2=>(wcOf (rFirst m) l2).map fun p=>(.ov x (hd (ws.drop i)) q.1 p.1,p.2):=by
    rw [e0,rPass_t z,drop_tail ws (i + 1)]
    rfl
   refine ⟨_,rfl,r,dx,a,ws,i + 1 + 1,rfl,R3,ok,fun k l4 e4 v4 H4 i4 s4 R4 d4 rel4=>?_,fun e H' s'=>qE (by rw [e3,e]; rfl) _ (s3.trans s')⟩
   subst d4
   have e5:rOver (rFirst m) x (ws.drop i)=(rPass ":" (ws.drop i4)).bind fun l2=>(wcOf (rFirst m) l2).map fun p=>(.ov x (hd (ws.drop i)) k p.1,p.2):=by
    rw [e3,e4]
    rfl
   refine ⟨_,rfl,r,dx,_,rfl,R4.row,po_no a i4,r,dx,a,ws,i4,_,rfl,okX_lit (by decide +kernel),R4,fun z=>?_,fun z H5 s5=>qE (by rw [e5,rPass_f z]; rfl) _ (s3.trans (s4.trans s5))⟩
   have R5:=R4.next (i4 + 1)
   have u5:Rw r H4 (upd H4 r (.ins C dx (rowF a (i4 + 1)))):=Rw.upd _ _ _
   have rel5:RelK Z (upd H4 r (.ins C dx (rowF a (i4 + 1)))) v4 k:=u5.pd R4.row rel4
   have s5:Rw r H (upd H4 r (.ins C dx (rowF a (i4 + 1)))):=s3.trans (s4.trans u5)
   generalize upd H4 r (.ins C dx (rowF a (i4 + 1)))=H5 at R5 s5 rel5
   have e6:rOver (rFirst m) x (ws.drop i)=(wcOf (rFirst m) (ws.drop (i4 + 1))).map fun p=>(.ov x (hd (ws.drop i)) k p.1,p.2):=by
    rw [e5,rPass_t z,drop_tail ws i4]
    rfl
   refine ⟨_,rfl,_,rfl,_,rfl,_,rfl,_,rfl,_,_,rfl,rfl,r,dx,a,ws,i4 + 1,less_one r m,R5,ok,fun c l7 e7 v7 H7 i7 s7 R7 d7 rel7=>⟨by show 4≤sizeLine; decide,fun t ht=>?_⟩,fun e H' s'=>qE (by rw [e6,e]; rfl) _ (s5.trans s')⟩
   have sn:Same H7 (upd H7 t (.tup [.str x,.str (hd (ws.drop i)),v4,v7])):=Same.new ht
   refine q (.ov x (hd (ws.drop i)) k c) l7 (by rw [e6,e7]; rfl) _ _ i7 (s5.trans (s7.trans (Rw.same sn))) (R7.same sn) d7 (rel_ov upd_same ?_ (varB_strOk hv) (PDF.same sn (s7.pd R5.row rel5)) (rel7.same sn))
   rcases hx with rfl | rfl <;> decide +kernel
theorem sc_rtwo:FnScope ["row","room","word","first","second"] ["row","room","word"] (defScope s_read_of_two):=⟨rfl,rfl,rfl,by decide +kernel,rfl,by decide +kernel,by decide +kernel⟩
theorem ok_rtwo {f:Addr} {fd:FuncData} (F:Fun K "read_of_two" "read_of_two" s_read_of_two f fd) (W:Wrd P w K mg C) (hL:5≤L)
  (mp:CanMX P w K mg base 3 C "pass_over" ["self","word"] (spPass C ct Z)) (cw:CanX P w K mg base L "read_whole_term" ["row","room"] (spWt C ct Z m)):FnOk P w K mg base (CXF P w) (L + 1) f fd ["row","room","word"] (spTwo C ct Z m):=by
 refine F.okX sc_rtwo (fun vs H Q E h=>?_) (fun cdv A outer s H vs Q E hr Wt h=>?_)
 ·obtain ⟨x,_,r,dx,a,ws,i,rfl,_⟩:=h
  rfl
 ·obtain ⟨x,hx,r,dx,a,ws,i,rfl,R,ok,q,qE⟩:=h
  have r3:Room 3 _:=hr.mono (by omega)
  refine ⟨_,(pss_cons (ps_expr (pe_methX (pv 0) W.cl mp Wt r3 (pa_cons pe_str pa_nil)))
   (pss_cons (ps_set (i:=3) sc_rtwo.nd rfl (Or.inl rfl) (pe_callX cw Wt hr (by rfl) (pa_cons (pv 0) (pa_cons (pe_op op_sub (pv 1) pe_int) pa_nil))))
   (pss_cons (ps_expr (pe_methX (pv 0) W.cl mp Wt r3 (pa_cons pe_str pa_nil)))
   (pss_cons (ps_set (i:=4) sc_rtwo.nd rfl (Or.inl rfl) (pe_callX cw Wt hr (by rfl) (pa_cons (pv 0) (pa_cons (pe_op op_sub (pv 1) pe_int) pa_nil))))
   (pss_cons (ps_expr (pe_methX (pv 0) W.cl mp Wt r3 (pa_cons pe_str pa_nil)))
   (pss_one (ps_ret (pe_tup (pa_cons (pv 2) (pa_cons (pv 3) (pa_cons (pv 4) pa_nil))))))))))),?_⟩
  refine ⟨_,rfl,r,dx,_,rfl,R.row,po_no a i,r,dx,a,ws,i,_,rfl,okX_lit (by decide +kernel),R,fun z=>?_,fun z H4 s4=>qE (by unfold rTwo; rw [rPass_f z]; rfl) _ s4⟩
  have e1:rTwo (rFirst m) x (ws.drop i)=(wtOf (rFirst m) (ws.drop (i + 1))).bind fun q=>(rPass "," q.2).bind fun l2=>(wtOf (rFirst m) l2).bind fun p=>(rPass ")" p.2).map fun l3=>(.two x q.1 p.1,l3):=by
   unfold rTwo
   rw [rPass_t z,drop_tail ws i]
   rfl
  have R1:=R.next (i + 1)
  have s1:Rw r H (upd H r (.ins C dx (rowF a (i + 1)))):=Rw.upd _ _ _
  generalize upd H r (.ins C dx (rowF a (i + 1)))=H1 at R1 s1
  refine ⟨_,rfl,_,rfl,_,_,rfl,rfl,r,dx,a,ws,i + 1,less_one r m,R1,ok,fun c2 l2 e2 v2 H2 i2 s2 R2 d2 rel2=>?_,fun e H' s'=>qE (by rw [e1,e]; rfl) _ (s1.trans s')⟩
  subst d2
  have e3:rTwo (rFirst m) x (ws.drop i)=(rPass "," (ws.drop i2)).bind fun l2=>(wtOf (rFirst m) l2).bind fun p=>(rPass ")" p.2).map fun l3=>(.two x c2 p.1,l3):=by
   rw [e1,e2]
   rfl
  refine ⟨_,rfl,r,dx,_,rfl,R2.row,po_no a i2,r,dx,a,ws,i2,_,rfl,okX_lit (by decide +kernel),R2,fun z=>?_,fun z H4 s4=>qE (by rw [e3,rPass_f z]; rfl) _ (s1.trans (s2.trans s4))⟩
  have e4:rTwo (rFirst m) x (ws.drop i)=(wtOf (rFirst m) (ws.drop (i2 + 1))).bind fun p=>(rPass ")" p.2).map fun l3=>(.two x c2 p.1,l3):=by
   rw [e3,rPass_t z,drop_tail ws i2]
   rfl
  have R3:=R2.next (i2 + 1)
  have u3:Rw r H2 (upd H2 r (.ins C dx (rowF a (i2 + 1)))):=Rw.upd _ _ _
  have rel3:=rel2.rw u3 R2.row
  have s3:Rw r H (upd H2 r (.ins C dx (rowF a (i2 + 1)))):=s1.trans (s2.trans u3)
  generalize upd H2 r (.ins C dx (rowF a (i2 + 1)))=H3 at R3 s3 rel3
  refine ⟨_,rfl,_,rfl,_,_,rfl,rfl,r,dx,a,ws,i2 + 1,less_one r m,R3,ok,fun c5 l5 e5 v5 H5 i5 s5 R5 d5 rel5=>?_,fun e H' s'=>qE (by rw [e4,e]; rfl) _ (s3.trans s')⟩
  subst d5
  have e6:rTwo (rFirst m) x (ws.drop i)=(rPass ")" (ws.drop i5)).map fun l3=>(.two x c2 c5,l3):=by
   rw [e4,e5]
   rfl
  refine ⟨_,rfl,r,dx,_,rfl,R5.row,po_no a i5,r,dx,a,ws,i5,_,rfl,okX_lit (by decide +kernel),R5,fun z=>?_,fun z H6 s6=>qE (by rw [e6,rPass_f z]; rfl) _ (s3.trans (s5.trans s6))⟩
  have R6:=R5.next (i5 + 1)
  have u6:Rw r H5 (upd H5 r (.ins C dx (rowF a (i5 + 1)))):=Rw.upd _ _ _
  have ra:=(rel3.rw s5 R3.row).rw u6 R5.row
  have rb:=rel5.rw u6 R5.row
  have s6:Rw r H (upd H5 r (.ins C dx (rowF a (i5 + 1)))):=s3.trans (s5.trans u6)
  generalize upd H5 r (.ins C dx (rowF a (i5 + 1)))=H6 at R6 s6 ra rb
  refine ⟨_,rfl,_,rfl,_,rfl,by show 3≤sizeLine; decide,fun t ht=>?_⟩
  have sn:Same H6 (upd H6 t (.tup [.str x,v2,v5])):=Same.new ht
  refine q (.two x c2 c5) (ws.drop i5).tail (by rw [e6,rPass_t z]; rfl) _ _ (i5 + 1) (s6.trans (Rw.same sn)) (R6.same sn) (drop_tail ws i5) (rel_2 upd_same ?_ (ra.same sn) (rb.same sn) rfl rfl)
  rcases hx with rfl | rfl <;> decide +kernel
theorem sc_rbr:FnScope ["row","room","first","word","second"] ["row","room"] (defScope s_read_bracket):=⟨rfl,rfl,rfl,by decide +kernel,rfl,by decide +kernel,by decide +kernel⟩
theorem ok_rbr {f:Addr} {fd:FuncData} (F:Fun K "read_bracket" "read_bracket" s_read_bracket f fd) (W:Wrd P w K mg C) (R0:Ecs K mg ct) (hL:5≤L) (mt:CanM P w K mg base 2 C "take" ["self"] (spTake C Z)) (ci:Can P w K mg base 1 "is_term" ["whole"] spIsT)
  (mp:CanMX P w K mg base 3 C "pass_over" ["self","word"] (spPass C ct Z)) (cw:CanX P w K mg base L "read_whole" ["row","room"] (spWh C ct Z m)):FnOk P w K mg base (CXF P w) (L + 1) f fd ["row","room"] (spBr C ct Z m):=by
 refine F.okX sc_rbr (fun vs H Q E h=>?_) (fun cdv A outer s H vs Q E hr Wt h=>?_)
 ·obtain ⟨r,dx,a,ws,i,rfl,_⟩:=h
  rfl
 ·obtain ⟨r,dx,a,ws,i,rfl,R,ok,q,qE⟩:=h
  have r1:Room 1 _:=hr.mono (by omega)
  have r2:Room 2 _:=hr.mono (by omega)
  have r3:Room 3 _:=hr.mono (by omega)
  refine ⟨_,(pss_cons (ps_set (i:=2) sc_rbr.nd rfl (Or.inl rfl) (pe_callX cw Wt hr (by rfl) (pa_cons (pv 0) (pa_cons (pe_op op_sub (pv 1) pe_int) pa_nil))))
   (pss_cons (ps_set (i:=3) sc_rbr.nd rfl (Or.inl rfl) (pe_methC0 (pv 0) W.cl mt r2))
   (pss_cons (ps_set (i:=4) sc_rbr.nd rfl (Or.inl rfl) (pe_callX cw Wt hr (by rfl) (pa_cons (pv 0) (pa_cons (pe_op op_sub (pv 1) pe_int) pa_nil))))
   (pss_cons (ps_expr (pe_methX (pv 0) W.cl mp Wt r3 (pa_cons pe_str pa_nil)))
   (pss_cutE (ps_if (PW.pt (pw_and (pt_cmpR op_eq (pv 3) pe_str (nomark _)) (pw_and (pt_val (pe_callC ci r1 (by rfl) (pa_cons (pv 2) pa_nil))) (pw_and1 (pt_val (pe_callC ci r1 (by rfl) (pa_cons (pv 4) pa_nil))))))) (pss_one (ps_ret (pe_tup (pa_cons pe_str (pa_cons (pv 2) (pa_cons (pv 4) pa_nil)))))) pss_nil)
   (pss_cutE (ps_if (PW.pt (pw_and (PW.pt (pw_or (pt_cmpR op_eq (pv 3) pe_str (nomark _)) (pw_or1 (pt_cmpR op_eq (pv 3) pe_str (nomark _))))) (pw_and (pt_not (pt_val (pe_callC ci r1 (by rfl) (pa_cons (pv 2) pa_nil)))) (pw_and1 (pt_not (pt_val (pe_callC ci r1 (by rfl) (pa_cons (pv 4) pa_nil)))))))) (pss_one (ps_ret (pe_tup (pa_cons (pv 3) (pa_cons (pv 2) (pa_cons (pv 4) pa_nil)))))) pss_nil)
   (pss_one (ps_raise Wt rfl (by rfl) R0.mt R0.ex PySem.F.excBase_ValueError (pa_cons (pe_join (pj_cons (pe_rep (pv 3)) (pj_cons pe_str pj_nil)) (by decide)) pa_nil))))))))),?_⟩
  refine ⟨_,rfl,_,rfl,_,_,rfl,rfl,r,dx,a,ws,i,less_one r m,R,ok,fun c1 l1 e1 v1 H1 i1 s1 R1 d1 rel1=>?_,fun e H' s'=>qE (by unfold rBr; rw [e]; rfl) _ s'⟩
  subst d1
  have hX:=ok.hd i1
  refine ⟨_,rfl,r,dx,_,rfl,R1.row,ta_no a i1,r,dx,a,ws,i1,rfl,R1,?_⟩
  have R2:=R1.next (i1 + 1)
  have u2:Rw r H1 (upd H1 r (.ins C dx (rowF a (i1 + 1)))):=Rw.upd _ _ _
  have rel2:=rel1.rw u2 R1.row
  have s2:Rw r H (upd H1 r (.ins C dx (rowF a (i1 + 1)))):=s1.trans u2
  generalize upd H1 r (.ins C dx (rowF a (i1 + 1)))=H2 at R2 s2 rel2
  have e2:rBr (rFirst m) (ws.drop i)=(whOf (rFirst m) (ws.drop (i1 + 1))).bind fun p=>(rPass ")" p.2).bind fun l3 =>
    if hd (ws.drop i1) = "+" ∧ isT c1=true∧isT p.1=true then some (.plus c1 p.1,l3) else if (hd (ws.drop i1) = "and" ∨ hd (ws.drop i1) = "or")∧isT c1=false∧isT p.1=false then some (.bin (hd (ws.drop i1)) c1 p.1,l3) else none:=by
   unfold rBr
   rw [e1,drop_tail ws i1]
   rfl
  refine ⟨_,rfl,_,rfl,_,_,rfl,rfl,r,dx,a,ws,i1 + 1,less_one r m,R2,ok,fun c3 l3 e3 v3 H3 i3 s3 R3 d3 rel3=>?_,fun e H' s'=>qE (by rw [e2,e]; rfl) _ (s2.trans s')⟩
  subst d3
  have e4:rBr (rFirst m) (ws.drop i)=(rPass ")" (ws.drop i3)).bind fun l3 =>
    if hd (ws.drop i1) = "+" ∧ isT c1=true∧isT c3=true then some (.plus c1 c3,l3) else if (hd (ws.drop i1) = "and" ∨ hd (ws.drop i1) = "or")∧isT c1=false∧isT c3=false then some (.bin (hd (ws.drop i1)) c1 c3,l3) else none:=by
   rw [e2,e3]
   rfl
  refine ⟨_,rfl,r,dx,_,rfl,R3.row,po_no a i3,r,dx,a,ws,i3,_,rfl,okX_lit (by decide +kernel),R3,fun z=>?_,fun z H4 s4=>qE (by rw [e4,rPass_f z]; rfl) _ (s2.trans (s3.trans s4))⟩
  have R5:=R3.next (i3 + 1)
  have u5:Rw r H3 (upd H3 r (.ins C dx (rowF a (i3 + 1)))):=Rw.upd _ _ _
  have ra:=(rel2.rw s3 R2.row).rw u5 R3.row
  have rb:=rel3.rw u5 R3.row
  have s5:Rw r H (upd H3 r (.ins C dx (rowF a (i3 + 1)))):=s2.trans (s3.trans u5)
  generalize upd H3 r (.ins C dx (rowF a (i3 + 1)))=H5 at R5 s5 ra rb
  have e5:rBr (rFirst m) (ws.drop i)=if hd (ws.drop i1) = "+" ∧ isT c1=true∧isT c3=true then some (.plus c1 c3,(ws.drop i3).tail) else if (hd (ws.drop i1) = "and" ∨ hd (ws.drop i1) = "or")∧isT c1=false∧isT c3=false then some (.bin (hd (ws.drop i1)) c1 c3,(ws.drop i3).tail) else none:=by
   rw [e4,rPass_t z]
   rfl
  generalize hd (ws.drop i1)=x at e5 hX
  clear e4 e2 z
  have dt:=drop_tail ws i3
  refine ⟨fun σ' H'=>σ'=[some (V.ref r),some (V.int ((m + 1:Nat):Int)),some v1,some (V.str x),some v3]∧H'=H5∧¬ (x = "+" ∧ isT c1=true∧isT c3=true),?_,?_⟩
  ·refine ⟨_,rfl,rfl,_,rfl,ite2 (fun h=>?_) (fun h=>⟨rfl,rfl,fun z=>deq_f h z.1⟩)⟩
   refine ⟨_,rfl,v1,_,c1,rfl,PDF.pd ra,_,rfl,?_⟩
   cases t1:isT c1 with
   | false=>exact iteF ⟨rfl,rfl,fun z=>by have:=z.2.1; cases this⟩
   | true =>
    refine iteT ⟨_,rfl,v3,_,c3,rfl,PDF.pd rb,_,rfl,?_⟩
    cases t3:isT c3 with
    | false=>exact iteF ⟨rfl,rfl,fun z=>by have:=z.2.2; cases this⟩
    | true =>
     refine iteT ⟨_,rfl,_,rfl,by show 3≤sizeLine; decide,fun t ht=>?_⟩
     have sn:Same H5 (upd H5 t (.tup [.str "plus",v1,v3])):=Same.new ht
     exact q (.plus c1 c3) (ws.drop i3).tail (by rw [e5,if_pos ⟨deq_t h,t1,t3⟩]) _ _ (i3 + 1) (s5.trans (Rw.same sn)) (R5.same sn) dt (rel_2 upd_same (by decide +kernel) (ra.same sn) (rb.same sn) rfl rfl)
  ·rintro σ' H5 ⟨rfl,rfl,n1⟩
   rw [if_neg n1] at e5
   refine ⟨fun σ' H'=>σ'=[some (V.ref r),some (V.int ((m + 1:Nat):Int)),some v1,some (V.str x),some v3]∧H'=H5∧¬ ((x = "and" ∨ x = "or")∧isT c1=false∧isT c3=false),?_,?_⟩
   ·refine ⟨_,rfl,rfl,_,rfl,ite2 (fun h=>iteT ?_) (fun h=>⟨_,rfl,rfl,_,rfl,ite2 (fun h'=>?_) (fun h'=>⟨rfl,rfl,fun z=>z.1.elim (deq_f h) (deq_f h')⟩)⟩)⟩
    all_goals have hx:x = "and" ∨ x = "or" := by first | exact .inl (deq_t h) | exact .inr (deq_t h')
    all_goals refine ⟨_,rfl,v1,_,c1,rfl,PDF.pd ra,_,rfl,?_⟩
    all_goals cases t1:isT c1
    all_goals first | exact iteF ⟨rfl,rfl,fun z=>by have:=z.2.1; cases this⟩ | refine iteT ⟨_,rfl,v3,_,c3,rfl,PDF.pd rb,_,rfl,?_⟩
    all_goals cases t3:isT c3
    all_goals first | exact iteF ⟨rfl,rfl,fun z=>by have:=z.2.2; cases this⟩ | refine iteT ⟨_,rfl,_,rfl,_,rfl,by show 3≤sizeLine; decide,fun t ht=>?_⟩
    all_goals have sn:Same H5 (upd H5 t (.tup [.str x,v1,v3])):=Same.new ht
    all_goals exact q (.bin x c1 c3) (ws.drop i3).tail (by rw [e5,if_pos ⟨hx,t1,t3⟩]) _ _ (i3 + 1) (s5.trans (Rw.same sn)) (R5.same sn) dt (rel_2 upd_same (ok_strOk hX) (ra.same sn) (rb.same sn) rfl rfl)
   ·rintro σ' H' ⟨rfl,rfl,n2⟩
    rw [if_neg n2] at e5
    exact ⟨_,rfl,.inl ⟨_,rfl,hX.repS,_,rfl,hX.rep,_,rfl,by decide +kernel,by show 1≤sizeLine; decide,qE e5 _ s5⟩⟩
theorem sc_rfn:FnScope ["row","room","word","number"] ["row","room","word"] (defScope s_read_from_number):=⟨rfl,rfl,rfl,by decide +kernel,rfl,by decide +kernel,by decide +kernel⟩
theorem ok_rfn {f:Addr} {fd:FuncData} (F:Fun K "read_from_number" "read_from_number" s_read_from_number f fd) (T:Txt K mg) (W:Wrd P w K mg C) (R0:Ecs K mg ct) (hL:5≤L) (mt:CanM P w K mg base 2 C "take" ["self"] (spTake C Z)) (mc:CanM P w K mg base 1 C "coming" ["self"] (spComing C Z))
  (cu:CanX P w K mg base 2 "read_number" ["text","most_figures"] (spNumX ct)) (cw:CanX P w K mg base L "read_whole_term" ["row","room"] (spWt C ct Z m)):FnOk P w K mg base (CXF P w) (L + 1) f fd ["row","room","word"] (spFN C ct Z m):=by
 refine F.okX sc_rfn (fun vs H Q E h=>?_) (fun cdv A outer s H vs Q E hr Wt h=>?_)
 ·obtain ⟨x,_,r,dx,a,ws,i,rfl,_⟩:=h
  rfl
 ·obtain ⟨x,hX,r,dx,a,ws,i,rfl,R,ok,q,qE⟩:=h
  have r1:Room 1 _:=hr.mono (by omega)
  have r2:Room 2 _:=hr.mono (by omega)
  refine ⟨_,(pss_cons (ps_set (i:=3) sc_rfn.nd rfl (Or.inl rfl) (pe_callX cu Wt r2 (by rfl) (pa_cons (pv 2) (pa_cons (pe_globC T.mostF (by rfl)) pa_nil))))
   (pss_cons (ps_if (pt_cmpR op_ne (pe_methC0 (pv 0) W.cl mc r1) pe_str (nomark _)) (pss_one (ps_ret (pe_tup (pa_cons pe_str (pa_cons (pv 3) pa_nil))))) pss_nil)
   (pss_cons (ps_expr (pe_methC0 (pv 0) W.cl mt r2))
   (pss_cons (ps_if (pt_cmpR op_lt (pv 3) pe_int (nomark _)) (pss_one (ps_raise Wt rfl (by rfl) R0.mt R0.ex PySem.F.excBase_ValueError (pa_cons (pe_join (pj_cons (pe_fmt (pv 2)) (pj_cons pe_str pj_nil)) (by decide)) pa_nil))) pss_nil)
   (pss_one (ps_ret (pe_tup (pa_cons pe_str (pa_cons (pv 3) (pa_cons (pe_callX cw Wt hr (by rfl) (pa_cons (pv 0) (pa_cons (pe_op op_sub (pv 1) pe_int) pa_nil))) pa_nil)))))))))),?_⟩
  refine ⟨_,rfl,x,rfl,hX,fun hk H1 s1=>?_,fun hk H1 s1=>qE (by unfold rFN rNum; rw [hk]; rfl) _ (Rw.same s1)⟩
  have e0:rFN (rFirst m) x (ws.drop i)=if hd (ws.drop i) ≠ "*" then some (.num (valL x.cps.toList),ws.drop i) else if valL x.cps.toList < 0 then none else (wtOf (rFirst m) (ws.drop (i + 1))).map fun q=>(.tim (valL x.cps.toList) q.1,q.2):=by
   unfold rFN rNum
   rw [if_pos hk,drop_tail ws i]
   rfl
  generalize valL x.cps.toList=n at e0
  have R1:=R.same s1
  refine ⟨_,rfl,r,dx,_,rfl,R1.row,co_no a i,r,dx,a,ws,i,rfl,R1,rfl,_,rfl,ite2 (fun h=>?_) (fun h=>?_)⟩
  ·refine ⟨_,rfl,by show 2≤sizeLine; decide,fun t ht=>?_⟩
   have sn:Same H1 (upd H1 t (.tup [.str "number",.int n])):=Same.new ht
   exact q (.num n) (ws.drop i) (by rw [e0,if_pos (dne_t h)]) _ _ i (Rw.same (s1.trans sn)) (R1.same sn) rfl (pd_tup (n:=2) upd_same (.cons (pd_str (by decide +kernel)) (.cons pd_int .nil)))
  ·rw [if_neg (fun z=>z (dne_f h))] at e0
   refine ⟨_,rfl,r,dx,_,rfl,R1.row,ta_no a i,r,dx,a,ws,i,rfl,R1,?_⟩
   have R2:=R1.next (i + 1)
   have s2:Rw r H (upd H1 r (.ins C dx (rowF a (i + 1)))):=(Rw.same s1).trans (Rw.upd _ _ _)
   generalize upd H1 r (.ins C dx (rowF a (i + 1)))=H2 at R2 s2
   refine ⟨_,rfl,_,_,rfl,rfl,_,rfl,ite2 (fun h2=>?_) (fun h2=>?_)⟩
   ·refine ⟨_,rfl,.inl ⟨_,rfl,hX.len,_,rfl,Nat.le_trans hX.1 (by decide),_,rfl,by decide +kernel,by show 1≤sizeLine; decide,qE ?_ _ s2⟩⟩
    rw [e0,if_pos (of_decide_eq_true h2)]
   ·rw [if_neg (fun z=>h2 (decide_eq_true z))] at e0
    refine ⟨_,rfl,_,rfl,_,rfl,_,_,rfl,rfl,r,dx,a,ws,i + 1,less_one r m,R2,ok,fun c3 l3 e3 v3 H3 i3 s3 R3 d3 rel3=>⟨by show 3≤sizeLine; decide,fun t ht=>?_⟩,fun e H' s'=>qE (by rw [e0,e]; rfl) _ (s2.trans s')⟩
    have sn:Same H3 (upd H3 t (.tup [.str "times",.int n,v3])):=Same.new ht
    exact q (.tim n c3) l3 (by rw [e0,e3]; rfl) _ _ i3 (s2.trans (s3.trans (Rw.same sn))) (R3.same sn) d3 (rel_tim upd_same (rel3.same sn))
end
end Net
namespace Net
open PySem L2 L2.Tx
theorem nb_le {x:Str} {n:Nat} (h:nb x=some n):n≤3:=by
 unfold nb at h
 repeat' split at h
 all_goals first | (cases h; done) | (injection h with h; omega)
theorem rNms_go {n:Nat} {l:List Str} {w:Str} {k:Nat} {acc:List Str} {l1:List Str} (hk:k < n) (h:(rNms n l).map (fun q=>(Cl.nm w q.1,q.2))=(rNms (n - k) l1).map fun q=>(Cl.nm w (acc++q.1),q.2)) :
  (rNms n l).map (fun q=>(Cl.nm w q.1,q.2))=(rName l1).bind fun p=>(rNms (n - (k + 1)) p.2).map fun q=>(Cl.nm w ((acc++[p.1])++q.1),q.2):=by
 rw [h,show n - k=(n - (k + 1)) + 1 by omega]
 show ((rName l1).bind fun q=>(rNms (n - (k + 1)) q.2).map fun p=>(q.1 :: p.1,p.2)).map _=_
 cases rName l1 with
 | none=>rfl
 | some p =>
  show ((rNms (n - (k + 1)) p.2).map _).map _=(rNms (n - (k + 1)) p.2).map _
  cases rNms (n - (k + 1)) p.2 with
  | none=>rfl
  | some q =>
   show some _=some _
   simp
section
variable {P:Program} {w:World} {K:PySem.W.Frag} {mg:Str→Option Value} {base:Heap} {C ct:Addr} {Z:Addr→Prop} {L m:Nat}
theorem sc_rf:FnScope ["row","room","word"] ["row","room"] (defScope s_read_first):=⟨rfl,rfl,rfl,by decide +kernel,rfl,by decide +kernel,by decide +kernel⟩
theorem ok_rf0 {f:Addr} {fd:FuncData} (F:Fun K "read_first" "read_first" s_read_first f fd) (T:Txt K mg) (R0:Ecs K mg ct):FnOk P w K mg base (CXF P w) 6 f fd ["row","room"] (spFst C ct Z 0):=by
 refine F.okX sc_rf (fun vs H Q E h=>?_) (fun cdv A outer s H vs Q E hr Wt h=>?_)
 ·obtain ⟨r,dx,a,ws,i,rfl,_⟩:=h
  rfl
 ·obtain ⟨r,dx,a,ws,i,rfl,R,ok,q,qE⟩:=h
  refine ⟨_,(pss_cons (ps_if (pt_cmpR op_eq (pv 1) pe_int (nomark _)) (pss_one (ps_raise Wt rfl (by rfl) R0.mt R0.ex PySem.F.excBase_ValueError (pa_cons (pe_join (pj_cons pe_str (pj_cons (pe_fmt (pe_globC T.deep (by rfl))) (pj_cons pe_str pj_nil))) (by decide)) pa_nil))) pss_nil)
   (pss_cons ps_never
   (pss_cons ps_never
   (pss_cons ps_never
   (pss_cons ps_never
   (pss_cons ps_never
   (pss_cons ps_never
   (pss_cons ps_never
   (pss_cons ps_never
   (pss_cons ps_never
   (pss_one ps_never))))))))))),?_⟩
  refine ⟨_,rfl,rfl,_,rfl,iteT ⟨_,rfl,by decide +kernel,.inr ⟨12,rfl,by decide +kernel,_,rfl,by decide +kernel,_,rfl,by decide +kernel,by show 1≤sizeLine; decide,qE rfl _ (Rw.refl _ _)⟩⟩⟩
theorem ok_rf {f:Addr} {fd:FuncData} (F:Fun K "read_first" "read_first" s_read_first f fd) (T:Txt K mg) (W:Wrd P w K mg C) (R0:Ecs K mg ct) (hL:5≤L) (mt:CanM P w K mg base 2 C "take" ["self"] (spTake C Z)) (crn:CanX P w K mg base 3 "read_name" ["row"] (spRow C ct Z [] rName RelN))
  (cc:CanX P w K mg base 4 "read_cost" ["row"] (spRow C ct Z [] rCost (RelF Z))) (cs:CanX P w K mg base 5 "read_set" ["row"] (spRow C ct Z [] rSet (RelK Z))) (cw:CanX P w K mg base L "read_whole_claim" ["row","room"] (spWc C ct Z m)) (co:CanX P w K mg base L "read_over_places" ["row","room","word"] (spOver C ct Z m))
  (c2:CanX P w K mg base L "read_of_two" ["row","room","word"] (spTwo C ct Z m)) (cb:CanX P w K mg base L "read_bracket" ["row","room"] (spBr C ct Z m)) (cf:CanX P w K mg base L "read_from_number" ["row","room","word"] (spFN C ct Z m)):FnOk P w K mg base (CXF P w) (L + 1) f fd ["row","room"] (spFst C ct Z (m + 1)):=by
 have nd_0:List.Nodup (["number","row"]:List Str):=by decide +kernel
 obtain ⟨da,vs0,mn,kd,k1,k2⟩:=W.nbD
 refine F.okX sc_rf (fun vs H Q E h=>?_) (fun cdv A outer s H vs Q E hr Wt h=>?_)
 ·obtain ⟨r,dx,a,ws,i,rfl,_⟩:=h
  rfl
 ·obtain ⟨r,dx,a,ws,i,rfl,R,ok,q,qE⟩:=h
  have r2:Room 2 _:=hr.mono (by omega)
  have r3:Room 3 _:=hr.mono (by omega)
  have r4:Room 4 _:=hr.mono (by omega)
  have r5:Room 5 _:=hr.mono (by omega)
  refine ⟨_,(pss_cons (ps_if (pt_cmpR op_eq (pv 1) pe_int (nomark _)) (pss_one (ps_raise Wt rfl (by rfl) R0.mt R0.ex PySem.F.excBase_ValueError (pa_cons (pe_join (pj_cons pe_str (pj_cons (pe_fmt (pe_globC T.deep (by rfl))) (pj_cons pe_str pj_nil))) (by decide)) pa_nil))) pss_nil)
   (pss_cons (ps_set (i:=2) sc_rf.nd rfl (Or.inl rfl) (pe_methC0 (pv 0) W.cl mt r2))
   (pss_cons (ps_if (pt_cmp (pc_kin (by rfl) mn kd (pv 2))) (pss_one (ps_ret (pe_op op_catT (pe_tup (pa_cons (pv 2) pa_nil)) (pe_callTy (call_tupleK K (by rfl) rfl) (by rfl) T.tuple b_tuple (pa_cons (pe_compX (N:=["number","row"]) (xs:=1) (js:=[0]) wantsC_def rfl (compScope_of rfl) (pi_range1 rfl T.range (pa_cons (pe_kget (by rfl) mn kd (pv 2) (fun _ _=>by rfl)) pa_nil)) (fun _ _ _ _=>pg_name (i:=0) nd_0 rfl (Or.inl rfl)) (fun _ _ _ _=>pts_nil) (fun _ _ _ _=>pex_call crn r3 (by rfl) (pa_cons (pv 1) pa_nil))) pa_nil))))) pss_nil)
   (pss_cons (ps_if (pt_cmpR op_eq (pv 2) pe_str (nomark _)) (pss_one (ps_ret (pe_callX cc Wt r4 (by rfl) (pa_cons (pv 0) pa_nil)))) pss_nil)
   (pss_cons (ps_if (pt_cmpR op_eq (pv 2) pe_str (nomark _)) (pss_one (ps_ret (pe_tup (pa_cons (pv 2) (pa_cons (pe_callX cw Wt hr (by rfl) (pa_cons (pv 0) (pa_cons (pe_op op_sub (pv 1) pe_int) pa_nil))) pa_nil))))) pss_nil)
   (pss_cutE (ps_if (PW.pt (pw_or (pt_cmpR op_eq (pv 2) pe_str (nomark _)) (pw_or1 (pt_cmpR op_eq (pv 2) pe_str (nomark _))))) (pss_one (ps_ret (pe_callX co Wt hr (by rfl) (pa_cons (pv 0) (pa_cons (pv 1) (pa_cons (pv 2) pa_nil)))))) pss_nil)
   (pss_cons (ps_if (pt_cmpR op_eq (pv 2) pe_str (nomark _)) (pss_one (ps_ret (pe_tup (pa_cons (pv 2) (pa_cons (pe_callX cs Wt r5 (by rfl) (pa_cons (pv 0) pa_nil)) pa_nil))))) pss_nil)
   (pss_cons (ps_if (pt_cmpR op_eq (pv 2) pe_str (nomark _)) (pss_one (ps_ret (pe_tup (pa_cons (pv 2) (pa_cons (pe_callX cs Wt r5 (by rfl) (pa_cons (pv 0) pa_nil)) (pa_cons (pe_callX cs Wt r5 (by rfl) (pa_cons (pv 0) pa_nil)) pa_nil)))))) pss_nil)
   (pss_cutE (ps_if (PW.pt (pw_or (pt_cmpR op_eq (pv 2) pe_str (nomark _)) (pw_or1 (pt_cmpR op_eq (pv 2) pe_str (nomark _))))) (pss_one (ps_ret (pe_callX c2 Wt hr (by rfl) (pa_cons (pv 0) (pa_cons (pv 1) (pa_cons (pv 2) pa_nil)))))) pss_nil)
   (pss_cons (ps_if (pt_cmpR op_eq (pv 2) pe_str (nomark _)) (pss_one (ps_ret (pe_callX cb Wt hr (by rfl) (pa_cons (pv 0) (pa_cons (pv 1) pa_nil))))) pss_nil)
   (pss_one (ps_ret (pe_callX cf Wt hr (by rfl) (pa_cons (pv 0) (pa_cons (pv 1) (pa_cons (pv 2) pa_nil)))))))))))))))),?_⟩
  refine ⟨_,rfl,rfl,_,rfl,iteFb (decide_eq_false (fun z=>by injection z with z; omega)) ?_⟩
  have hX:=ok.hd i
  refine ⟨_,rfl,r,dx,_,rfl,R.row,ta_no a i,r,dx,a,ws,i,rfl,R,?_⟩
  have R1:=R.next (i + 1)
  have s1:Rw r H (upd H r (.ins C dx (rowF a (i + 1)))):=Rw.upd _ _ _
  generalize upd H r (.ins C dx (rowF a (i + 1)))=H1 at R1 s1
  have q':∀ x l',firstOf (rFirst m) (ws.drop i)=some (x,l')→∀ v H' i',Rw r H H'→RowIs C Z H' r dx a ws i'→ws.drop i'=l'→RelF Z H' v x→Q v H':=q
  have qE':firstOf (rFirst m) (ws.drop i)=none→∀ H',Rw r H H'→E (.ref ct) none H':=qE
  clear q qE
  have fwd:∀ {rest:List V} {rf:Rdr},firstOf (rFirst m) (ws.drop i)=rf (ws.drop (i + 1))→spRow C ct Z rest rf (RelF Z) (.ref r :: rest) H1 Q E:=fun e =>
   ⟨r,dx,a,ws,i + 1,rfl,R1,ok,fun x l' e' v H' i' s' R' d' rel=>q' x l' (by rw [e]; exact e') v H' i' (s1.trans s') R' d' rel,fun e' H' s'=>qE' (by rw [e]; exact e') _ (s1.trans s')⟩
  have dt:=drop_tail ws i
  refine ⟨_,rfl,Sum.inr (hd (ws.drop i)),rfl,_,rfl,?_⟩
  rw [k1]
  cases hnb:nb (hd (ws.drop i)) with
  | some n =>
   have e0:=first_nm (f:=rFirst m) hnb
   rw [← dt] at e0
   rw [e0] at q' qE'
   clear e0 fwd
   generalize hd (ws.drop i)=x at *
   have hn3:=nb_le hnb
   obtain ⟨u,hu,ru⟩:=k2 x n hnb
   refine iteT ⟨_,rfl,by show 1≤sizeLine; decide,fun t ht=>?_⟩
   have tr:t ≠ r:=fun z=>by rw [z,R1.row] at ht; cases ht
   have R2:RowIs C Z (upd H1 t (.tup [.str x])) r dx a ws (i + 1):=R1.same (Same.new ht)
   have s2:Rw r H (upd H1 t (.tup [.str x])):=s1.trans (Rw.same (Same.new ht))
   have g2:(upd H1 t (.tup [.str x])) t=some (.tup [.str x]):=upd_same
   generalize upd H1 t (.tup [.str x])=H2 at R2 s2 g2
   refine ⟨_,rfl,Sum.inr x,.int (n:Int),u,rfl,hu,ru,(n:Int),rfl,by omega,by omega,comp_range (n:=(n:Int).toNat) (fun k acc σ' H'=>k≤n∧∃ (ns:List Str) (i':Nat) (o:Option V),acc=ns.map V.str∧ns.length=k∧Rw r H H'∧RowIs C Z H' r dx a ws i'∧H' t=some (.tup [.str x]) ∧
     (rNms n (ws.drop (i + 1))).map (fun q=>(Cl.nm x q.1,q.2))=(rNms (n - k) (ws.drop i')).map (fun q=>(Cl.nm x (ns++q.1),q.2))∧σ'=[o,some (.ref r)]∧∀ y ∈ ns,okN y=true)
    ⟨Nat.zero_le _,[],i + 1,none,rfl,rfl,s2,R2,g2,rfl,rfl,fun _ z=>nomatch z⟩ (fun k acc σ' H' h=>?_) (Nat.le_trans (show (n:Int).toNat≤3 by omega) (by decide)) (fun k acc σ' H' hk h=>?_) (fun acc σ' H' h p hp=>?_)⟩
   ·obtain ⟨_,ns,i',o,rfl,hl,_⟩:=h
    rw [List.length_map,hl]
    exact Nat.le_refl _
   ·obtain ⟨_,ns,i',o,rfl,hl,s3,R3,g3,e3,rfl,hy⟩:=h
    have hk':k < n:=by omega
    have e4:=rNms_go hk' e3
    refine ⟨_,rfl,r,dx,a,ws,i',rfl,R3,ok,fun y l4 e5 v H4 i4 s4 R4 d4 rel=>?_,fun e5 H4 s4=>qE' (by rw [e4,e5]; rfl) _ (s3.trans s4)⟩
    cases rel
    refine ⟨by omega,ns++[y],i4,some (.int (0 + (k:Int))),by rw [List.map_append]; rfl,by rw [List.length_append,hl]; rfl,s3.trans s4,R4,s4 t _ tr g3,?_,rfl,fun z hz=>?_⟩
    ·rw [e4,e5,← d4]
     rfl
    ·rcases List.mem_append.mp hz with hz | hz
     ·exact hy z hz
     ·have:z=y:=by simpa using hz
      rw [this]
      exact (rName_some e5).1
   ·obtain ⟨_,ns,i',o,rfl,hl,s3,R3,g3,e3,rfl,hy⟩:=h
    have hl':ns.length=n:=by omega
    have e4:(rNms n (ws.drop (i + 1))).map (fun q=>(Cl.nm x q.1,q.2))=some (.nm x ns,ws.drop i'):=by
     rw [e3,show n - (n:Int).toNat=0 by omega]
     show some (Cl.nm x (ns++[]),ws.drop i')=_
     rw [List.append_nil]
    refine .inl ⟨p,_,rfl,SqL.of upd_same,fun l hl=>?_⟩
    have sp:Same H' (upd H' p (.lst (ns.map V.str))):=Same.new hp
    have sl:Same (upd H' p (.lst (ns.map V.str))) (upd (upd H' p (.lst (ns.map V.str))) l (.tup (ns.map V.str))):=Same.new hl
    have gl:(upd (upd H' p (.lst (ns.map V.str))) l (.tup (ns.map V.str))) l=some (.tup (ns.map V.str)):=upd_same
    have s4:=sp.trans sl
    generalize upd (upd H' p (.lst (ns.map V.str))) l (.tup (ns.map V.str))=H4 at sl gl s4
    refine ⟨t,l,_,_,rfl,rfl,SqT.of (s4 _ _ g3),SqT.of gl,List.cons_ne_nil _ _,?_,fun z=>?_,fun z p2 hp2=>?_⟩
    ·rw [List.length_map,hl']
     exact Nat.le_trans (show 1 + n≤4 by omega) (by decide)
    ·have zn:ns=[]:=by simpa using z
     subst zn
     exact q' _ _ e4 _ _ i' (s3.trans (Rw.same s4)) (R3.same s4) rfl (rel_nm (s4 _ _ g3) (ok_strOk hX) hy)
    ·have s5:Same H4 (upd H4 p2 (.tup ([.str x]++ns.map V.str))):=Same.new hp2
     exact q' _ _ e4 _ _ i' (s3.trans (Rw.same (s4.trans s5))) (R3.same (s4.trans s5)) rfl (rel_nm upd_same (ok_strOk hX) hy)
  | none =>
   have e0:=first_none (f:=rFirst m) hnb
   rw [← dt] at e0
   generalize hd (ws.drop i)=x at *
   refine iteF ⟨_,rfl,rfl,_,rfl,ite2 (fun h=>⟨_,rfl,fwd (rest:=[]) (by rw [e0,if_pos (deq_t h)])⟩) (fun h1=>?_)⟩
   have h1:=deq_f h1
   rw [if_neg h1] at e0
   refine ⟨_,rfl,rfl,_,rfl,ite2 (fun h=>?_) (fun h2=>?_)⟩
   ·have h:=deq_t h
    rw [if_pos h] at e0
    refine ⟨_,rfl,_,rfl,_,rfl,_,_,rfl,rfl,r,dx,a,ws,i + 1,less_one r m,R1,ok,fun c l3 e3 v3 H3 i3 s3 R3 d3 rel3=>⟨by show 2≤sizeLine; decide,fun t ht=>?_⟩,fun e H' s'=>qE' (by rw [e0,e]; rfl) _ (s1.trans s')⟩
    have sn:Same H3 (upd H3 t (.tup [.str x,v3])):=Same.new ht
    exact q' (.neg c) l3 (by rw [e0,e3]; rfl) _ _ i3 (s1.trans (s3.trans (Rw.same sn))) (R3.same sn) d3 (rel_neg (by rw [upd_same,h]) (rel3.same sn))
   have h2:=deq_f h2
   rw [if_neg h2] at e0
   refine ⟨fun σ' H'=>σ'=[some (V.ref r),some (V.int ((m + 1:Nat):Int)),some (V.str x)]∧H'=H1∧¬ (x = "each" ∨ x = "some"),?_,?_⟩
   ·refine ⟨_,rfl,rfl,_,rfl,ite2 (fun h=>iteT ⟨_,rfl,_,rfl,_,rfl,x,.inl (deq_t h),fwd (by rw [e0,if_pos (.inl (deq_t h))])⟩) (fun h3=>⟨_,rfl,rfl,_,rfl,ite2 (fun h=>⟨_,rfl,_,rfl,_,rfl,x,.inr (deq_t h),fwd (by rw [e0,if_pos (.inr (deq_t h))])⟩) (fun h4=>⟨rfl,rfl,fun z=>z.elim (deq_f h3) (deq_f h4)⟩)⟩)⟩
   rintro σ' H1 ⟨rfl,rfl,h3⟩
   rw [if_neg h3] at e0
   refine ⟨_,rfl,rfl,_,rfl,ite2 (fun h=>?_) (fun h4=>?_)⟩
   ·have h:=deq_t h
    rw [if_pos h] at e0
    refine ⟨_,rfl,_,rfl,r,dx,a,ws,i + 1,rfl,R1,ok,fun c l3 e3 v3 H3 i3 s3 R3 d3 rel3=>⟨by show 2≤sizeLine; decide,fun t ht=>?_⟩,fun e H' s'=>qE' (by rw [e0,e]; rfl) _ (s1.trans s')⟩
    have sn:Same H3 (upd H3 t (.tup [.str x,v3])):=Same.new ht
    refine q' (.size c) l3 (by rw [e0,e3]; rfl) _ _ i3 (s1.trans (s3.trans (Rw.same sn))) (R3.same sn) d3 (pd_tup (n:=2) (upd_same) ?_)
    have e9:("size" : Str)=x:=h.symm
    rw [e9]
    exact .cons (pd_str (ok_strOk hX)) (.cons (PDF.same sn rel3) .nil)
   have h4:=deq_f h4
   rw [if_neg h4] at e0
   refine ⟨_,rfl,rfl,_,rfl,ite2 (fun h=>?_) (fun h5=>?_)⟩
   ·have h:=deq_t h
    rw [if_pos h] at e0
    refine ⟨_,rfl,_,rfl,r,dx,a,ws,i + 1,rfl,R1,ok,fun c l3 e3 v3 H3 i3 s3 R3 d3 rel3=>?_,fun e H' s'=>qE' (by rw [e0,e]; rfl) _ (s1.trans s')⟩
    subst d3
    have e6:firstOf (rFirst m) (ws.drop i)=(rSet (ws.drop i3)).map fun p=>(.pairs c p.1,p.2):=by
     rw [e0,e3]
     rfl
    refine ⟨_,rfl,r,dx,a,ws,i3,rfl,R3,ok,fun c4 l4 e4 v4 H4 i4 s4 R4 d4 rel4=>⟨by show 3≤sizeLine; decide,fun t ht=>?_⟩,fun e H' s'=>qE' (by rw [e6,e]; rfl) _ (s1.trans (s3.trans s'))⟩
    have sn:Same H4 (upd H4 t (.tup [.str x,v3,v4])):=Same.new ht
    refine q' (.pairs c c4) l4 (by rw [e6,e4]; rfl) _ _ i4 (s1.trans (s3.trans (s4.trans (Rw.same sn)))) (R4.same sn) d4 (pd_tup (n:=2) (upd_same) ?_)
    have e9:("pairs" : Str)=x:=h.symm
    rw [e9]
    exact .cons (pd_str (ok_strOk hX)) (.cons (PDF.same sn (s4.pd R3.row rel3)) (.cons (PDF.same sn rel4) .nil))
   have h5:=deq_f h5
   rw [if_neg h5] at e0
   refine ⟨fun σ' H'=>σ'=[some (V.ref r),some (V.int ((m + 1:Nat):Int)),some (V.str x)]∧H'=H1∧¬ (x = "least" ∨ x = "most"),?_,?_⟩
   ·refine ⟨_,rfl,rfl,_,rfl,ite2 (fun h=>iteT ⟨_,rfl,_,rfl,_,rfl,x,.inl (deq_t h),fwd (by rw [e0,if_pos (.inl (deq_t h))])⟩) (fun h3=>⟨_,rfl,rfl,_,rfl,ite2 (fun h=>⟨_,rfl,_,rfl,_,rfl,x,.inr (deq_t h),fwd (by rw [e0,if_pos (.inr (deq_t h))])⟩) (fun h4=>⟨rfl,rfl,fun z=>z.elim (deq_f h3) (deq_f h4)⟩)⟩)⟩
   rintro σ' H1 ⟨rfl,rfl,h6⟩
   rw [if_neg h6] at e0
   refine ⟨_,rfl,rfl,_,rfl,ite2 (fun h=>⟨_,rfl,_,rfl,fwd (by rw [e0,if_pos (deq_t h)])⟩) (fun h7=>?_)⟩
   have h7:=deq_f h7
   rw [if_neg h7] at e0
   exact ⟨_,rfl,_,rfl,_,rfl,x,hX,fwd e0⟩
end
end Net
namespace Net
open PySem L2 L2.Tx
theorem pair1 {α β:Type} {F:α→β→Prop} {xs:List α} {a:β} (h:Paired F xs [a]):∃ x,xs=[x]∧F x a:=by
 cases h with
 | cons p t=>cases t; exact ⟨_,rfl,p⟩
theorem pair2 {α β:Type} {F:α→β→Prop} {xs:List α} {a b:β} (h:Paired F xs [a,b]):∃ x y,xs=[x,y]∧F x a∧F y b:=by
 cases h with
 | cons p t=>obtain ⟨y,rfl,q⟩:=pair1 t; exact ⟨_,_,rfl,p,q⟩
theorem pair3 {α β:Type} {F:α→β→Prop} {xs:List α} {a b c:β} (h:Paired F xs [a,b,c]):∃ x y z,xs=[x,y,z]∧F x a∧F y b∧F z c:=by
 cases h with
 | cons p t=>obtain ⟨y,z,rfl,q⟩:=pair2 t; exact ⟨_,_,_,rfl,p,q⟩
theorem pair4 {α β:Type} {F:α→β→Prop} {xs:List α} {a b c d:β} (h:Paired F xs [a,b,c,d]):∃ x y z u,xs=[x,y,z,u]∧F x a∧F y b∧F z c∧F u d:=by
 cases h with
 | cons p t=>obtain ⟨y,z,u,rfl,q⟩:=pair3 t; exact ⟨_,_,_,_,rfl,p,q⟩
theorem pair_strs {H:Hp} {n:Nat}:∀ {ns:List Str} {xs:List V},Paired (PD H n) xs (ns.map PyData.str)→xs=ns.map V.str
 | [],_,h=>by cases h; rfl
 | x :: r,_,h=>by
  cases h with
  | cons p t=>rw [p.str_is,pair_strs t]; rfl
theorem join_len (z:Str):∀ l:List Str,l ≠ []→(Str.join z l).length + z.length=(l.map (·.length)).sum + l.length * z.length
 | [],h=>absurd rfl h
 | [x],_=>by rw [join_one]; simp
 | x :: y :: l,_=>by
  have ih:=join_len z (y :: l) (List.cons_ne_nil _ _)
  rw [join_two,str_len_app,str_len_app,List.map_cons,List.sum_cons,List.length_cons,Nat.add_mul,Nat.one_mul]
  omega
theorem join_w {z:Str} {l:List Str} {n:Nat} (hz:1≤z.length) (hz2:z.length≤2) (h:(Str.join z l).length≤n):(l.map (·.length)).sum + l.length≤n + 2:=by
 cases l with
 | nil=>exact Nat.zero_le _
 | cons x r =>
  have e:=join_len z (x :: r) (List.cons_ne_nil _ _)
  have:(x :: r).length * 1≤(x :: r).length * z.length:=Nat.mul_le_mul_left _ hz
  omega
theorem l_sp:(" " : Str).length=1:=by decide +kernel
theorem l_csp:(", " : Str).length=2:=by decide +kernel
theorem dep_pos (c:Cl):1≤dep c:=by
 cases c <;> first | exact Nat.le_refl _ | (unfold dep; omega)
theorem nb_ne {w x:Str} {n:Nat} (h:nb w=some n) (hx:nb x=none):w ≠ x:=fun z=>by rw [z,hx] at h; cases h
theorem num_log8 {n:Int} (h:wfN n):n.natAbs.log2 < 1920:=by
 have:=num_log h.1
 rw [h.2] at this
 exact this
def spShS:Sp:=fun vs H Q _=>∃ (v:V) (k:Nat) (s:Ks),vs=[v]∧PD H k v (datK s)∧wfK s∧(txK s).length≤40000∧Q (.str (txK s)) H
def spShT (n:Nat):Sp:=fun vs H Q _=>∃ (v:V) (k:Nat) (c:Cl),vs=[v]∧PD H k v (dat c)∧wf c∧isT c=true∧dep c≤n∧(tx c).length≤40000∧∀ H',Same H H'→Q (.str (tx c)) H'
def spShC (n:Nat):Sp:=fun vs H Q _=>∃ (v:V) (k:Nat) (c:Cl),vs=[v]∧PD H k v (dat c)∧wf c∧isT c=false∧dep c≤n∧(tx c).length≤40000∧∀ H',Same H H'→Q (.str (tx c)) H'
theorem dne {x y:Str} (h:x ≠ y):decide (V.str x=V.str y)=false:=decide_eq_false fun z=>h (by injection z)
theorem deq {x y:Str} (h:x=y):decide (V.str x=V.str y)=true:=decide_eq_true (by rw [h])
section
variable {P:Program} {w:World} {K:PySem.W.Frag} {mg:Str→Option Value} {base:Heap} {C ct:Addr} {n:Nat}
theorem sc_shS:FnScope ["kind"] ["kind"] (defScope s_show_set):=⟨rfl,rfl,rfl,by decide +kernel,rfl,by decide +kernel,by decide +kernel⟩
theorem ok_shS {f:Addr} {fd:FuncData} (F:Fun K "show_set" "show_set" s_show_set f fd):FnOk P w K mg base CX0 1 f fd ["kind"] spShS:=by
 refine F.ok sc_shS (fun vs H Q E h=>?_) (fun cdv A outer s H vs Q E hr h=>?_)
 ·obtain ⟨v,k,c,rfl,_⟩:=h
  rfl
 ·obtain ⟨v,k,c,rfl,pd,wk,hl,q⟩:=h
  cases c with
  | all =>
   obtain ⟨m,a,xs,rfl,rfl,ha,pr⟩:=pd.tup_of
   obtain ⟨x,rfl,p1⟩:=pair1 pr
   rw [p1.str_is] at ha
   refine ⟨_,(pss_cons (ps_if (pt_cmpR op_eq (pe_ix ix_tup (pv 0) pe_int (fun _ _=>by rfl)) pe_str (nomark _)) pss_never pss_nil)
   (pss_one (ps_ret (pe_bm PySem.F.plainAttrs_str PySem.F.slot_str_join PySem.F.type_str_join mt_joinT pe_str (pa_cons (pv 0) pa_nil))))),?_⟩
   refine ⟨_,rfl,a,_,_,_,rfl,rfl,SqT.of ha,rfl,rfl,_,rfl,iteFb (dne (by decide +kernel)) ⟨rfl,_,rfl,_,a,["all"],rfl,rfl,SqT.of ha,by decide +kernel,by decide +kernel,q⟩⟩
  | of x y =>
   obtain ⟨m,a,xs,rfl,rfl,ha,pr⟩:=pd.tup_of
   obtain ⟨v1,v2,rfl,p1,p2⟩:=pair2 pr
   rw [p1.str_is,p2.str_is] at ha
   refine ⟨_,(pss_cons (ps_if (pt_cmpR op_eq (pe_ix ix_tup (pv 0) pe_int (fun _ _=>by rfl)) pe_str (nomark _)) pss_never pss_nil)
   (pss_one (ps_ret (pe_bm PySem.F.plainAttrs_str PySem.F.slot_str_join PySem.F.type_str_join mt_joinT pe_str (pa_cons (pv 0) pa_nil))))),?_⟩
   have hx:x ≠ "these" := by rcases wk.1 with rfl | rfl <;> decide +kernel
   have hw:=join_w (by rw [l_sp]; decide) (by rw [l_sp]; decide) (show (Str.join " " [x,y]).length≤40000 from hl)
   refine ⟨_,rfl,a,_,_,_,rfl,rfl,SqT.of ha,rfl,rfl,_,rfl,iteFb (dne hx) ⟨rfl,_,rfl,_,a,[x,y],rfl,rfl,SqT.of ha,by decide +kernel,Nat.le_trans hw (by decide),q⟩⟩
  | these ns =>
   obtain ⟨m,a,xs,rfl,rfl,ha,pr⟩:=pd.tup_of
   obtain ⟨v1,v2,rfl,p1,p2⟩:=pair2 pr
   rw [p1.str_is] at ha
   obtain ⟨m2,b,ys,rfl,rfl,hb,pr2⟩:=p2.list_of
   rw [pair_strs pr2] at hb
   refine ⟨_,(pss_cons (ps_if (pt_cmpR op_eq (pe_ix ix_tup (pv 0) pe_int (fun _ _=>by rfl)) pe_str (nomark _)) (pss_one (ps_ret (pe_op op_add_str (pe_op op_add_str pe_str (pe_bm PySem.F.plainAttrs_str PySem.F.slot_str_join PySem.F.type_str_join mt_join pe_str (pa_cons (pe_ix ix_tup (pv 0) pe_int (fun _ _=>by rfl)) pa_nil))) pe_str))) pss_nil)
   (pss_one ps_never)),?_⟩
   have hl':("{" : Str).length + (Str.join ", " ns).length + ("}" : Str).length≤40000:=by
    have:(txK (.these ns)).length=("{" : Str).length + (Str.join ", " ns).length + ("}" : Str).length:=by
     show ((("{" : Str)++Str.join ", " ns)++("}" : Str)).length=_
     rw [str_len_app,str_len_app]
    omega
   have hw:=join_w (z := ", ") (l:=ns) (n:=40000) (by rw [l_csp]; decide) (by rw [l_csp]; decide) (by omega)
   refine ⟨_,rfl,a,_,_,_,rfl,rfl,SqT.of ha,rfl,rfl,_,rfl,iteTb (deq rfl) ⟨rfl,_,rfl,a,_,_,_,rfl,rfl,SqT.of ha,rfl,_,b,ns,rfl,rfl,SqL.of hb,by decide +kernel,Nat.le_trans hw (by decide),_,_,rfl,rfl,Nat.le_trans (show _≤40000 by omega) (by decide),_,_,rfl,rfl,?_,q⟩⟩
   rw [str_len_app]
   exact Nat.le_trans hl' (by decide)
end
end Net
namespace Net
open PySem L2 L2.Tx
section
variable {P:Program} {w:World} {K:PySem.W.Frag} {mg:Str→Option Value} {base:Heap} {C ct:Addr} {n:Nat}
theorem sc_shT:FnScope ["term","word","first","second"] ["term"] (defScope s_show_term):=⟨rfl,rfl,rfl,by decide +kernel,rfl,by decide +kernel,by decide +kernel⟩
theorem ok_shT0 {f:Addr} {fd:FuncData} (F:Fun K "show_term" "show_term" s_show_term f fd):FnOk P w K mg base CX0 2 f fd ["term"] (spShT 0):=by
 refine F.ok sc_shT (fun vs H Q E h=>?_) (fun cdv A outer s H vs Q E hr h=>?_)
 ·obtain ⟨v,k,c,rfl,_⟩:=h
  rfl
 ·obtain ⟨v,k,c,rfl,_,_,_,hd,_⟩:=h
  have:=dep_pos c
  omega
theorem sets_len:∀ {l:List Str} {x:Str} {n:Nat},(Str.join " " l).length≤n→x ∈ l→x.length≤n:=fun {l x n} h hx=>by
 have e:=join_len " " l (fun z=>by rw [z] at hx; cases hx)
 rw [l_sp] at e
 have h2:x.length≤(l.map (·.length)).sum:=by
  clear e h
  induction l with
  | nil=>cases hx
  | cons y r ih =>
   rw [List.map_cons,List.sum_cons]
   rcases List.mem_cons.mp hx with rfl | hx
   ·omega
   ·have:=ih hx
    omega
 have:1≤l.length:=List.length_pos_of_mem hx
 omega
theorem ok_shT {f:Addr} {fd:FuncData} (F:Fun K "show_term" "show_term" s_show_term f fd) (T:Txt K mg) (W:Wrd P w K mg C) (cs:Can P w K mg base 1 "show_set" ["kind"] spShS) (ct:Can P w K mg base (n + 2) "show_term" ["term"] (spShT n)):FnOk P w K mg base CX0 (n + 3) f fd ["term"] (spShT (n + 1)):=by
 have nd_0:List.Nodup (["kind"]:List Str):=by decide +kernel
 obtain ⟨da,vs0,mn,kd,k1,k2⟩:=W.nbD
 refine F.ok sc_shT (fun vs H Q E h=>?_) (fun cdv A outer s H vs Q E hr h=>?_)
 ·obtain ⟨v,k,c,rfl,_⟩:=h
  rfl
 ·obtain ⟨v,k,c,rfl,pd,wc,ht,hd,hl,q⟩:=h
  have r1:Room 1 _:=hr.mono (by omega)
  refine ⟨_,(pss_cons (ps_set (i:=1) sc_shT.nd rfl (Or.inl rfl) (pe_ix ix_tup (pv 0) pe_int (fun _ _=>by rfl)))
   (pss_cons (ps_if (pt_cmpR op_eq (pv 1) pe_str (nomark _)) (pss_one (ps_ret (pe_callTy call_str_int (by rfl) T.str b_str (pa_cons (pe_ix ix_tup (pv 0) pe_int (fun _ _=>by rfl)) pa_nil)))) pss_nil)
   (pss_cons (ps_if (PW.pt (pw_or (pt_cmpR op_eq (pv 1) pe_str (nomark _)) (pw_or1 (pt_cmpR op_eq (pv 1) pe_str (nomark _))))) (pss_one (ps_ret (pe_bm PySem.F.plainAttrs_str PySem.F.slot_str_join PySem.F.type_str_join mt_join pe_str (pa_cons (pe_op op_cat (pe_lst (pa_cons (pv 1) pa_nil)) (pe_comp (N:=["kind"]) (xs:=1) (js:=[]) rfl (compScope_of rfl) (pi_tup (pe_slice sl_tup (pv 0) (po_some pe_int) po_none)) (fun _ _ _ _=>pg_name (i:=0) nd_0 rfl (Or.inl rfl)) (fun _ _ _ _=>pts_nil) (fun _ _ _ _=>pe_callC cs r1 (by rfl) (pa_cons (pv 0) pa_nil)))) pa_nil)))) pss_nil)
   (pss_cons (ps_if (pt_cmp (pc_kin (by rfl) mn kd (pv 1))) (pss_one (ps_ret (pe_bm PySem.F.plainAttrs_str PySem.F.slot_str_join PySem.F.type_str_join mt_joinT pe_str (pa_cons (pv 0) pa_nil)))) pss_nil)
   (pss_cons (ps_if (pt_cmpR op_eq (pv 1) pe_str (nomark _)) (pss_one (ps_ret (pe_op op_add_str (pe_op op_add_str (pe_callTy call_str_int (by rfl) T.str b_str (pa_cons (pe_ix ix_tup (pv 0) pe_int (fun _ _=>by rfl)) pa_nil)) pe_str) (pe_callC ct hr (by rfl) (pa_cons (pe_ix ix_tup (pv 0) pe_int (fun _ _=>by rfl)) pa_nil))))) pss_nil)
   (pss_cons (ps_set (i:=2) sc_shT.nd rfl (Or.inl rfl) (pe_callC ct hr (by rfl) (pa_cons (pe_ix ix_tup (pv 0) pe_int (fun _ _=>by rfl)) pa_nil)))
   (pss_cons (ps_set (i:=3) sc_shT.nd rfl (Or.inl rfl) (pe_callC ct hr (by rfl) (pa_cons (pe_ix ix_tup (pv 0) pe_int (fun _ _=>by rfl)) pa_nil)))
   (pss_one (ps_ret (pe_ifExp (pt_cmpR op_eq (pv 1) pe_str (nomark _)) (pe_join (pj_cons pe_str (pj_cons (pe_fmt (pv 2)) (pj_cons pe_str (pj_cons (pe_fmt (pv 3)) (pj_cons pe_str pj_nil))))) (by decide)) (pe_join (pj_cons (pe_fmt (pv 1)) (pj_cons pe_str (pj_cons (pe_fmt (pv 2)) (pj_cons pe_str (pj_cons (pe_fmt (pv 3)) (pj_cons pe_str pj_nil)))))) (by decide)))))))))))),?_⟩
  cases c with
  | nm x ns =>
   obtain ⟨m,a,xs,rfl,rfl,ha,pr⟩:=pd.tup_of
   have ex:=pair_strs (ns:=x :: ns) pr
   subst ex
   have h0:nb x=some ns.length:=wc.1
   have hw:=join_w (by rw [l_sp]; decide) (by rw [l_sp]; decide) (show (Str.join " " (x :: ns)).length≤40000 from hl)
   refine ⟨_,rfl,a,_,_,_,rfl,rfl,SqT.of ha,atI_nat (j:=0) rfl,?_⟩
   refine ⟨_,rfl,rfl,_,rfl,iteFb (dne (nb_ne h0 (by decide +kernel))) ?_⟩
   refine ⟨_,rfl,rfl,_,rfl,iteFb (dne (nb_ne h0 (by decide +kernel))) ⟨_,rfl,rfl,_,rfl,iteFb (dne (nb_ne h0 (by decide +kernel))) ?_⟩⟩
   refine ⟨_,rfl,Sum.inr x,rfl,_,rfl,iteTb (by rw [k1,h0]; rfl) ⟨rfl,_,rfl,_,a,x :: ns,rfl,rfl,SqT.of ha,by decide +kernel,Nat.le_trans hw (by decide),q H (Same.refl _)⟩⟩
  | num i =>
   obtain ⟨m,a,xs,rfl,rfl,ha,pr⟩:=pd.tup_of
   obtain ⟨v1,v2,rfl,p1,p2⟩:=pair2 pr
   rw [p1.str_is,p2.int_of] at ha
   refine ⟨_,rfl,a,_,_,_,rfl,rfl,SqT.of ha,rfl,_,rfl,rfl,_,rfl,iteTb (deq rfl) ⟨_,rfl,a,_,_,_,rfl,rfl,SqT.of ha,rfl,i,rfl,num_log8 wc,q H (Same.refl _)⟩⟩
  | size k =>
   obtain ⟨m,a,xs,rfl,rfl,ha,pr⟩:=pd.tup_of
   obtain ⟨v1,v2,rfl,p1,p2⟩:=pair2 pr
   rw [p1.str_is] at ha
   have prs:Paired (PD H m) [v2] ([k].map datK):=(.cons p2 .nil)
   have wks:∀ s ∈ [k],wfK s:=fun s hs=>by
    simp only [List.mem_cons,List.not_mem_nil,or_false] at hs
    rw [hs]; exact wc
   have hj:(Str.join " " (("size" : Str) :: [k].map txK)).length≤40000:=hl
   have fin:∀ H',Same H H'→Q (.str (Str.join " " (("size" : Str) :: [k].map txK))) H':=q
   have hlen:([k]:List Ks).length≤2:=by show 1≤2; decide
   have hlv:[v2].length=([k]:List Ks).length:=rfl
   have cut:cutV (V.str "size" :: [v2]) (some 1) none=[v2]:=rfl
   have nwh:¬ (HT.sIx (V.str "size" :: [v2]).length 0 (some 1)=0∧HT.sIx (V.str "size" :: [v2]).length (V.str "size" :: [v2]).length none=(V.str "size" :: [v2]).length):=by show ¬ (HT.sIx 2 0 (some 1)=0∧HT.sIx 2 2 none=2); decide
   refine ⟨_,rfl,a,_,_,_,rfl,rfl,SqT.of ha,rfl,?_⟩
   refine ⟨_,rfl,rfl,_,rfl,iteFb (dne (by decide +kernel)) ?_⟩
   refine ⟨_,rfl,rfl,_,rfl,iteTb (deq rfl) (iteT ?_)⟩
   generalize hks:[k]=ks at prs wks hj fin hlen hlv
   generalize hvs:[v2]=zs at prs hlv ha cut nwh
   clear hks hvs
   have hw:=join_w (by rw [l_sp]; decide) (by rw [l_sp]; decide) hj
   refine ⟨rfl,_,rfl,by show 1≤sizeLine; decide,fun l hl1=>?_⟩
   have s1:Same H (upd H l (.lst [.str "size"])):=Same.new hl1
   have g1:(upd H l (.lst [.str "size"])) l=some (.lst [.str "size"]):=upd_same
   generalize upd H l (.lst [.str "size"])=H1 at s1 g1
   refine ⟨_,rfl,_,rfl,a,_,rfl,SqT.of (s1 _ _ ha),nwh,fun p hp=>?_⟩
   rw [cut]
   have s2:Same H1 (upd H1 p (.tup zs)):=Same.new hp
   have g2:(upd H1 p (.tup zs)) p=some (.tup zs):=upd_same
   generalize upd H1 p (.tup zs)=H2 at s2 g2
   refine ⟨p,rfl,⟨_,SqT.of g2⟩,comp_tup (K:=K) (ys:=zs) (fun i acc σ' H'=>Same H2 H'∧acc=(ks.take i).map (fun d=>V.str (txK d))∧∃ o,σ'=[o])
    ⟨Same.refl _,rfl,none,rfl⟩ (fun i acc σ' H' h=>?_) (by rw [hlv]; exact Nat.le_trans hlen (by decide)) (fun i acc σ' H' _ h=>SqT.of (h.1 _ _ g2)) (fun i x acc σ' H' hx h=>?_) (fun acc σ' H' h p2 hp2=>?_)⟩
   ·rw [h.2.1,List.length_map,List.length_take]
    omega
   ·obtain ⟨s3,rfl,o,rfl⟩:=h
    obtain ⟨d,hd2,pdx⟩:=pair_get prs hx
    rw [List.getElem?_map] at hd2
    cases e:ks[i]? with
    | none=>rw [e] at hd2; cases hd2
    | some c0 =>
     rw [e] at hd2
     cases hd2
     refine ⟨_,rfl,x,m,c0,rfl,pdx.same (s1.trans (s2.trans s3)),wks c0 (List.mem_of_getElem? e),sets_len hj (List.mem_cons_of_mem _ (List.mem_map_of_mem (List.mem_of_getElem? e))),s3,?_,_,rfl⟩
     rw [List.take_add_one,e,List.map_append]
     rfl
   ·obtain ⟨s3,rfl,o,rfl⟩:=h
    have et:ks.take zs.length=ks:=List.take_of_length_le (by rw [hlv]; exact Nat.le_refl _)
    rw [et]
    have s4:Same H' (upd H' p2 (.lst (ks.map fun d=>V.str (txK d)))):=Same.new hp2
    refine ⟨l,p2,_,_,rfl,rfl,s4 _ _ (s3 _ _ (s2 _ _ g1)),upd_same,?_,fun p3 hp3=>?_⟩
    ·rw [List.length_map]
     exact Nat.le_trans (show 1 + ks.length≤3 by omega) (by decide)
    refine ⟨_,p3,("size" : Str) :: ks.map txK,rfl,rfl,SqL.of (by rw [upd_same,List.map_cons,List.map_map]; rfl),by decide +kernel,Nat.le_trans hw (by decide),?_⟩
    exact fin _ (s1.trans (s2.trans (s3.trans (s4.upd hp3))))
  | pairs k j =>
   obtain ⟨m,a,xs,rfl,rfl,ha,pr⟩:=pd.tup_of
   obtain ⟨v1,v2,v3,rfl,p1,p2,p3⟩:=pair3 pr
   rw [p1.str_is] at ha
   have prs:Paired (PD H m) [v2,v3] ([k,j].map datK):=(.cons p2 (.cons p3 .nil))
   have wks:∀ s ∈ [k,j],wfK s:=fun s hs=>by
    simp only [List.mem_cons,List.not_mem_nil,or_false] at hs
    rcases hs with rfl | rfl; exact wc.1; exact wc.2
   have hj:(Str.join " " (("pairs" : Str) :: [k,j].map txK)).length≤40000:=hl
   have fin:∀ H',Same H H'→Q (.str (Str.join " " (("pairs" : Str) :: [k,j].map txK))) H':=q
   have hlen:([k,j]:List Ks).length≤2:=by show 2≤2; decide
   have hlv:[v2,v3].length=([k,j]:List Ks).length:=rfl
   have cut:cutV (V.str "pairs" :: [v2,v3]) (some 1) none=[v2,v3]:=rfl
   have nwh:¬ (HT.sIx (V.str "pairs" :: [v2,v3]).length 0 (some 1)=0∧HT.sIx (V.str "pairs" :: [v2,v3]).length (V.str "pairs" :: [v2,v3]).length none=(V.str "pairs" :: [v2,v3]).length):=by show ¬ (HT.sIx 3 0 (some 1)=0∧HT.sIx 3 3 none=3); decide
   refine ⟨_,rfl,a,_,_,_,rfl,rfl,SqT.of ha,rfl,?_⟩
   refine ⟨_,rfl,rfl,_,rfl,iteFb (dne (by decide +kernel)) ?_⟩
   refine ⟨_,rfl,rfl,_,rfl,iteFb (dne (by decide +kernel)) ⟨_,rfl,rfl,_,rfl,iteTb (deq rfl) ?_⟩⟩
   generalize hks:[k,j]=ks at prs wks hj fin hlen hlv
   generalize hvs:[v2,v3]=zs at prs hlv ha cut nwh
   clear hks hvs
   have hw:=join_w (by rw [l_sp]; decide) (by rw [l_sp]; decide) hj
   refine ⟨rfl,_,rfl,by show 1≤sizeLine; decide,fun l hl1=>?_⟩
   have s1:Same H (upd H l (.lst [.str "pairs"])):=Same.new hl1
   have g1:(upd H l (.lst [.str "pairs"])) l=some (.lst [.str "pairs"]):=upd_same
   generalize upd H l (.lst [.str "pairs"])=H1 at s1 g1
   refine ⟨_,rfl,_,rfl,a,_,rfl,SqT.of (s1 _ _ ha),nwh,fun p hp=>?_⟩
   rw [cut]
   have s2:Same H1 (upd H1 p (.tup zs)):=Same.new hp
   have g2:(upd H1 p (.tup zs)) p=some (.tup zs):=upd_same
   generalize upd H1 p (.tup zs)=H2 at s2 g2
   refine ⟨p,rfl,⟨_,SqT.of g2⟩,comp_tup (K:=K) (ys:=zs) (fun i acc σ' H'=>Same H2 H'∧acc=(ks.take i).map (fun d=>V.str (txK d))∧∃ o,σ'=[o])
    ⟨Same.refl _,rfl,none,rfl⟩ (fun i acc σ' H' h=>?_) (by rw [hlv]; exact Nat.le_trans hlen (by decide)) (fun i acc σ' H' _ h=>SqT.of (h.1 _ _ g2)) (fun i x acc σ' H' hx h=>?_) (fun acc σ' H' h p2 hp2=>?_)⟩
   ·rw [h.2.1,List.length_map,List.length_take]
    omega
   ·obtain ⟨s3,rfl,o,rfl⟩:=h
    obtain ⟨d,hd2,pdx⟩:=pair_get prs hx
    rw [List.getElem?_map] at hd2
    cases e:ks[i]? with
    | none=>rw [e] at hd2; cases hd2
    | some c0 =>
     rw [e] at hd2
     cases hd2
     refine ⟨_,rfl,x,m,c0,rfl,pdx.same (s1.trans (s2.trans s3)),wks c0 (List.mem_of_getElem? e),sets_len hj (List.mem_cons_of_mem _ (List.mem_map_of_mem (List.mem_of_getElem? e))),s3,?_,_,rfl⟩
     rw [List.take_add_one,e,List.map_append]
     rfl
   ·obtain ⟨s3,rfl,o,rfl⟩:=h
    have et:ks.take zs.length=ks:=List.take_of_length_le (by rw [hlv]; exact Nat.le_refl _)
    rw [et]
    have s4:Same H' (upd H' p2 (.lst (ks.map fun d=>V.str (txK d)))):=Same.new hp2
    refine ⟨l,p2,_,_,rfl,rfl,s4 _ _ (s3 _ _ (s2 _ _ g1)),upd_same,?_,fun p3 hp3=>?_⟩
    ·rw [List.length_map]
     exact Nat.le_trans (show 1 + ks.length≤3 by omega) (by decide)
    refine ⟨_,p3,("pairs" : Str) :: ks.map txK,rfl,rfl,SqL.of (by rw [upd_same,List.map_cons,List.map_map]; rfl),by decide +kernel,Nat.le_trans hw (by decide),?_⟩
    exact fin _ (s1.trans (s2.trans (s3.trans (s4.upd hp3))))
  | tim i c =>
   obtain ⟨m,a,xs,rfl,rfl,ha,pr⟩:=pd.tup_of
   obtain ⟨v1,v2,v3,rfl,p1,p2,p3⟩:=pair3 pr
   rw [p1.str_is,p2.int_of] at ha
   have hl':(numT i).length + 3 + (tx c).length≤40000:=by
    have:(tx (.tim i c)).length=(numT i).length + (" * " : Str).length + (tx c).length:=by
     show ((numT i++(" * " : Str))++tx c).length=_
     rw [str_len_app,str_len_app]
    have h3:(" * " : Str).length=3:=by decide +kernel
    omega
   have hd':dep c≤n:=by
    have:1 + dep c≤n + 1:=hd
    omega
   refine ⟨_,rfl,a,_,_,_,rfl,rfl,SqT.of ha,rfl,?_⟩
   refine ⟨_,rfl,rfl,_,rfl,iteFb (dne (by decide +kernel)) ?_⟩
   refine ⟨_,rfl,rfl,_,rfl,iteFb (dne (by decide +kernel)) ⟨_,rfl,rfl,_,rfl,iteFb (dne (by decide +kernel)) ?_⟩⟩
   refine ⟨_,rfl,Sum.inr _,rfl,_,rfl,iteFb (by rw [k1]; decide +kernel) ?_⟩
   refine ⟨_,rfl,rfl,_,rfl,iteTb (deq rfl) ⟨_,rfl,a,_,_,_,rfl,rfl,SqT.of ha,rfl,i,rfl,num_log8 wc.2.1,_,_,rfl,rfl,?_,_,rfl,a,_,_,_,rfl,rfl,SqT.of ha,rfl,v3,_,c,rfl,p3,wc.2.2.2,wc.2.2.1,hd',by omega,fun H1 s1=>⟨_,_,rfl,rfl,?_,q H1 s1⟩⟩⟩
   ·have h3:(" * " : Str).length=3:=by decide +kernel
    exact Nat.le_trans (show (numT i).length + (" * " : Str).length≤40000 by omega) (by decide)
   ·have h3:(" * " : Str).length=3:=by decide +kernel
    rw [str_len_app]
    exact Nat.le_trans (show (numT i).length + (" * " : Str).length + (tx c).length≤40000 by omega) (by decide)
  | plus a0 b0 =>
   obtain ⟨m,a,xs,rfl,rfl,ha,pr⟩:=pd.tup_of
   obtain ⟨v1,v2,v3,rfl,p1,p2,p3⟩:=pair3 pr
   rw [p1.str_is] at ha
   have hl':(tx a0).length + (tx b0).length≤40000:=by
    have:(tx (.plus a0 b0)).length=("(" : Str).length + ((tx a0).length + ((" + " : Str).length + ((tx b0).length + ((")" : Str).length + Str.empty.length)))):=by
     show (("(" : Str)++(tx a0++((" + " : Str)++(tx b0++((")" : Str)++Str.empty))))).length=_
     rw [str_len_app,str_len_app,str_len_app,str_len_app,str_len_app]
    omega
   have hd':1 + max (dep a0) (dep b0)≤n + 1:=hd
   refine ⟨_,rfl,a,_,_,_,rfl,rfl,SqT.of ha,rfl,?_⟩
   refine ⟨_,rfl,rfl,_,rfl,iteFb (dne (by decide +kernel)) ?_⟩
   refine ⟨_,rfl,rfl,_,rfl,iteFb (dne (by decide +kernel)) ⟨_,rfl,rfl,_,rfl,iteFb (dne (by decide +kernel)) ?_⟩⟩
   refine ⟨_,rfl,Sum.inr _,rfl,_,rfl,iteFb (by rw [k1]; decide +kernel) ?_⟩
   refine ⟨_,rfl,rfl,_,rfl,iteFb (dne (by decide +kernel)) ⟨_,rfl,a,_,_,_,rfl,rfl,SqT.of ha,rfl,v2,_,a0,rfl,p2,wc.2.2.1,wc.1,by omega,by omega,fun H1 s1=>⟨_,rfl,a,_,_,_,rfl,rfl,SqT.of (s1 _ _ ha),rfl,v3,_,b0,rfl,p3.same s1,wc.2.2.2,wc.2.1,by omega,by omega,fun H2 s2=>?_⟩⟩⟩
   exact ⟨_,rfl,rfl,_,rfl,iteTb (deq rfl) ⟨_,rfl,by decide +kernel,_,rfl,.inl ⟨_,rfl,Nat.le_trans (show _≤40000 by omega) (by decide),_,rfl,Nat.le_trans (show _≤40000 by omega) (by decide),_,rfl,by decide +kernel,_,rfl,.inl ⟨_,rfl,Nat.le_trans (show _≤40000 by omega) (by decide),_,rfl,Nat.le_trans (show _≤40000 by omega) (by decide),_,rfl,by decide +kernel,q H2 (s1.trans s2)⟩⟩⟩⟩
  | two x a0 b0 =>
   obtain ⟨m,a,xs,rfl,rfl,ha,pr⟩:=pd.tup_of
   obtain ⟨v1,v2,v3,rfl,p1,p2,p3⟩:=pair3 pr
   rw [p1.str_is] at ha
   obtain ⟨hx,wc⟩:=wc
   have hl':x.length + ((tx a0).length + (tx b0).length)≤40000:=by
    have:(tx (.two x a0 b0)).length=x.length + (("(" : Str).length + ((tx a0).length + ((", " : Str).length + ((tx b0).length + ((")" : Str).length + Str.empty.length))))):=by
     show (x++(("(" : Str)++(tx a0++((", " : Str)++(tx b0++((")" : Str)++Str.empty)))))).length=_
     rw [str_len_app,str_len_app,str_len_app,str_len_app,str_len_app,str_len_app]
    omega
   have hd':1 + max (dep a0) (dep b0)≤n + 1:=hd
   have n1:x ≠ "number" := by rcases hx with rfl | rfl <;> decide +kernel
   have n2:x ≠ "size" := by rcases hx with rfl | rfl <;> decide +kernel
   have n3:x ≠ "pairs" := by rcases hx with rfl | rfl <;> decide +kernel
   have n4:x ≠ "times" := by rcases hx with rfl | rfl <;> decide +kernel
   have n5:x ≠ "plus" := by rcases hx with rfl | rfl <;> decide +kernel
   have n6:nb x=none:=by rcases hx with rfl | rfl <;> decide +kernel
   refine ⟨_,rfl,a,_,_,_,rfl,rfl,SqT.of ha,rfl,?_⟩
   refine ⟨_,rfl,rfl,_,rfl,iteFb (dne n1) ?_⟩
   refine ⟨_,rfl,rfl,_,rfl,iteFb (dne n2) ⟨_,rfl,rfl,_,rfl,iteFb (dne n3) ?_⟩⟩
   refine ⟨_,rfl,Sum.inr _,rfl,_,rfl,iteFb (by rw [k1,n6]; rfl) ?_⟩
   refine ⟨_,rfl,rfl,_,rfl,iteFb (dne n4) ⟨_,rfl,a,_,_,_,rfl,rfl,SqT.of ha,rfl,v2,_,a0,rfl,p2,wc.2.2.1,wc.1,by omega,by omega,fun H1 s1=>⟨_,rfl,a,_,_,_,rfl,rfl,SqT.of (s1 _ _ ha),rfl,v3,_,b0,rfl,p3.same s1,wc.2.2.2,wc.2.1,by omega,by omega,fun H2 s2=>?_⟩⟩⟩
   exact ⟨_,rfl,rfl,_,rfl,iteFb (dne n5) ⟨_,rfl,.inl ⟨_,rfl,Nat.le_trans (show _≤40000 by omega) (by decide),_,rfl,Nat.le_trans (show _≤40000 by omega) (by decide),_,rfl,by decide +kernel,_,rfl,.inl ⟨_,rfl,Nat.le_trans (show _≤40000 by omega) (by decide),_,rfl,Nat.le_trans (show _≤40000 by omega) (by decide),_,rfl,by decide +kernel,_,rfl,.inl ⟨_,rfl,Nat.le_trans (show _≤40000 by omega) (by decide),_,rfl,Nat.le_trans (show _≤40000 by omega) (by decide),_,rfl,by decide +kernel,q H2 (s1.trans s2)⟩⟩⟩⟩⟩
  | cost _ _ _=>exact absurd ht (by show decide (("cost" : Str) ∈ termWs) ≠ true; decide +kernel)
  | atm _ _=>exact absurd ht (by show decide (("atmost" : Str) ∈ termWs) ≠ true; decide +kernel)
  | neg _=>exact absurd ht (by show decide (("not" : Str) ∈ termWs) ≠ true; decide +kernel)
  | bin x _ _ =>
   refine absurd ht ?_
   show decide (x ∈ termWs) ≠ true
   rcases wc.1 with rfl | rfl <;> decide +kernel
  | ov x _ _ _ =>
   refine absurd ht ?_
   show decide (x ∈ termWs) ≠ true
   rcases wc.1 with rfl | rfl <;> decide +kernel
end
end Net
namespace Net
open PySem L2 L2.Tx
section
variable {P:Program} {w:World} {K:PySem.W.Frag} {mg:Str→Option Value} {base:Heap} {C ct:Addr} {n L:Nat}
theorem sc_shC:FnScope ["claim","word","first","second","variable","kind","within"] ["claim"] (defScope s_show_claim):=⟨rfl,rfl,rfl,by decide +kernel,rfl,by decide +kernel,by decide +kernel⟩
theorem ok_shC0 {f:Addr} {fd:FuncData} (F:Fun K "show_claim" "show_claim" s_show_claim f fd):FnOk P w K mg base CX0 (L + 1) f fd ["claim"] (spShC 0):=by
 refine F.ok sc_shC (fun vs H Q E h=>?_) (fun cdv A outer s H vs Q E hr h=>?_)
 ·obtain ⟨v,k,c,rfl,_⟩:=h
  rfl
 ·obtain ⟨v,k,c,rfl,_,_,_,hd,_⟩:=h
  have:=dep_pos c
  omega
theorem ok_shC {f:Addr} {fd:FuncData} (F:Fun K "show_claim" "show_claim" s_show_claim f fd) (T:Txt K mg) (W:Wrd P w K mg C) (hL:1≤L) (cs:Can P w K mg base 1 "show_set" ["kind"] spShS) (ct:Can P w K mg base L "show_term" ["term"] (spShT n)) (cc:Can P w K mg base L "show_claim" ["claim"] (spShC n)):FnOk P w K mg base CX0 (L + 1) f fd ["claim"] (spShC (n + 1)):=by
 obtain ⟨da,vs0,mn,kd,k1,k2⟩:=W.nbD
 refine F.ok sc_shC (fun vs H Q E h=>?_) (fun cdv A outer s H vs Q E hr h=>?_)
 ·obtain ⟨v,k,c,rfl,_⟩:=h
  rfl
 ·obtain ⟨v,k,c,rfl,pd,wc,ht,hd,hl,q⟩:=h
  have r1:Room 1 _:=hr.mono (by omega)
  refine ⟨_,(pss_cons (ps_set (i:=1) sc_shC.nd rfl (Or.inl rfl) (pe_ix ix_tup (pv 0) pe_int (fun _ _=>by rfl)))
   (pss_cons (ps_if (pt_cmp (pc_kin (by rfl) mn kd (pv 1))) (pss_one (ps_ret (pe_bm PySem.F.plainAttrs_str PySem.F.slot_str_join PySem.F.type_str_join mt_joinT pe_str (pa_cons (pv 0) pa_nil)))) pss_nil)
   (pss_cons (ps_if (pt_cmpR op_eq (pv 1) pe_str (nomark _)) (pss_one (ps_ret (pe_op op_add_str (pe_op op_add_str (pe_bm PySem.F.plainAttrs_str PySem.F.slot_str_join PySem.F.type_str_join mt_joinT pe_str (pa_cons (pe_slice sl_tup (pv 0) po_none (po_some pe_int)) pa_nil)) pe_str) (pe_callTy call_str_int (by rfl) T.str b_str (pa_cons (pe_ix ix_tup (pv 0) pe_int (fun _ _=>by rfl)) pa_nil))))) pss_nil)
   (pss_cons (ps_if (pt_cmpR op_eq (pv 1) pe_str (nomark _)) (pss_one (ps_ret (pe_op op_add_str (pe_op op_add_str (pe_callC ct hr (by rfl) (pa_cons (pe_ix ix_tup (pv 0) pe_int (fun _ _=>by rfl)) pa_nil)) pe_str) (pe_callC ct hr (by rfl) (pa_cons (pe_ix ix_tup (pv 0) pe_int (fun _ _=>by rfl)) pa_nil))))) pss_nil)
   (pss_cons (ps_if (pt_cmpR op_eq (pv 1) pe_str (nomark _)) (pss_one (ps_ret (pe_op op_add_str pe_str (pe_callC cc hr (by rfl) (pa_cons (pe_ix ix_tup (pv 0) pe_int (fun _ _=>by rfl)) pa_nil))))) pss_nil)
   (pss_cons (ps_if (PW.pt (pw_or (pt_cmpR op_eq (pv 1) pe_str (nomark _)) (pw_or1 (pt_cmpR op_eq (pv 1) pe_str (nomark _))))) (pss_cons (ps_set (i:=2) sc_shC.nd rfl (Or.inl rfl) (pe_callC cc hr (by rfl) (pa_cons (pe_ix ix_tup (pv 0) pe_int (fun _ _=>by rfl)) pa_nil)))
   (pss_cons (ps_set (i:=3) sc_shC.nd rfl (Or.inl rfl) (pe_callC cc hr (by rfl) (pa_cons (pe_ix ix_tup (pv 0) pe_int (fun _ _=>by rfl)) pa_nil)))
   (pss_one (ps_ret (pe_join (pj_cons pe_str (pj_cons (pe_fmt (pv 2)) (pj_cons pe_str (pj_cons (pe_fmt (pv 1)) (pj_cons pe_str (pj_cons (pe_fmt (pv 3)) (pj_cons pe_str pj_nil))))))) (by decide)))))) pss_nil)
   (pss_cons (ps_set (i:=4) sc_shC.nd rfl (Or.inl rfl) (pe_ix ix_tup (pv 0) pe_int (fun _ _=>by rfl)))
   (pss_cons (ps_set (i:=5) sc_shC.nd rfl (Or.inl rfl) (pe_callC cs r1 (by rfl) (pa_cons (pe_ix ix_tup (pv 0) pe_int (fun _ _=>by rfl)) pa_nil)))
   (pss_cons (ps_set (i:=6) sc_shC.nd rfl (Or.inl rfl) (pe_callC cc hr (by rfl) (pa_cons (pe_ix ix_tup (pv 0) pe_int (fun _ _=>by rfl)) pa_nil)))
   (pss_one (ps_ret (pe_join (pj_cons (pe_fmt (pv 1)) (pj_cons pe_str (pj_cons (pe_fmt (pv 4)) (pj_cons pe_str (pj_cons (pe_fmt (pv 5)) (pj_cons pe_str (pj_cons (pe_fmt (pv 6)) pj_nil))))))) (by decide))))))))))))),?_⟩
  cases c with
  | nm x ns =>
   obtain ⟨m,a,xs,rfl,rfl,ha,pr⟩:=pd.tup_of
   have ex:=pair_strs (ns:=x :: ns) pr
   subst ex
   have h0:nb x=some ns.length:=wc.1
   have hw:=join_w (by rw [l_sp]; decide) (by rw [l_sp]; decide) (show (Str.join " " (x :: ns)).length≤40000 from hl)
   refine ⟨_,rfl,a,_,_,_,rfl,rfl,SqT.of ha,atI_nat (j:=0) rfl,?_⟩
   exact ⟨_,rfl,Sum.inr x,rfl,_,rfl,iteTb (by rw [k1,h0]; rfl) ⟨rfl,_,rfl,_,a,x :: ns,rfl,rfl,SqT.of ha,by decide +kernel,Nat.le_trans hw (by decide),q H (Same.refl _)⟩⟩
  | cost x y i =>
   obtain ⟨m,a,xs,rfl,rfl,ha,pr⟩:=pd.tup_of
   obtain ⟨v1,v2,v3,v4,rfl,p1,p2,p3,p4⟩:=pair4 pr
   rw [p1.str_is,p2.str_is,p3.str_is,p4.int_of] at ha
   have l4:(" <= " : Str).length=4:=by decide +kernel
   have hl':(Str.join " " ["cost",x,y]).length + 4 + (numT i).length≤40000:=by
    have:(tx (.cost x y i)).length=(Str.join " " ["cost",x,y]).length + (" <= " : Str).length + (numT i).length:=by
     show ((Str.join " " ["cost",x,y]++(" <= " : Str))++numT i).length=_
     rw [str_len_app,str_len_app]
    omega
   have hw:=join_w (z := " ") (l:=["cost",x,y]) (n:=40000) (by rw [l_sp]; decide) (by rw [l_sp]; decide) (by omega)
   refine ⟨_,rfl,a,_,_,_,rfl,rfl,SqT.of ha,rfl,?_⟩
   refine ⟨_,rfl,Sum.inr _,rfl,_,rfl,iteFb (by rw [k1]; decide +kernel) ?_⟩
   refine ⟨_,rfl,rfl,_,rfl,iteTb (deq rfl) ⟨rfl,_,rfl,_,rfl,a,_,rfl,SqT.of ha,by show ¬ (HT.sIx 4 0 none=0∧HT.sIx 4 4 (some 3)=4); decide,fun p hp=>?_⟩⟩
   have s1:Same H (upd H p (.tup [.str "cost",.str x,.str y])):=Same.new hp
   refine ⟨_,p,["cost",x,y],rfl,rfl,SqT.of upd_same,by decide +kernel,Nat.le_trans hw (by decide),_,_,rfl,rfl,Nat.le_trans (show _ + (" <= " : Str).length≤40000 by omega) (by decide),_,rfl,a,_,_,_,rfl,rfl,SqT.of (s1 _ _ ha),rfl,i,rfl,num_log8 wc.2.2,_,_,rfl,rfl,?_,q _ s1⟩
   rw [str_len_app]
   exact Nat.le_trans (show (Str.join " " ["cost",x,y]).length + (" <= " : Str).length + (numT i).length≤40000 by omega) (by decide)
  | atm a0 b0 =>
   obtain ⟨m,a,xs,rfl,rfl,ha,pr⟩:=pd.tup_of
   obtain ⟨v1,v2,v3,rfl,p1,p2,p3⟩:=pair3 pr
   rw [p1.str_is] at ha
   have l4:(" <= " : Str).length=4:=by decide +kernel
   have hl':(tx a0).length + 4 + (tx b0).length≤40000:=by
    have:(tx (.atm a0 b0)).length=(tx a0).length + (" <= " : Str).length + (tx b0).length:=by
     show ((tx a0++(" <= " : Str))++tx b0).length=_
     rw [str_len_app,str_len_app]
    omega
   have hd':1 + max (dep a0) (dep b0)≤n + 1:=hd
   refine ⟨_,rfl,a,_,_,_,rfl,rfl,SqT.of ha,rfl,?_⟩
   refine ⟨_,rfl,Sum.inr _,rfl,_,rfl,iteFb (by rw [k1]; decide +kernel) ?_⟩
   refine ⟨_,rfl,rfl,_,rfl,iteFb (dne (by decide +kernel)) ?_⟩
   refine ⟨_,rfl,rfl,_,rfl,iteTb (deq rfl) ⟨_,rfl,a,_,_,_,rfl,rfl,SqT.of ha,rfl,v2,_,a0,rfl,p2,wc.2.2.1,wc.1,by omega,by omega,fun H1 s1=>⟨_,_,rfl,rfl,Nat.le_trans (show _ + (" <= " : Str).length≤40000 by omega) (by decide),_,rfl,a,_,_,_,rfl,rfl,SqT.of (s1 _ _ ha),rfl,v3,_,b0,rfl,p3.same s1,wc.2.2.2,wc.2.1,by omega,by omega,fun H2 s2=>⟨_,_,rfl,rfl,?_,q H2 (s1.trans s2)⟩⟩⟩⟩
   rw [str_len_app]
   exact Nat.le_trans (show (tx a0).length + (" <= " : Str).length + (tx b0).length≤40000 by omega) (by decide)
  | neg a0 =>
   obtain ⟨m,a,xs,rfl,rfl,ha,pr⟩:=pd.tup_of
   obtain ⟨v1,v2,rfl,p1,p2⟩:=pair2 pr
   rw [p1.str_is] at ha
   have l4:("not " : Str).length=4:=by decide +kernel
   have hl':4 + (tx a0).length≤40000:=by
    have:(tx (.neg a0)).length=("not " : Str).length + (tx a0).length:=str_len_app _ _
    omega
   have hd':1 + dep a0≤n + 1:=hd
   refine ⟨_,rfl,a,_,_,_,rfl,rfl,SqT.of ha,rfl,?_⟩
   refine ⟨_,rfl,Sum.inr _,rfl,_,rfl,iteFb (by rw [k1]; decide +kernel) ?_⟩
   refine ⟨_,rfl,rfl,_,rfl,iteFb (dne (by decide +kernel)) ⟨_,rfl,rfl,_,rfl,iteFb (dne (by decide +kernel)) ?_⟩⟩
   exact ⟨_,rfl,rfl,_,rfl,iteTb (deq rfl) ⟨_,rfl,a,_,_,_,rfl,rfl,SqT.of ha,rfl,v2,_,a0,rfl,p2,wc.2,wc.1,by omega,by omega,fun H1 s1=>⟨_,_,rfl,rfl,Nat.le_trans (show ("not " : Str).length + _≤40000 by omega) (by decide),q H1 s1⟩⟩⟩
  | bin x a0 b0 =>
   obtain ⟨m,a,xs,rfl,rfl,ha,pr⟩:=pd.tup_of
   obtain ⟨v1,v2,v3,rfl,p1,p2,p3⟩:=pair3 pr
   rw [p1.str_is] at ha
   obtain ⟨hx,wc⟩:=wc
   have hl':x.length + ((tx a0).length + (tx b0).length)≤40000:=by
    have:(tx (.bin x a0 b0)).length=("(" : Str).length + ((tx a0).length + ((" " : Str).length + (x.length + ((" " : Str).length + ((tx b0).length + ((")" : Str).length + Str.empty.length)))))):=by
     show (("(" : Str)++(tx a0++((" " : Str)++(x++((" " : Str)++(tx b0++((")" : Str)++Str.empty))))))).length=_
     rw [str_len_app,str_len_app,str_len_app,str_len_app,str_len_app,str_len_app,str_len_app]
    omega
   have hd':1 + max (dep a0) (dep b0)≤n + 1:=hd
   have n1:x ≠ "cost" := by rcases hx with rfl | rfl <;> decide +kernel
   have n2:x ≠ "atmost" := by rcases hx with rfl | rfl <;> decide +kernel
   have n3:x ≠ "not" := by rcases hx with rfl | rfl <;> decide +kernel
   have n6:nb x=none:=by rcases hx with rfl | rfl <;> decide +kernel
   refine ⟨_,rfl,a,_,_,_,rfl,rfl,SqT.of ha,rfl,?_⟩
   refine ⟨_,rfl,Sum.inr _,rfl,_,rfl,iteFb (by rw [k1,n6]; rfl) ?_⟩
   refine ⟨_,rfl,rfl,_,rfl,iteFb (dne n1) ⟨_,rfl,rfl,_,rfl,iteFb (dne n2) ⟨_,rfl,rfl,_,rfl,iteFb (dne n3) ?_⟩⟩⟩
   refine ⟨_,rfl,rfl,_,rfl,ite2 (fun h=>iteT ?_) (fun h=>⟨_,rfl,rfl,_,rfl,iteTb (deq (hx.resolve_left (deq_f h))) ?_⟩)⟩
   all_goals refine ⟨_,rfl,a,_,_,_,rfl,rfl,SqT.of ha,rfl,v2,_,a0,rfl,p2,wc.2.2.1,wc.1,by omega,by omega,fun H1 s1=>⟨_,rfl,a,_,_,_,rfl,rfl,SqT.of (s1 _ _ ha),rfl,v3,_,b0,rfl,p3.same s1,wc.2.2.2,wc.2.1,by omega,by omega,fun H2 s2=>?_⟩⟩
   all_goals exact ⟨_,rfl,by decide +kernel,_,rfl,.inl ⟨_,rfl,Nat.le_trans (show _≤40000 by omega) (by decide),_,rfl,Nat.le_trans (show _≤40000 by omega) (by decide),_,rfl,by decide +kernel,_,rfl,.inl ⟨_,rfl,Nat.le_trans (show _≤40000 by omega) (by decide),_,rfl,Nat.le_trans (show _≤40000 by omega) (by decide),_,rfl,by decide +kernel,_,rfl,.inl ⟨_,rfl,Nat.le_trans (show _≤40000 by omega) (by decide),_,rfl,Nat.le_trans (show _≤40000 by omega) (by decide),_,rfl,by decide +kernel,q H2 (s1.trans s2)⟩⟩⟩⟩
  | ov x y k a0 =>
   obtain ⟨m,a,xs,rfl,rfl,ha,pr⟩:=pd.tup_of
   obtain ⟨v1,v2,v3,v4,rfl,p1,p2,p3,p4⟩:=pair4 pr
   rw [p1.str_is,p2.str_is] at ha
   obtain ⟨hx,hy,wk,wc⟩:=wc
   have hl':x.length + (y.length + ((txK k).length + (tx a0).length))≤40000:=by
    have:(tx (.ov x y k a0)).length=x.length + ((" " : Str).length + (y.length + ((" in " : Str).length + ((txK k).length + ((": " : Str).length + ((tx a0).length + Str.empty.length)))))):=by
     show (x++((" " : Str)++(y++((" in " : Str)++(txK k++((": " : Str)++(tx a0++Str.empty))))))).length=_
     rw [str_len_app,str_len_app,str_len_app,str_len_app,str_len_app,str_len_app,str_len_app]
    omega
   have hd':1 + dep a0≤n + 1:=hd
   have n1:x ≠ "cost" := by rcases hx with rfl | rfl <;> decide +kernel
   have n2:x ≠ "atmost" := by rcases hx with rfl | rfl <;> decide +kernel
   have n3:x ≠ "not" := by rcases hx with rfl | rfl <;> decide +kernel
   have n4:x ≠ "and" := by rcases hx with rfl | rfl <;> decide +kernel
   have n5:x ≠ "or" := by rcases hx with rfl | rfl <;> decide +kernel
   have n6:nb x=none:=by rcases hx with rfl | rfl <;> decide +kernel
   refine ⟨_,rfl,a,_,_,_,rfl,rfl,SqT.of ha,rfl,?_⟩
   refine ⟨_,rfl,Sum.inr _,rfl,_,rfl,iteFb (by rw [k1,n6]; rfl) ?_⟩
   refine ⟨_,rfl,rfl,_,rfl,iteFb (dne n1) ⟨_,rfl,rfl,_,rfl,iteFb (dne n2) ⟨_,rfl,rfl,_,rfl,iteFb (dne n3) ?_⟩⟩⟩
   refine ⟨_,rfl,rfl,_,rfl,iteFb (dne n4) ⟨_,rfl,rfl,_,rfl,iteFb (dne n5) ?_⟩⟩
   refine ⟨_,rfl,a,_,_,_,rfl,rfl,SqT.of ha,rfl,?_⟩
   refine ⟨_,rfl,a,_,_,_,rfl,rfl,SqT.of ha,rfl,v3,_,k,rfl,p3,wk,by omega,?_⟩
   refine ⟨_,rfl,a,_,_,_,rfl,rfl,SqT.of ha,rfl,v4,_,a0,rfl,p4,wc.2,wc.1,by omega,by omega,fun H2 s2=>?_⟩
   exact ⟨_,rfl,.inl ⟨_,rfl,Nat.le_trans (show _≤40000 by omega) (by decide),_,rfl,Nat.le_trans (show _≤40000 by omega) (by decide),_,rfl,by decide +kernel,_,rfl,.inl ⟨_,rfl,Nat.le_trans (show _≤40000 by omega) (by decide),_,rfl,Nat.le_trans (show _≤40000 by omega) (by decide),_,rfl,by decide +kernel,_,rfl,.inl ⟨_,rfl,Nat.le_trans (show _≤40000 by omega) (by decide),_,rfl,Nat.le_trans (show _≤40000 by omega) (by decide),_,rfl,by decide +kernel,_,rfl,.inl ⟨_,rfl,Nat.le_trans (show _≤40000 by omega) (by decide),_,rfl,Nat.le_trans (show _≤40000 by omega) (by decide),q H2 s2⟩⟩⟩⟩⟩
  | num _=>exact absurd ht (by show decide (("number" : Str) ∈ termWs) ≠ false; decide +kernel)
  | size _=>exact absurd ht (by show decide (("size" : Str) ∈ termWs) ≠ false; decide +kernel)
  | pairs _ _=>exact absurd ht (by show decide (("pairs" : Str) ∈ termWs) ≠ false; decide +kernel)
  | plus _ _=>exact absurd ht (by show decide (("plus" : Str) ∈ termWs) ≠ false; decide +kernel)
  | tim _ _=>exact absurd ht (by show decide (("times" : Str) ∈ termWs) ≠ false; decide +kernel)
  | two x _ _ =>
   refine absurd ht ?_
   show decide (x ∈ termWs) ≠ false
   rcases wc.1 with rfl | rfl <;> decide +kernel
end
end Net
namespace Net
open PySem L2 L2.Tx
inductive Pt where
 | s (x:Str)
 | i (n:Int)
 | k (s:Ks)
 | c (c:Cl)
def Pt.d:Pt→PyData
 | .s x=>.str x
 | .i z=>.int z
 | .k z=>datK z
 | .c z=>dat z
def pts:Cl→List Pt
 | .nm _ ns=>ns.map Pt.s
 | .cost a b n=>[.s a,.s b,.i n]
 | .num n=>[.i n]
 | .size s=>[.k s]
 | .pairs s t=>[.k s,.k t]
 | .atm a b=>[.c a,.c b]
 | .neg a=>[.c a]
 | .bin _ a b=>[.c a,.c b]
 | .plus a b=>[.c a,.c b]
 | .two _ a b=>[.c a,.c b]
 | .ov _ v s a=>[.s v,.k s,.c a]
 | .tim n a=>[.i n,.c a]
theorem dat_pts (c:Cl):dat c=.tuple (.str (hw c) :: (pts c).map Pt.d):=by
 cases c with
 | nm w ns =>
  show PyData.tuple (.str w :: ns.map .str)=.tuple (.str w :: (ns.map Pt.s).map Pt.d)
  rw [List.map_map]
  rfl
 | _=>rfl
def subL:List Pt→List Cl
 | []=>[]
 | .c c :: r=>c :: subL r
 | _ :: r=>subL r
theorem subL_app:∀ (l m:List Pt),subL (l++m)=subL l++subL m
 | [],m=>rfl
 | p :: l,m=>by
  have ih:=subL_app l m
  cases p <;> first | exact ih | (show _ :: subL (l++m)=_; rw [ih]; rfl)
theorem subL_s:∀ ns:List Str,subL (ns.map Pt.s)=[]
 | []=>rfl
 | _ :: r=>subL_s r
def mxL:List Nat→Nat
 | []=>0
 | n :: r=>max n (mxL r)
theorem mxL_le {l:List Nat} {n:Nat} (h:n ∈ l):n≤mxL l:=by
 induction l with
 | nil=>cases h
 | cons m r ih =>
  show n≤max m (mxL r)
  rcases List.mem_cons.mp h with rfl | h
  ·omega
  ·have:=ih h
   omega
theorem mxL_mem {l:List Nat} (h:l ≠ []):mxL l ∈ l:=by
 induction l with
 | nil=>exact absurd rfl h
 | cons m r ih =>
  show max m (mxL r) ∈ m :: r
  by_cases hr:r=[]
  ·rw [hr]
   show max m 0 ∈ _
   rw [Nat.max_eq_left (Nat.zero_le _)]
   exact List.mem_cons_self
  ·have:=ih hr
   by_cases hm:m≤mxL r
   ·rw [Nat.max_eq_right hm]
    exact List.mem_cons_of_mem _ this
   ·rw [Nat.max_eq_left (by omega)]
    exact List.mem_cons_self
theorem dep_sub (c:Cl):dep c=1 + mxL ((subL (pts c)).map dep):=by
 cases c with
 | nm w ns =>
  show 1=1 + mxL ((subL (ns.map Pt.s)).map dep)
  rw [subL_s]
  rfl
 | atm a b=>show 1 + max (dep a) (dep b)=1 + max (dep a) (max (dep b) 0); omega
 | neg a=>show 1 + dep a=1 + max (dep a) 0; omega
 | bin _ a b=>show 1 + max (dep a) (dep b)=1 + max (dep a) (max (dep b) 0); omega
 | plus a b=>show 1 + max (dep a) (dep b)=1 + max (dep a) (max (dep b) 0); omega
 | two _ a b=>show 1 + max (dep a) (dep b)=1 + max (dep a) (max (dep b) 0); omega
 | ov _ _ _ a=>show 1 + dep a=1 + max (dep a) 0; omega
 | tim _ a=>show 1 + dep a=1 + max (dep a) 0; omega
 | _=>rfl
def ptOk:Pt→Prop
 | .c c=>wf c
 | .k s=>wfK s
 | _=>True
theorem pts_ok {c:Cl} (h:wf c):∀ p ∈ pts c,ptOk p:=by
 cases c with
 | nm w ns =>
  intro p hp
  obtain ⟨x,_,rfl⟩:=List.mem_map.mp hp
  trivial
 | cost a b n =>
  intro p hp
  simp only [pts,List.mem_cons,List.not_mem_nil,or_false] at hp
  rcases hp with rfl | rfl | rfl <;> trivial
 | num n =>
  intro p hp
  simp only [pts,List.mem_cons,List.not_mem_nil,or_false] at hp
  rw [hp]; trivial
 | size s =>
  intro p hp
  simp only [pts,List.mem_cons,List.not_mem_nil,or_false] at hp
  rw [hp]; exact h
 | pairs s t =>
  intro p hp
  simp only [pts,List.mem_cons,List.not_mem_nil,or_false] at hp
  rcases hp with rfl | rfl
  ·exact h.1
  ·exact h.2
 | atm a b =>
  intro p hp
  simp only [pts,List.mem_cons,List.not_mem_nil,or_false] at hp
  rcases hp with rfl | rfl
  ·exact h.2.2.1
  ·exact h.2.2.2
 | neg a =>
  intro p hp
  simp only [pts,List.mem_cons,List.not_mem_nil,or_false] at hp
  rw [hp]; exact h.2
 | bin _ a b =>
  intro p hp
  simp only [pts,List.mem_cons,List.not_mem_nil,or_false] at hp
  rcases hp with rfl | rfl
  ·exact h.2.2.2.1
  ·exact h.2.2.2.2
 | plus a b =>
  intro p hp
  simp only [pts,List.mem_cons,List.not_mem_nil,or_false] at hp
  rcases hp with rfl | rfl
  ·exact h.2.2.1
  ·exact h.2.2.2
 | two _ a b =>
  intro p hp
  simp only [pts,List.mem_cons,List.not_mem_nil,or_false] at hp
  rcases hp with rfl | rfl
  ·exact h.2.2.2.1
  ·exact h.2.2.2.2
 | ov _ v s a =>
  intro p hp
  simp only [pts,List.mem_cons,List.not_mem_nil,or_false] at hp
  rcases hp with rfl | rfl | rfl
  ·trivial
  ·exact h.2.2.1
  ·exact h.2.2.2.2
 | tim n a =>
  intro p hp
  simp only [pts,List.mem_cons,List.not_mem_nil,or_false] at hp
  rcases hp with rfl | rfl
  ·trivial
  ·exact h.2.2.2
theorem pts_len (c:Cl) (h:wf c):(pts c).length≤3:=by
 cases c with
 | nm w ns =>
  show (ns.map Pt.s).length≤3
  rw [List.length_map]
  have:=h.1
  unfold nb at this
  repeat' split at this
  all_goals first | (cases this; done) | (injection this with this; omega)
 | _=>first | (show 0≤3; decide) | (show 1≤3; decide) | (show 2≤3; decide) | (show 3≤3; decide)
theorem nb_set {w:Str} {n:Nat} (h:nb w=some n):w ∉ setWs:=fun z=>by
 simp only [setWs,List.mem_cons,List.not_mem_nil,or_false] at z
 rcases z with z | z | z | z
 ·exact nb_ne h (by decide +kernel) z
 ·exact nb_ne h (by decide +kernel) z
 ·exact nb_ne h (by decide +kernel) z
 ·exact nb_ne h (by decide +kernel) z
theorem hw_set {c:Cl} (h:wf c):hw c ∉ setWs:=by
 cases c with
 | nm w ns=>exact nb_set h.1
 | bin w a b=>show w ∉ setWs; rcases h.1 with rfl | rfl <;> decide +kernel
 | two w a b=>show w ∉ setWs; rcases h.1 with rfl | rfl <;> decide +kernel
 | ov w v s a=>show w ∉ setWs; rcases h.1 with rfl | rfl <;> decide +kernel
 | cost _ _ _=>show ("cost" : Str) ∉ setWs; decide +kernel
 | num _=>show ("number" : Str) ∉ setWs; decide +kernel
 | size _=>show ("size" : Str) ∉ setWs; decide +kernel
 | pairs _ _=>show ("pairs" : Str) ∉ setWs; decide +kernel
 | atm _ _=>show ("atmost" : Str) ∉ setWs; decide +kernel
 | neg _=>show ("not" : Str) ∉ setWs; decide +kernel
 | plus _ _=>show ("plus" : Str) ∉ setWs; decide +kernel
 | tim _ _=>show ("times" : Str) ∉ setWs; decide +kernel
theorem datK_first {H:Hp} {n:Nat} {v:V} {s:Ks} (hs:wfK s) (h:PD H n v (datK s)):∃ a x xs,v=.ref a∧H a=some (.tup (.str x :: xs))∧x ∈ setWs:=by
 have key:∃ x ds,datK s=.tuple (.str x :: ds)∧x ∈ setWs:=by
  cases s with
  | all=>exact ⟨_,_,rfl,by decide +kernel⟩
  | of w n=>exact ⟨w,_,rfl,by rcases hs.1 with rfl | rfl <;> decide +kernel⟩
  | these ns=>exact ⟨_,_,rfl,by decide +kernel⟩
 obtain ⟨x,ds,e,hx⟩:=key
 rw [e] at h
 obtain ⟨m,a,xs,rfl,rfl,ha,pr⟩:=h.tup_of
 cases pr with
 | @cons y _ xs' _ p t=>exact ⟨a,x,xs',rfl,by rw [ha,p.str_is],hx⟩
theorem k_s_t (K:PySem.W.Frag):PySem.W.kitOne K (.type "str") (.type "tuple")=some false:=by first | rfl | kernel_rfl
theorem k_i_t (K:PySem.W.Frag):PySem.W.kitOne K (.type "int") (.type "tuple")=some false:=by first | rfl | kernel_rfl
def spDep (n:Nat):Sp:=fun vs H Q _=>∃ (v:V) (k:Nat) (c:Cl),vs=[v]∧PD H k v (dat c)∧wf c∧dep c≤n∧∀ H',Same H H'→Q (.int (dep c:Int)) H'
theorem sIx_one (k:Nat):HT.sIx (k + 1) 0 (some 1)=1:=by
 have:=HT.sIx_nat (k + 1) 0 1
 rw [show ((1:Nat):Int)=1 from rfl] at this
 rw [this]
 omega
theorem cut_tail (y:V) (xs:List V):cutV (y :: xs) (some 1) none=xs:=by
 unfold cutV
 rw [List.length_cons,sIx_one,HT.sIx_none]
 show (xs.take (xs.length + 1 - 1))=xs
 rw [List.take_of_length_le (by omega)]
theorem cut_not (y:V) (xs:List V):¬ (HT.sIx (y :: xs).length 0 (some 1)=0∧HT.sIx (y :: xs).length (y :: xs).length none=(y :: xs).length):=fun z=>by
 rw [List.length_cons,sIx_one] at z
 exact absurd z.1 (by decide)
def SubAt (H:Hp) (m:Nat) (v:V) (c:Cl):Prop:=PD H m v (dat c)
section
variable {P:Program} {w:World} {K:PySem.W.Frag} {mg:Str→Option Value} {base:Heap} {C ct:Addr} {n:Nat}
theorem sc_dep:FnScope ["whole","within"] ["whole"] (defScope s_depth_of):=⟨rfl,rfl,rfl,by decide +kernel,rfl,by decide +kernel,by decide +kernel⟩
theorem ok_dep0 {f:Addr} {fd:FuncData} (F:Fun K "depth_of" "depth_of" s_depth_of f fd):FnOk P w K mg base CX0 1 f fd ["whole"] (spDep 0):=by
 refine F.ok sc_dep (fun vs H Q E h=>?_) (fun cdv A outer s H vs Q E hr h=>?_)
 ·obtain ⟨v,k,c,rfl,_⟩:=h
  rfl
 ·obtain ⟨v,k,c,rfl,_,_,hd,_⟩:=h
  have:=dep_pos c
  omega
theorem ok_dep {f:Addr} {fd:FuncData} (F:Fun K "depth_of" "depth_of" s_depth_of f fd) (T:Txt K mg) (W:Wrd P w K mg C) (cd:Can P w K mg base (n + 1) "depth_of" ["whole"] (spDep n)):FnOk P w K mg base CX0 (n + 2) f fd ["whole"] (spDep (n + 1)):=by
 have nd_0:List.Nodup (["part"]:List Str):=by decide +kernel
 obtain ⟨sw,msw,sq⟩:=W.setW
 refine F.ok sc_dep (fun vs H Q E h=>?_) (fun cdv A outer s H vs Q E hr h=>?_)
 ·obtain ⟨v,k,c,rfl,_⟩:=h
  rfl
 ·obtain ⟨v,k,c,rfl,pd,wc,hd,q⟩:=h
  refine ⟨_,(pss_cons (ps_comp (j:=1) (N:=["part"]) (xs:=1) (js:=[]) rfl sc_dep.nd rfl rfl (compScope_of rfl) (pi_tup (pe_slice sl_tup (pv 0) (po_some pe_int) po_none)) (fun _ _ _ _=>pg_name (i:=0) nd_0 rfl (Or.inl rfl)) (fun _ _ _ _=>pts_one (PW.pt (pw_and (pt_val (pe_callB (call_isinstK K (by rfl)) (by rfl) T.isi b_isi (pa_cons (pv 0) (pa_cons (pe_ty T.tuple (by rfl) b_tuple) pa_nil)))) (pw_and1 (pt_cmpR (op_notInK K (by rfl)) (pe_ix (ix_tupK K (by rfl)) (pv 0) pe_int (fun _ _=>by rfl)) (pe_globC (v:=.ref sw) ⟨_,msw,rfl⟩ (by rfl)) (by with_unfolding_all rfl)))))) (fun _ _ _ _=>pv 0) rfl)
   (pss_one (ps_ret (pe_op op_add pe_int (pe_maxD rfl (by rfl) T.max b_max (pa_cons (pe_comp (N:=["part"]) (xs:=1) (js:=[]) rfl (compScope_of rfl) (pi_list (pv 1)) (fun _ _ _ _=>pg_name (i:=0) nd_0 rfl (Or.inl rfl)) (fun _ _ _ _=>pts_nil) (fun _ _ _ _=>pe_callC cd hr (by rfl) (pa_cons (pv 0) pa_nil))) pa_nil)))))),?_⟩
  rw [dat_pts] at pd
  obtain ⟨m,a,xs0,rfl,rfl,ha,pr0⟩:=pd.tup_of
  cases pr0 with
  | @cons y _ xs _ p1 pr =>
   have hxl:xs.length=(pts c).length:=by
    have:=Paired.length pr
    rw [List.length_map] at this
    exact this
   have h3:=pts_len c wc
   have okp:=pts_ok wc
   have eqd:=dep_sub c
   have sub_le:∀ c' ∈ subL (pts c),dep c'≤n:=fun c' hc'=>by
    have:=mxL_le (List.mem_map_of_mem (f:=dep) hc')
    omega
   have sub_wf:∀ c' ∈ subL (pts c),wf c':=by
    have key:∀ l:List Pt,(∀ p ∈ l,ptOk p)→∀ c' ∈ subL l,wf c':=fun l=>by
     induction l with
     | nil=>intro _ c' hc'; cases hc'
     | cons p l ih =>
      intro ok c' hc'
      have ih':=ih fun x hx=>ok x (List.mem_cons_of_mem _ hx)
      cases p <;> first | exact ih' c' hc' | skip
      rename_i c0
      rcases List.mem_cons.mp (show c' ∈ c0 :: subL l from hc') with rfl | h
      ·exact ok _ List.mem_cons_self
      ·exact ih' c' h
    exact key _ okp
   generalize pts c=ps at pr hxl h3 okp eqd sub_le sub_wf
   refine ⟨_,rfl,_,rfl,a,_,rfl,SqT.of ha,cut_not y xs,fun p hp=>?_⟩
   rw [cut_tail]
   have s1:Same H (upd H p (.tup xs)):=Same.new hp
   have g1:(upd H p (.tup xs)) p=some (.tup xs):=upd_same
   generalize upd H p (.tup xs)=H1 at s1 g1
   refine ⟨p,rfl,⟨_,SqT.of g1⟩,comp_tup (K:=K) (ys:=xs) (fun i acc σ' H'=>H'=H1∧Paired (SubAt H1 m) acc (subL (ps.take i))∧acc.length≤i∧∃ o,σ'=[o])
    ⟨rfl,.nil,Nat.le_refl _,none,rfl⟩ (fun i acc σ' H' h=>h.2.2.1) (by rw [hxl]; exact Nat.le_trans h3 (by decide)) (fun i acc σ' H' _ h=>by rw [h.1]; exact SqT.of g1) (fun i x acc σ' H' hx h=>?_) (fun acc σ' H' h l hl=>?_)⟩
   ·obtain ⟨rfl,pa,la,o,rfl⟩:=h
    obtain ⟨d,hd2,pdx⟩:=pair_get pr hx
    rw [List.getElem?_map] at hd2
    cases e:ps[i]? with
    | none=>rw [e] at hd2; cases hd2
    | some z =>
     rw [e] at hd2
     cases hd2
     have tk1:ps.take (i + 1)=ps.take i++[z]:=by rw [List.take_add_one,e]; rfl
     have okz:=okp z (List.mem_of_getElem? e)
     have pz:=pdx.same s1
     cases z with
     | s x0 =>
      have:=pz.str_is
      subst this
      refine ⟨_,rfl,_,"tuple",_,false,rfl,.str x0,k_s_t K,_,rfl,iteF ⟨rfl,?_,by omega,_,rfl⟩⟩
      rw [tk1,subL_app]
      show Paired _ _ (subL (ps.take i)++[])
      rw [List.append_nil]
      exact pa
     | i x0 =>
      have:=pz.int_of
      subst this
      refine ⟨_,rfl,_,"tuple",_,false,rfl,.int x0,k_i_t K,_,rfl,iteF ⟨rfl,?_,by omega,_,rfl⟩⟩
      rw [tk1,subL_app]
      show Paired _ _ (subL (ps.take i)++[])
      rw [List.append_nil]
      exact pa
     | k x0 =>
      obtain ⟨b,x1,xs1,rfl,hb,hm⟩:=datK_first okz pz
      refine ⟨_,rfl,_,"tuple",_,true,rfl,.tup hb,rfl,_,rfl,iteT ⟨_,rfl,b,_,_,V.str x1,rfl,rfl,SqT.of hb,atI_nat (j:=0) rfl,sw,_,rfl,.inr (sq _),rfl,flat_strs _,_,rfl,?_⟩⟩
      refine iteFb (by rw [in_strs,decide_eq_true hm]; rfl) ⟨rfl,?_,by omega,_,rfl⟩
      rw [tk1,subL_app]
      show Paired _ _ (subL (ps.take i)++[])
      rw [List.append_nil]
      exact pa
     | c x0 =>
      obtain ⟨b,xs1,rfl,hb⟩:=dat_first pz
      refine ⟨_,rfl,_,"tuple",_,true,rfl,.tup hb,rfl,_,rfl,iteT ⟨_,rfl,b,_,_,V.str (hw x0),rfl,rfl,SqT.of hb,atI_nat (j:=0) rfl,sw,_,rfl,.inr (sq _),rfl,flat_strs _,_,rfl,?_⟩⟩
      refine iteTb (by rw [in_strs,decide_eq_false (hw_set okz)]; rfl) ⟨_,rfl,rfl,?_,by rw [List.length_append]; show _ + 1≤_; omega,_,rfl⟩
      rw [tk1,subL_app]
      exact Paired.snoc pa pz
   ·obtain ⟨rfl,pa,la,o,rfl⟩:=h
    rw [List.take_of_length_le (by rw [hxl]; exact Nat.le_refl _)] at pa
    generalize hsb:subL ps=sb at pa eqd sub_le sub_wf
    have s2:Same H' (upd H' l (.lst acc)):=Same.new hl
    have g2:(upd H' l (.lst acc)) l=some (.lst acc):=upd_same
    generalize upd H' l (.lst acc)=H2 at s2 g2
    have hal:acc.length=sb.length:=Paired.length pa
    refine ⟨_,rfl,l,rfl,⟨_,SqL.of g2⟩,comp_list (K:=K) (ys:=acc) (fun i ac2 σ' H3=>Same H2 H3∧ac2=((sb.take i).map fun c'=>(dep c':Int)).map V.int∧∃ o,σ'=[o])
     ⟨Same.refl _,rfl,none,rfl⟩ (fun i ac2 σ' H3 h=>?_) (Nat.le_trans la (by rw [hxl]; exact Nat.le_trans h3 (by decide))) (fun i ac2 σ' H3 _ h=>SqL.of (h.1 _ _ g2)) (fun i x ac2 σ' H3 hx h=>?_) (fun ac2 σ' H3 h l3 hl3=>?_)⟩
    ·rw [h.2.1,List.length_map,List.length_map,List.length_take]
     omega
    ·obtain ⟨s3,rfl,o2,rfl⟩:=h
     obtain ⟨c',hc',pc'⟩:=pair_get pa hx
     have hm:=List.mem_of_getElem? hc'
     refine ⟨_,rfl,x,m,c',rfl,PD.same (s2.trans s3) pc',sub_wf c' hm,sub_le c' hm,fun H4 s4=>⟨s3.trans s4,?_,_,rfl⟩⟩
     rw [List.take_add_one,hc',List.map_append,List.map_append]
     rfl
    ·obtain ⟨s3,rfl,o2,rfl⟩:=h
     rw [List.take_of_length_le (by rw [hal]; exact Nat.le_refl _)]
     have s4:Same H3 (upd H3 l3 (.lst ((sb.map fun c'=>(dep c':Int)).map V.int))):=Same.new hl3
     have fin:∀ z:Int,z=((mxL (sb.map dep):Nat):Int)→Q (.int (1 + z)) (upd H3 l3 (.lst ((sb.map fun c'=>(dep c':Int)).map V.int))):=fun z hz=>by
      have:=q _ (s1.trans (s2.trans (s3.trans s4)))
      rw [eqd] at this
      rw [hz]
      have e:((1 + mxL (sb.map dep):Nat):Int)=1 + ((mxL (sb.map dep):Nat):Int):=by omega
      rw [← e]
      exact this
     refine ⟨l3,sb.map fun c'=>(dep c':Int),rfl,SqL.of upd_same,fun z=>⟨_,_,rfl,rfl,fin _ ?_⟩,fun z hz hmx=>⟨_,_,rfl,rfl,fin _ ?_⟩⟩
     ·have:sb=[]:=by simpa using z
      rw [this]
      rfl
     ·obtain ⟨c',hc',rfl⟩:=List.mem_map.mp hz
      have h1:=mxL_le (List.mem_map_of_mem (f:=dep) hc')
      have h2:mxL (sb.map dep) ∈ sb.map dep:=mxL_mem (fun y=>by
       have:sb=[]:=by simpa using y
       rw [this] at hc'
       cases hc')
      obtain ⟨c2,hc2,e2⟩:=List.mem_map.mp h2
      have h4:=hmx (dep c2:Int) (List.mem_map.mpr ⟨c2,hc2,rfl⟩)
      omega
end
end Net
namespace Net
open PySem L2 L2.Tx
def spRefuse (ct:Addr):Sp:=fun vs H Q E=>∃ (v:V) (k:Nat) (c:Cl) (x:Str),vs=[v,.str (tx c),.str x]∧PD H k v (dat c)∧wf c∧dep c≤25∧okX (tx c)∧okX x∧(tx c=x→dep c≤12→∀ H',Same H H'→Q .non H')∧(¬ (tx c=x∧dep c≤12)→∀ H',Same H H'→E (.ref ct) none H')
def spRead (ct:Addr) (rf:Rdr):Sp:=fun vs H Q E=>∃ (x:Str),vs=[.str x]∧okX x∧(∀ c l',rf (wordsC x)=some (c,l')→wf c∧dep c≤25∧okX (tx c)) ∧
 (∀ c l',rf (wordsC x)=some (c,l')→tx c=x→dep c≤12→∀ v H',Same H H'→RelF (fun p=>H p=none) H' v c→Q v H')∧((∀ c l',rf (wordsC x)=some (c,l')→¬ (tx c=x∧dep c≤12))→∀ H',Same H H'→E (.ref ct) none H')
section
variable {P:Program} {w:World} {K:PySem.W.Frag} {mg:Str→Option Value} {base:Heap} {C ct:Addr}
theorem sc_refuse:FnScope ["whole","shown","text"] ["whole","shown","text"] (defScope s_refuse_other_text):=⟨rfl,rfl,rfl,by decide +kernel,rfl,by decide +kernel,by decide +kernel⟩
theorem ok_refuse {f:Addr} {fd:FuncData} (F:Fun K "refuse_other_text" "refuse_other_text" s_refuse_other_text f fd) (T:Txt K mg) (R0:Ecs K mg ct) (cd:Can P w K mg base 26 "depth_of" ["whole"] (spDep 25)):FnOk P w K mg base (CXF P w) 27 f fd ["whole","shown","text"] (spRefuse ct):=by
 refine F.okX sc_refuse (fun vs H Q E h=>?_) (fun cdv A outer s H vs Q E hr Wt h=>?_)
 ·obtain ⟨v,k,c,x,rfl,_⟩:=h
  rfl
 ·obtain ⟨v,k,c,x,rfl,pd,wc,hd,ox,oy,q,qE⟩:=h
  refine ⟨_,(pss_cons (ps_if (pt_cmpR op_ne (pv 1) (pv 2) (nomark _)) (pss_one (ps_raise Wt rfl (by rfl) R0.mt R0.ex PySem.F.excBase_ValueError (pa_cons (pe_join (pj_cons (pe_rep (pv 2)) (pj_cons pe_str (pj_cons (pe_rep (pv 1)) pj_nil))) (by decide)) pa_nil))) pss_nil)
   (pss_one (ps_if (pt_cmpR op_gt (pe_callC cd hr (by rfl) (pa_cons (pv 0) pa_nil)) (pe_globC T.deep (by rfl)) (nomark _)) (pss_one (ps_raise Wt rfl (by rfl) R0.mt R0.ex PySem.F.excBase_ValueError (pa_cons (pe_join (pj_cons pe_str (pj_cons (pe_fmt (pe_globC T.deep (by rfl))) (pj_cons pe_str pj_nil))) (by decide)) pa_nil))) pss_nil))),?_⟩
  refine ⟨_,rfl,_,rfl,rfl,_,rfl,ite2 (fun h=>?_) (fun h=>?_)⟩
  ·exact ⟨_,rfl,.inl ⟨_,rfl,oy.repS,_,rfl,oy.rep,_,rfl,by decide +kernel,_,rfl,.inl ⟨_,rfl,ox.repS,_,rfl,ox.rep,by show 1≤sizeLine; decide,qE (fun z=>dne_t h z.1) _ (Same.refl _)⟩⟩⟩
  ·have h:=dne_f h
   refine ⟨_,rfl,v,k,c,rfl,pd,wc,hd,fun H1 s1=>⟨_,_,rfl,rfl,_,rfl,ite2 (fun h2=>?_) (fun h2=>?_)⟩⟩
   ·have h2:=of_decide_eq_true h2
    exact ⟨_,rfl,by decide +kernel,.inr ⟨12,rfl,by decide +kernel,_,rfl,by decide +kernel,_,rfl,by decide +kernel,by show 1≤sizeLine; decide,qE (fun z=>by have:=z.2; omega) _ s1⟩⟩
   ·refine q h ?_ H1 s1
    by_cases z:dep c≤12
    ·exact z
    ·exact absurd (decide_eq_true (by omega)) h2
theorem sc_readC:FnScope ["text","claim"] ["text"] (defScope s_read_claim):=⟨rfl,rfl,rfl,by decide +kernel,rfl,by decide +kernel,by decide +kernel⟩
theorem ok_readC {f:Addr} {fd:FuncData} (F:Fun K "read_claim" "read_claim" s_read_claim f fd) (T:Txt K mg) (W:Wrd P w K mg C) (cs:Can P w K mg base 1 "split_text" ["text"] spSplitC) (ci:CanI P w K mg base 1 C ["self","words"] (spInitR C)) (cw:∀ Z:Addr→Prop,CanX P w K mg base 69 "read_whole_claim" ["row","room"] (spWc C ct Z 12))
  (csh:Can P w K mg base 53 "show_claim" ["claim"] (spShC 25)) (cr:CanX P w K mg base 27 "refuse_other_text" ["whole","shown","text"] (spRefuse ct)):FnOk P w K mg base (CXF P w) 70 f fd ["text"] (spRead ct (wcOf (rFirst 12))):=by
 refine F.okX sc_readC (fun vs H Q E h=>?_) (fun cdv A outer s H vs Q E hr Wt h=>?_)
 ·obtain ⟨x,rfl,_⟩:=h
  rfl
 ·obtain ⟨x,rfl,ox,pre,q,qE⟩:=h
  have r1:Room 1 _:=hr.mono (by decide)
  have r2:Room 2 _:=hr.mono (by decide)
  have r27:Room 27 _:=hr.mono (by decide)
  have r53:Room 53 _:=hr.mono (by decide)
  refine ⟨_,(pss_cons (ps_set (i:=1) sc_readC.nd rfl (Or.inl rfl) (pe_callX (cw fun p=>H p=none) Wt hr (by rfl) (pa_cons (pe_makeC ci r2 (by rfl) W.mgC (pa_cons (pe_callC cs r1 (by rfl) (pa_cons (pv 0) pa_nil)) pa_nil)) (pa_cons (pe_globC T.deep (by rfl)) pa_nil))))
   (pss_cons (ps_expr (pe_callX cr Wt r27 (by rfl) (pa_cons (pv 1) (pa_cons (pe_callC csh r53 (by rfl) (pa_cons (pv 1) pa_nil)) (pa_cons (pv 0) pa_nil)))))
   (pss_one (ps_ret (pv 1))))),?_⟩
  refine ⟨_,rfl,x,rfl,ox,fun l H1 s1 hl r dx hr0 hdx hne=>⟨r,dx,l,rfl,upd_same,rfl,?_⟩⟩
  rw [upd_upd]
  have lr:l ≠ r:=fun z=>by rw [z,hr0] at hl; cases hl
  have ld:l ≠ dx:=fun z=>by rw [z,hdx] at hl; cases hl
  have R0:RowIs C (fun p=>H p=none) (upd (upd H1 dx (.own r)) r (.ins C dx (rowF l 0))) r dx l (wordsC x) 0:=⟨upd_same,by rw [upd_ne lr,upd_ne ld]; exact hl,fun p hp=>none_same s1 (none_upd (none_upd hp))⟩
  have s2:Same H (upd (upd H1 dx (.own r)) r (.ins C dx (rowF l 0))):=s1.trans ((Same.new hdx).upd (by rw [upd_ne hne.symm]; exact hr0))
  have nr:H r=none:=by
   cases e:H r with
   | none=>rfl
   | some o=>have:=s1 _ _ e; rw [hr0] at this; cases this
  have back:∀ {H3 H4:Hp},Same H H3→Rw r H3 H4→Same H H4:=fun s3 s4 b o e=>s4 b o (fun z=>by rw [z,nr] at e; cases e) (s3 b o e)
  generalize upd (upd H1 dx (.own r)) r (.ins C dx (rowF l 0))=H2 at R0 s2
  have e0:(wordsC x).drop 0=wordsC x:=rfl
  refine ⟨r,dx,l,wordsC x,0,rfl,R0,words_okW ox,fun c l' e v H3 i3 s3 R3 d3 rel=>?_,fun e H3 s3=>qE (fun c l' z=>by rw [← e0,e] at z; cases z) _ (back s2 s3)⟩
  rw [e0] at e
  obtain ⟨wc,hd,oc⟩:=pre c l' e
  have ht:isT c=false:=by
   unfold wcOf at e
   cases e1:whOf (rFirst 12) (wordsC x) with
   | none=>rw [e1] at e; cases e
   | some q0 =>
    rw [e1] at e
    have e':(if isT q0.1=true then none else some q0)=some (c,l'):=e
    split at e'
    ·cases e'
    ·rename_i hn
     cases e'
     cases z:isT c with
     | true=>exact absurd z hn
     | false=>rfl
  have s4:=back s2 s3
  refine ⟨_,rfl,_,rfl,v,_,c,rfl,PDF.pd rel,wc,ht,hd,Nat.le_trans oc.1 (by decide),fun H5 s5=>⟨_,rfl,v,_,c,x,rfl,PDF.pd (rel.same s5),wc,hd,oc,ox,fun h1 h2 H6 s6=>⟨_,rfl,q c l' e h1 h2 v H6 (s4.trans (s5.trans s6)) ((rel.same s5).same s6)⟩,fun h H6 s6=>qE (fun c2 l2 z=>?_) _ (s4.trans (s5.trans s6))⟩⟩
  rw [e] at z
  cases z
  exact h
theorem sc_readT:FnScope ["text","term"] ["text"] (defScope s_read_term):=⟨rfl,rfl,rfl,by decide +kernel,rfl,by decide +kernel,by decide +kernel⟩
theorem ok_readT {f:Addr} {fd:FuncData} (F:Fun K "read_term" "read_term" s_read_term f fd) (T:Txt K mg) (W:Wrd P w K mg C) (cs:Can P w K mg base 1 "split_text" ["text"] spSplitC) (ci:CanI P w K mg base 1 C ["self","words"] (spInitR C)) (cw:∀ Z:Addr→Prop,CanX P w K mg base 69 "read_whole_term" ["row","room"] (spWt C ct Z 12))
  (csh:Can P w K mg base 27 "show_term" ["term"] (spShT 25)) (cr:CanX P w K mg base 27 "refuse_other_text" ["whole","shown","text"] (spRefuse ct)):FnOk P w K mg base (CXF P w) 70 f fd ["text"] (spRead ct (wtOf (rFirst 12))):=by
 refine F.okX sc_readT (fun vs H Q E h=>?_) (fun cdv A outer s H vs Q E hr Wt h=>?_)
 ·obtain ⟨x,rfl,_⟩:=h
  rfl
 ·obtain ⟨x,rfl,ox,pre,q,qE⟩:=h
  have r1:Room 1 _:=hr.mono (by decide)
  have r2:Room 2 _:=hr.mono (by decide)
  have r27:Room 27 _:=hr.mono (by decide)
  refine ⟨_,(pss_cons (ps_set (i:=1) sc_readT.nd rfl (Or.inl rfl) (pe_callX (cw fun p=>H p=none) Wt hr (by rfl) (pa_cons (pe_makeC ci r2 (by rfl) W.mgC (pa_cons (pe_callC cs r1 (by rfl) (pa_cons (pv 0) pa_nil)) pa_nil)) (pa_cons (pe_globC T.deep (by rfl)) pa_nil))))
   (pss_cons (ps_expr (pe_callX cr Wt r27 (by rfl) (pa_cons (pv 1) (pa_cons (pe_callC csh r27 (by rfl) (pa_cons (pv 1) pa_nil)) (pa_cons (pv 0) pa_nil)))))
   (pss_one (ps_ret (pv 1))))),?_⟩
  refine ⟨_,rfl,x,rfl,ox,fun l H1 s1 hl r dx hr0 hdx hne=>⟨r,dx,l,rfl,upd_same,rfl,?_⟩⟩
  rw [upd_upd]
  have lr:l ≠ r:=fun z=>by rw [z,hr0] at hl; cases hl
  have ld:l ≠ dx:=fun z=>by rw [z,hdx] at hl; cases hl
  have R0:RowIs C (fun p=>H p=none) (upd (upd H1 dx (.own r)) r (.ins C dx (rowF l 0))) r dx l (wordsC x) 0:=⟨upd_same,by rw [upd_ne lr,upd_ne ld]; exact hl,fun p hp=>none_same s1 (none_upd (none_upd hp))⟩
  have s2:Same H (upd (upd H1 dx (.own r)) r (.ins C dx (rowF l 0))):=s1.trans ((Same.new hdx).upd (by rw [upd_ne hne.symm]; exact hr0))
  have nr:H r=none:=by
   cases e:H r with
   | none=>rfl
   | some o=>have:=s1 _ _ e; rw [hr0] at this; cases this
  have back:∀ {H3 H4:Hp},Same H H3→Rw r H3 H4→Same H H4:=fun s3 s4 b o e=>s4 b o (fun z=>by rw [z,nr] at e; cases e) (s3 b o e)
  generalize upd (upd H1 dx (.own r)) r (.ins C dx (rowF l 0))=H2 at R0 s2
  have e0:(wordsC x).drop 0=wordsC x:=rfl
  refine ⟨r,dx,l,wordsC x,0,rfl,R0,words_okW ox,fun c l' e v H3 i3 s3 R3 d3 rel=>?_,fun e H3 s3=>qE (fun c l' z=>by rw [← e0,e] at z; cases z) _ (back s2 s3)⟩
  rw [e0] at e
  obtain ⟨wc,hd,oc⟩:=pre c l' e
  have ht:isT c=true:=by
   unfold wtOf at e
   cases e1:rFirst 12 (wordsC x) with
   | none=>rw [e1] at e; cases e
   | some q0 =>
    rw [e1] at e
    have e':(if isT q0.1=true then some q0 else none)=some (c,l'):=e
    split at e'
    ·rename_i hn
     cases e'
     exact hn
    ·cases e'
  have s4:=back s2 s3
  refine ⟨_,rfl,_,rfl,v,_,c,rfl,PDF.pd rel,wc,ht,hd,Nat.le_trans oc.1 (by decide),fun H5 s5=>⟨_,rfl,v,_,c,x,rfl,PDF.pd (rel.same s5),wc,hd,oc,ox,fun h1 h2 H6 s6=>⟨_,rfl,q c l' e h1 h2 v H6 (s4.trans (s5.trans s6)) ((rel.same s5).same s6)⟩,fun h H6 s6=>qE (fun c2 l2 z=>?_) _ (s4.trans (s5.trans s6))⟩⟩
  rw [e] at z
  cases z
  exact h
end
end Net
namespace Net
open PySem L2
def consecB:List Nat→Bool
 | x :: y :: r=>decide (y=x + 1) && consecB (y :: r)
 | _=>true
def drawnB (x:Str):Bool:=(List.range x.cps.toList.length).any fun i=>consecB (x.cps.toList.eraseIdx i)
def spWords:Sp:=fun vs H Q _=>∃ (c m k:Int),vs=[.int c,.int m,.int k]∧0≤m∧m≤26∧0≤k∧k≤100 ∧
 ∀ (l:Addr) (ws:List Str),H l=none→ws.length=m.toNat→(∀ x ∈ ws,nameB x=true∧drawnB x=true)→ws.Nodup→Q (.ref l) (upd H l (.lst (ws.map V.str)))
section
variable {P:Program} {w:World} {K:PySem.W.Frag} {mg:Str→Option Value} {base:Heap}
def nmL (base:List Nat) (k j:Nat):List Nat:=base.take k++[97 + j]++base.drop k
theorem nmL_len (base:List Nat) (k j:Nat):(nmL base k j).length=base.length + 1:=by
 unfold nmL
 simp [List.length_take,List.length_drop]
 omega
theorem nmL_small {base:List Nat} {k j:Nat} (hb:∀ c ∈ base,97≤c∧c≤122) (hj:j < 26):∀ c ∈ nmL base k j,97≤c∧c≤122:=by
 intro c hc
 unfold nmL at hc
 rcases List.mem_append.mp hc with h | h
 ·rcases List.mem_append.mp h with h | h
  ·exact hb c (List.mem_of_mem_take h)
  ·have:c=97 + j:=by simpa using h
   omega
 ·exact hb c (List.mem_of_mem_drop h)
theorem nmL_inj {base:List Nat} {k i j:Nat} (hk:k≤base.length) (e:nmL base k i=nmL base k j):i=j:=by
 have h:∀ n,(nmL base k n)[k]?=some (97 + n):=by
  intro n
  unfold nmL
  rw [List.append_assoc,List.getElem?_append_right (by rw [List.length_take]; omega)]
  simp [List.length_take,Nat.min_eq_left hk]
 have h1:=h i
 rw [e,h j] at h1
 have:=Option.some.inj h1
 omega
def nmS (base:Str) (k j:Nat):Str:=⟨(nmL base.cps.toList k j).toArray⟩
theorem nmS_name {base:Str} {k j:Nat} (hb:∀ c ∈ base.cps.toList,97≤c∧c≤122) (hl:base.length≤11) (hj:j < 26):nameB (nmS base k j)=true:=by
 have h1:(nmS base k j).length=base.length + 1:=by
  have:=nmL_len base.cps.toList k j
  show (nmL base.cps.toList k j).toArray.size=_
  rw [List.size_toArray,this]
  rfl
 unfold nameB
 rw [h1,decide_eq_true (by omega),decide_eq_true (by omega)]
 simp only [Bool.true_and,List.all_eq_true]
 intro c hc
 have:=nmL_small (k:=k) hb hj c hc
 unfold smallB
 rw [decide_eq_true this.1,decide_eq_true this.2]
 rfl
theorem nmS_drawn {base:Str} {k j:Nat} (hk:k≤base.length) (hc:consecB base.cps.toList=true):drawnB (nmS base k j)=true:=by
 unfold drawnB
 have hk':k≤base.cps.toList.length:=hk
 rw [List.any_eq_true]
 refine ⟨k,?_,?_⟩
 ·rw [List.mem_range]
  show k < (nmL base.cps.toList k j).length
  rw [nmL_len]
  omega
 ·show consecB ((nmL base.cps.toList k j).eraseIdx k)=true
  have e:(nmL base.cps.toList k j).eraseIdx k=base.cps.toList:=by
   unfold nmL
   have hl:(base.cps.toList.take k).length=k:=by rw [List.length_take]; omega
   rw [List.append_assoc,List.eraseIdx_append_of_length_le (by omega),hl,Nat.sub_self]
   exact List.take_append_drop k _
  rw [e]
  exact hc
theorem consec_range (n:Nat):∀ a,consecB ((List.range' a n))=true:=by
 induction n with
 | zero=>intro a; rfl
 | succ n ih =>
  intro a
  cases n with
  | zero=>rfl
  | succ n =>
   show (decide (a + 1=a + 1) && consecB (List.range' (a + 1) (n + 1)))=true
   rw [ih (a + 1),decide_eq_true rfl]
   rfl
theorem consec_take:∀ (l:List Nat) (n:Nat),consecB l=true→consecB (l.take n)=true
 | [],n,_=>by simp [consecB]
 | [x],n,_=>by cases n <;> simp [consecB]
 | x :: y :: r,0,_=>rfl
 | x :: y :: r,1,_=>rfl
 | x :: y :: r,n + 2,h=>by
  have h':decide (y=x + 1)=true∧consecB (y :: r)=true:=Bool.and_eq_true_iff.mp h
  show (decide (y=x + 1) && consecB ((y :: r).take (n + 1)))=true
  rw [consec_take (y :: r) (n + 1) h'.2,h'.1]
  rfl
theorem nmS_nodup {base:Str} {k n:Nat} (hk:k≤base.length):((List.range n).map (nmS base k)).Nodup:=by
 unfold List.Nodup
 rw [List.pairwise_map]
 refine List.Pairwise.imp (fun h e=>h (nmL_inj (base:=base.cps.toList) hk ?_)) List.nodup_range
 have:=congrArg (fun s:Str=>s.cps.toList) e
 simpa [nmS] using this
theorem nmS_eq {base:Str} {k j:Nat} (hk:k≤base.length):Txt.slice base none (some (k:Int))++(⟨#[97 + j]⟩:Str)++Txt.slice base (some (k:Int)) none=nmS base k j:=by
 have e:∀ x y:Str,x.cps.toList=y.cps.toList→x=y:=fun x y h=>by
  obtain ⟨a⟩:=x
  obtain ⟨b⟩:=y
  exact congrArg Str.mk (Array.toList_inj.mp h)
 apply e
 show ((Txt.slice base none (some (k:Int))).cps++#[97 + j]++(Txt.slice base (some (k:Int)) none).cps).toList=_
 rw [Array.toList_append,Array.toList_append,slice_to,slice_from base hk]
 rfl
theorem abc_get {j:Nat} (h:j < 26):abc.cps.toList[j]?=some (97 + j):=by
 have e:abc.cps.toList=(List.range 26).map (97 + ·):=by decide +kernel
 rw [e,List.getElem?_map,List.getElem?_range h]
 rfl
theorem base_ok {a b:Nat} (ha:a < 26) (hab:a≤b) (hb:b≤a + 11):(Txt.slice abc (some (a:Int)) (some (b:Int))).length≤11∧consecB (Txt.slice abc (some (a:Int)) (some (b:Int))).cps.toList=true∧∀ c ∈ (Txt.slice abc (some (a:Int)) (some (b:Int))).cps.toList,97≤c∧c≤122:=by
 have hl:abc.length=26:=by decide +kernel
 have e:=slice_list abc (a:=a) (b:=b) (by omega) hab
 refine ⟨?_,?_,?_⟩
 ·show (Txt.slice abc (some (a:Int)) (some (b:Int))).cps.size≤11
  rw [← Array.length_toList,e,List.length_take]
  omega
 ·rw [e]
  have ea:abc.cps.toList=List.range' 97 26:=by decide +kernel
  rw [ea,List.drop_range']
  exact consec_take _ _ (consec_range _ _)
 ·intro c hc
  rw [e] at hc
  have h:=List.mem_of_mem_drop (List.mem_of_mem_take hc)
  have:=mem_abc c
  rw [decide_eq_true h] at this
  unfold smallB at this
  simpa using this.symm
theorem sc_words:FnScope ["_law_cell","_law_many","_law_k","_law_letters","_law_number","_law_base","_law_at"] ["_law_cell","_law_many","_law_k"] (defScope s_l_words):=⟨rfl,rfl,rfl,by decide +kernel,rfl,by decide +kernel,by decide +kernel⟩
theorem ok_words {f:Addr} {fd:FuncData} (F:Fun K "_law_words" "_law_words" s_l_words f fd) (T:Txt K mg) (c1:Can P w K mg base 1 "_law_mixed" ["_law_cell","_law_k"] spMixed):FnOk P w K mg base CX0 2 f fd ["_law_cell","_law_many","_law_k"] spWords:=by
 refine F.ok sc_words (fun vs H Q E h=>?_) (fun cdv A outer s H vs Q E hr h=>?_)
 ·obtain ⟨c,m,k,rfl,_⟩:=h
  rfl
 ·obtain ⟨c,m,k,rfl,hm0,hm,hk0,hk,q⟩:=h
  refine ⟨_,pss_cons (ps_set (i:=3) sc_words.nd rfl (Or.inr rfl) pe_str)
   (pss_cons (ps_set (i:=4) sc_words.nd rfl (Or.inl rfl) (pe_callC c1 hr (by rfl) (pa_cons (pv 0) (pa_cons (pv 2) pa_nil))))
   (pss_cons (ps_set (i:=5) sc_words.nd rfl (Or.inr rfl) (pe_slice sl_str (pv 3) (po_some (pe_op op_mod (pv 4) pe_int)) (po_some (pe_op op_add (pe_op op_mod (pv 4) pe_int) (pe_op op_mod (pe_op op_fdiv (pv 4) pe_int) pe_int)))))
   (pss_cons (ps_set (i:=6) sc_words.nd rfl (Or.inr rfl) (pe_op op_mod (pe_op op_fdiv (pv 4) pe_int) (pe_op op_add (pe_callB call_len_str (by rfl) T.len b_len (pa_cons (pv 5) pa_nil)) pe_int)))
   (pss_one (ps_ret (pe_comp (N:=["_law_j","_law_at","_law_base","_law_letters"]) (xs:=1) (js:=[6,5,3]) rfl (compScope_of rfl) (pi_range1 rfl T.range (pa_cons (pv 1) pa_nil))
    (fun _ _ _ _=>pg_name (i:=0) (show List.Nodup (["_law_j","_law_at","_law_base","_law_letters"]:List Str) by decide +kernel) rfl (Or.inl rfl)) (fun _ _ _ _=>pts_nil)
    (fun _ _ _ _=>pe_op op_add_str (pe_op op_add_str (pe_slice sl_str (pv 2) po_none (po_some (pv 1))) (pe_ix ix_str (pv 3) (pv 0) (fun _ _=>rfl))) (pe_slice sl_str (pv 2) (po_some (pv 1)) po_none)))))))),?_⟩
  refine ⟨_,rfl,_,rfl,c,k,rfl,hk0,hk,fun n hn=>?_⟩
  have hl:abc.length=26:=by decide +kernel
  refine ⟨_,rfl,_,rfl,_,_,rfl,rfl,(by show (0:Int) < 26; decide),_,rfl,_,rfl,_,_,rfl,rfl,(by show (0:Int) < 26; decide),_,rfl,_,_,rfl,rfl,⟨by decide,by decide⟩,_,_,rfl,rfl,(by show (0:Int) < 12; decide),_,_,rfl,rfl,_,rfl,abc,rfl,(by rw [hl]; decide),?_⟩
  obtain ⟨a,ha⟩:=Int.eq_ofNat_of_zero_le (Int.emod_nonneg n (by decide:(26:Int) ≠ 0))
  obtain ⟨d,hd⟩:=Int.eq_ofNat_of_zero_le (Int.emod_nonneg (n / 26) (by decide:(12:Int) ≠ 0))
  have ha':a < 26:=by have:=Int.emod_lt_of_pos n (by decide:(0:Int) < 26); omega
  have hd':d < 12:=by have:=Int.emod_lt_of_pos (n / 26) (by decide:(0:Int) < 12); omega
  obtain ⟨b1,b3,b2⟩:=base_ok (a:=a) (b:=a + d) ha' (by omega) (by omega)
  have eb:Txt.slice abc (some (n % 26)) (some (n % 26 + n / 26 % 12))=Txt.slice abc (some (a:Int)) (some ((a + d:Nat):Int)):=by rw [ha,hd]; rfl
  rw [eb]
  generalize Txt.slice abc (some (a:Int)) (some ((a + d:Nat):Int))=bs at b1 b2 b3
  have hz:bs.length≤sizeLine:=Nat.le_trans b1 (by decide)
  refine ⟨_,rfl,_,_,rfl,rfl,⟨by decide,by decide⟩,_,rfl,bs,rfl,hz,_,_,rfl,rfl,_,_,rfl,rfl,(by show (0:Int) < (bs.length:Int) + 1; omega),?_⟩
  obtain ⟨t,ht⟩:=Int.eq_ofNat_of_zero_le (Int.emod_nonneg (n / 312) (by omega:((bs.length:Int) + 1) ≠ 0))
  have ht':t≤bs.length:=by have:=Int.emod_lt_of_pos (n / 312) (by omega:(0:Int) < (bs.length:Int) + 1); omega
  dsimp only
  rw [ht]
  obtain ⟨M,rfl⟩:=Int.eq_ofNat_of_zero_le hm0
  have hM:M≤26:=by omega
  refine ⟨_,rfl,M,rfl,by omega,by omega,comp_range (n:=(M:Int).toNat) (fun i acc σ' H'=>i≤M∧H'=H∧acc=((List.range i).map (nmS bs t)).map V.str∧∃ o,σ'=[o,some (.int t),some (.str bs),some (.str abc)])
   ⟨Nat.zero_le _,rfl,rfl,none,rfl⟩ (fun i acc σ' H' h=>?_) ?_ (fun i acc σ' H' hi h=>?_) (fun acc σ' H' h p hp=>?_)⟩
  ·obtain ⟨_,rfl,rfl,o,rfl⟩:=h
   simp
  ·rw [Int.toNat_natCast]
   exact Nat.le_trans hM (by decide)
  ·obtain ⟨h0,rfl,rfl,o,rfl⟩:=h
   rw [Int.toNat_natCast] at hi
   have l1:(Txt.slice bs none (some (t:Int))).length≤11:=Nat.le_trans (Txt.slice_le _ _ _) b1
   have l2:(Txt.slice bs (some (t:Int)) none).length≤11:=Nat.le_trans (Txt.slice_le _ _ _) b1
   have l3:((⟨#[97 + i]⟩:Str)).length=1:=rfl
   have l4:∀ x y:Str,(x++y).length=x.length + y.length:=fun x y=>Array.size_append
   have s26:(26:Nat)≤sizeLine:=by decide
   refine ⟨_,rfl,_,rfl,_,rfl,bs,rfl,hz,_,rfl,_,rfl,abc,_,97 + i,rfl,rfl,(by rw [hl]; decide),?_,_,_,rfl,rfl,?_,_,rfl,_,rfl,_,rfl,bs,rfl,hz,_,_,rfl,rfl,?_,?_⟩
   ·rw [Int.zero_add]
    exact atI_nat (abc_get (by omega))
   ·omega
   ·rw [l4]
    omega
   ·refine ⟨by omega,rfl,?_,_,rfl⟩
    rw [nmS_eq ht',List.range_succ,List.map_append,List.map_append]
    rfl
  ·obtain ⟨h0,rfl,rfl,o,rfl⟩:=h
   rw [Int.toNat_natCast]
   refine q p _ hp (by simp) (fun x hx=>?_) (nmS_nodup ht')
   obtain ⟨j,hj,rfl⟩:=List.mem_map.mp hx
   exact ⟨nmS_name b2 b1 (by have:=List.mem_range.mp hj; omega),nmS_drawn ht' b3⟩
end
end Net
namespace L2
open PySem PySem.Spec PyProof.Rows
theorem pa_k8 {X:Cx} {c:Const} {k:Nat} {pos:Pos} {es:List Expr} {te:TE} {t:TA} (ha:PE X (.Constant c k pos) te) (hr:PA X es t):PA X (.Constant c k pos :: es) (tCons te t):=pa_cons ha hr
end L2
namespace Net
open PySem L2 L2.Tx
theorem num_is {i:Int} (h1:-(10 ^ 60) < i) (h2:i < 10 ^ 60):numOk (numT i).cps.toList=true∧valL (numT i).cps.toList=i:=by
 have hn:i.natAbs < 10 ^ 60:=by omega
 cases i with
 | ofNat m =>
  show numOk (numT (m:Int)).cps.toList=true∧valL (numT (m:Int)).cps.toList=(m:Int)
  rw [numT_nat]
  have dl:=dg_len (m:=m) (k:=60) (by decide) (by simpa using hn)
  have dn:=dg_ne m
  have dd:=dg_digits m
  have d0:(dg m)[0]? ≠ some 45:=fun z=>by
   have:=dd 45 (List.mem_of_getElem? z)
   omega
  have ef:figsOf (dg m)=dg m:=by
   cases e:dg m with
   | nil=>exact absurd e dn
   | cons c r =>
    show (if c=45 then r else c :: r)=_
    rw [if_neg]
    intro z
    rw [e,z] at d0
    exact d0 rfl
  refine ⟨?_,?_⟩
  ·rw [numOk_eq,ef,decide_eq_true dl,decide_eq_true (p:=1≤(dg m).length) (List.length_pos_iff.mpr dn),all_figB dd]
   show (true && !(_ && _))=true
   by_cases z:(dg m)[0]?=some 48
   ·have hm:=dg_zero z
    have e:dg m=[48]:=by rw [hm]; exact dg_one (by decide)
    rw [decide_eq_false (p:=dg m ≠ [48]) (fun y=>y e),Bool.and_false]
    rfl
   ·rw [decide_eq_false z]
    rfl
  ·unfold valL
   rw [if_neg d0,ef,val_dg]
 | negSucc m =>
  rw [numT_neg]
  have dl:=dg_len (m:=m + 1) (k:=60) (by decide) (by simpa using hn)
  have dn:=dg_ne (m + 1)
  have dd:=dg_digits (m + 1)
  have ef:figsOf (45 :: dg (m + 1))=dg (m + 1):=by show (if (45:Nat)=45 then dg (m + 1) else 45 :: dg (m + 1))=_; rw [if_pos rfl]
  refine ⟨?_,?_⟩
  ·rw [numOk_eq,ef,decide_eq_true dl,decide_eq_true (p:=1≤(dg (m + 1)).length) (List.length_pos_iff.mpr dn),all_figB dd]
   have z:¬ (dg (m + 1))[0]?=some 48:=fun z=>by
    have:=dg_zero z
    omega
   rw [decide_eq_false z]
   rfl
  ·unfold valL
   rw [if_pos (show (45 :: dg (m + 1))[0]?=some 45 from rfl),ef,val_dg]
   rfl
theorem wfN_of {n:Int} (h1:-(10 ^ 60) < n) (h2:n < 10 ^ 60):wfN n:=num_is h1 h2
def pts12:List Str:=["all","from","to","in","and","or","not","ring","size","each","least","way"]
def pts6:List Str:=["X","Y","QQ","ABD","Z","ZZZ"]
theorem pts12_ok:∀ x ∈ pts12,okN x=true∧x.length≤12:=by decide +kernel
theorem pts6_ok:∀ x ∈ pts6,okN x=true∧x.length≤12:=by decide +kernel
theorem PDF.weak {Z Z':Addr→Prop} {H:Hp} (hz:∀ p,Z p→Z' p):∀ {n:Nat} {v:V} {d:PyData},PDF Z H n v d→PDF Z' H n v d
 | 0,v,d,h=>by cases v <;> first | exact h | exact h.elim
 | n + 1,v,d,h=>by
  cases v <;> first | exact h | exact h.elim | skip
  rcases h with ⟨xs,ds,e,f,e2,p⟩ | ⟨xs,ds,e,e2,p⟩
  ·exact .inl ⟨xs,ds,e,hz _ f,e2,L2.Paired.mapP p fun _ _ h=>PDF.weak hz h⟩
  ·exact .inr ⟨xs,ds,e,e2,L2.Paired.mapP p fun _ _ h=>PDF.weak hz h⟩
structure Wds (ws:List Str):Prop where
 len:ws.length=4
 ok:∀ x ∈ ws,nameB x=true
def spPoint:Sp:=fun vs H Q _=>∃ (n:Int) (l:Addr) (ws:List Str),vs=[.int n,.ref l]∧0≤n∧H l=some (.lst (ws.map V.str))∧Wds ws∧∀ x H',okN x=true→x.length≤12→Same H H'→Q (.str x) H'
def spSetL:Sp:=fun vs H Q _=>∃ (n:Int) (l:Addr) (ws:List Str),vs=[.int n,.ref l]∧0≤n∧H l=some (.lst (ws.map V.str))∧Wds ws∧∀ s v H',wfK s→(txK s).length≤50→Same H H'→RelK (fun p=>H p=none) H' v s→Q v H'
def spLong:Sp:=fun vs H Q _=>∃ (c n:Int),vs=[.int c,.int n]∧0≤n∧∀ m,wfN m→Q (.int m) H
theorem three_len {ns:List Str} (h:∀ x ∈ ns,x.length≤12) (hl:ns.length≤3):(txK (.these ns)).length≤50:=by
 have e:(txK (.these ns)).length=("{" : Str).length + (Str.join ", " ns).length + ("}" : Str).length:=by
  show ((("{" : Str)++Str.join ", " ns)++("}" : Str)).length=_
  rw [str_len_app,str_len_app]
 have e1:("{" : Str).length=1:=by decide +kernel
 have e2:("}" : Str).length=1:=by decide +kernel
 have hs:(ns.map (·.length)).sum≤12 * ns.length:=by
  clear hl e
  induction ns with
  | nil=>exact Nat.le_refl _
  | cons x r ih =>
   rw [List.map_cons,List.sum_cons,List.length_cons]
   have:=h x List.mem_cons_self
   have:=ih fun y hy=>h y (List.mem_cons_of_mem _ hy)
   omega
 cases ns with
 | nil =>
  have:(Str.join ", " ([]:List Str)).length=0:=rfl
  omega
 | cons x r =>
  have j:=join_len ", " (x :: r) (List.cons_ne_nil _ _)
  rw [l_csp] at j
  omega
section
variable {P:Program} {w:World} {K:PySem.W.Frag} {mg:Str→Option Value} {base:Heap}
theorem sc_point:FnScope ["_law_number","_law_words_here","_law_some"] ["_law_number","_law_words_here"] (defScope s_l_point):=⟨rfl,rfl,rfl,by decide +kernel,rfl,by decide +kernel,by decide +kernel⟩
theorem ok_point {f:Addr} {fd:FuncData} (F:Fun K "_law_point" "_law_point" s_l_point f fd) (T:Txt K mg):FnOk P w K mg base CX0 1 f fd ["_law_number","_law_words_here"] spPoint:=by
 refine F.ok sc_point (fun vs H Q E h=>?_) (fun cdv A outer s H vs Q E hr h=>?_)
 ·obtain ⟨n,l,ws,rfl,_⟩:=h
  rfl
 ·obtain ⟨n,l,ws,rfl,hn,hl,hw,q⟩:=h
  refine ⟨_,(pss_cutE (@ps_set _ _ 2 _ _ _ _ sc_point.nd rfl (Or.inl rfl) (@pe_op _ _ _ _ _ _ _ _ op_cat (pv 1) (@pe_lst _ _ _ _ (@pa_k8 _ _ _ _ _ _ _ pe_str (@pa_k8 _ _ _ _ _ _ _ pe_str (@pa_k8 _ _ _ _ _ _ _ pe_str (@pa_k8 _ _ _ _ _ _ _ pe_str (@pa_k8 _ _ _ _ _ _ _ pe_str (@pa_k8 _ _ _ _ _ _ _ pe_str (@pa_k8 _ _ _ _ _ _ _ pe_str (@pa_k8 _ _ _ _ _ _ _ pe_str (@pa_k8 _ _ _ _ _ _ _ pe_str (@pa_k8 _ _ _ _ _ _ _ pe_str (@pa_k8 _ _ _ _ _ _ _ pe_str (@pa_k8 _ _ _ _ _ _ _ pe_str pa_nil)))))))))))))) rfl (Or.inl rfl))
   (pss_cutE (@ps_set _ _ 2 _ _ _ _ sc_point.nd rfl (Or.inl rfl) (@pe_op _ _ _ _ _ _ _ _ op_cat (pv 2) (@pe_lst _ _ _ _ (@pa_k8 _ _ _ _ _ _ _ pe_str (@pa_k8 _ _ _ _ _ _ _ pe_str (@pa_k8 _ _ _ _ _ _ _ pe_str (@pa_k8 _ _ _ _ _ _ _ pe_str (@pa_k8 _ _ _ _ _ _ _ pe_str (@pa_k8 _ _ _ _ _ _ _ pe_str pa_nil)))))))) rfl (Or.inl rfl))
   (pss_one (ps_ret (pe_ix ix_list (pv 2) (pe_op op_mod (pv 0) (pe_callB call_len_seq (by rfl) T.len b_len (pa_cons (pv 2) pa_nil))) (fun _ _=>by rfl)))))),?_⟩
  have hwl:=hw.len
  refine ⟨fun σ' H'=>Same H H'∧∃ p2,H' p2=some (.lst ((ws++pts12).map V.str))∧σ'=[some (V.int n),some (V.ref l),some (V.ref p2)],?_,?_⟩
  ·refine ⟨_,rfl,by show 12≤sizeLine; decide,fun p hp=>?_⟩
   have s1:Same H (upd H p (.lst (pts12.map V.str))):=Same.new hp
   refine ⟨l,p,_,pts12.map V.str,rfl,rfl,s1 _ _ hl,upd_same,?_,fun p2 hp2=>?_⟩
   ·rw [List.length_map,hwl]
    decide +kernel
   have s2:Same H (upd (upd H p (.lst (pts12.map V.str))) p2 (.lst (ws.map V.str++pts12.map V.str))):=s1.upd hp2
   have g2:(upd (upd H p (.lst (pts12.map V.str))) p2 (.lst (ws.map V.str++pts12.map V.str))) p2=some (.lst ((ws++pts12).map V.str)):=by rw [upd_same,List.map_append]
   exact ⟨s2,p2,g2,rfl⟩
  rintro σ' H2 ⟨s2,p2,g2,rfl⟩
  refine ⟨fun σ' H'=>Same H2 H'∧∃ p4,H' p4=some (.lst (((ws++pts12)++pts6).map V.str))∧σ'=[some (V.int n),some (V.ref l),some (V.ref p4)],?_,?_⟩
  ·refine ⟨_,rfl,by show 6≤sizeLine; decide,fun p3 hp3=>?_⟩
   have s3:Same H2 (upd H2 p3 (.lst (pts6.map V.str))):=Same.new hp3
   refine ⟨p2,p3,_,pts6.map V.str,rfl,rfl,s3 _ _ g2,upd_same,?_,fun p4 hp4=>?_⟩
   ·rw [List.length_map,List.length_append,hwl]
    decide +kernel
   have s4:Same H2 (upd (upd H2 p3 (.lst (pts6.map V.str))) p4 (.lst ((ws++pts12).map V.str++pts6.map V.str))):=s3.upd hp4
   have g4:(upd (upd H2 p3 (.lst (pts6.map V.str))) p4 (.lst ((ws++pts12).map V.str++pts6.map V.str))) p4=some (.lst (((ws++pts12)++pts6).map V.str)):=by rw [upd_same,← List.map_append]
   exact ⟨s4,p4,g4,rfl⟩
  rintro σ' H4 ⟨s4,p4,g4,rfl⟩
  have hlen:((ws++pts12)++pts6).length=22:=by
   rw [List.length_append,List.length_append,hwl]
   rfl
  have oks:∀ x ∈ (ws++pts12)++pts6,okN x=true∧x.length≤12:=fun x hx=>by
   rcases List.mem_append.mp hx with hx | hx
   ·rcases List.mem_append.mp hx with hx | hx
    ·have:=hw.ok x hx
     exact ⟨by unfold okN; rw [this]; rfl,(name_len this).2⟩
    ·exact pts12_ok x hx
   ·exact pts6_ok x hx
  generalize (ws++pts12)++pts6=ys at g4 hlen oks
  have hm0:0≤n % 22:=by omega
  have hm1:n % 22 < 22:=by omega
  have hk:(n % 22).toNat < ys.length:=by omega
  refine ⟨_,rfl,_,rfl,_,rfl,p4,_,rfl,.inl (SqL.of g4),_,_,rfl,rfl,?_,p4,_,_,V.str ys[(n % 22).toNat],rfl,rfl,SqL.of g4,?_,q _ H4 (oks _ (List.getElem_mem hk)).1 (oks _ (List.getElem_mem hk)).2 (s2.trans s4)⟩
  ·show (0:Int) < ((ys.map V.str).length:Int)
   rw [List.length_map,hlen]
   decide
  ·show atI (ys.map V.str) (n % ((ys.map V.str).length:Int))=_
   rw [List.length_map,hlen,show n % ((22:Nat):Int)=(((n % 22).toNat:Nat):Int) by omega]
   exact atI_nat (by rw [List.getElem?_map,List.getElem?_eq_getElem hk]; rfl)
theorem sc_setL:FnScope ["_law_number","_law_words_here","_law_way"] ["_law_number","_law_words_here"] (defScope s_l_set):=⟨rfl,rfl,rfl,by decide +kernel,rfl,by decide +kernel,by decide +kernel⟩
theorem ok_setL {f:Addr} {fd:FuncData} (F:Fun K "_law_set" "_law_set" s_l_set f fd) (T:Txt K mg) (cp:Can P w K mg base 1 "_law_point" ["_law_number","_law_words_here"] spPoint):FnOk P w K mg base CX0 2 f fd ["_law_number","_law_words_here"] spSetL:=by
 have nd_0:List.Nodup (["_law_k","_law_number","_law_words_here"]:List Str):=by decide +kernel
 refine F.ok sc_setL (fun vs H Q E h=>?_) (fun cdv A outer s H vs Q E hr h=>?_)
 ·obtain ⟨n,l,ws,rfl,_⟩:=h
  rfl
 ·obtain ⟨n,l,ws,rfl,hn,hl,hw,q⟩:=h
  refine ⟨_,(pss_cutE (ps_set (i:=2) sc_setL.nd rfl (Or.inl rfl) (pe_op op_mod (pv 0) pe_int))
   (pss_cutE (ps_set (i:=0) sc_setL.nd rfl (Or.inr rfl) (pe_op op_fdiv (pv 0) pe_int))
   (pss_cons (ps_if (pt_cmpR op_eq (pv 2) pe_int (nomark _)) (pss_one (ps_ret (pe_tup (pa_cons pe_str pa_nil)))) pss_nil)
   (pss_cons (ps_if (pt_cmpR op_lt (pv 2) pe_int (nomark _)) (pss_one (ps_ret (pe_tup (pa_cons (pe_ix ix_list (pe_lst (pa_cons pe_str (pa_cons pe_str pa_nil))) (pe_op op_sub (pv 2) pe_int) (fun _ _=>by rfl)) (pa_cons (pe_callC cp hr (by rfl) (pa_cons (pv 0) (pa_cons (pv 1) pa_nil))) pa_nil))))) pss_nil)
   (pss_one (ps_ret (pe_tup (pa_cons pe_str (pa_cons (pe_comp (N:=["_law_k","_law_number","_law_words_here"]) (xs:=1) (js:=[0,1]) rfl (compScope_of rfl) (pi_range1 rfl T.range (pa_cons (pe_op op_mod (pv 0) pe_int) pa_nil)) (fun _ _ _ _=>pg_name (i:=0) nd_0 rfl (Or.inl rfl)) (fun _ _ _ _=>pts_nil) (fun _ _ _ _=>pe_callC cp hr (by rfl) (pa_cons (pe_op op_fdiv (pv 1) (pe_op op_add pe_int (pe_op op_mul pe_int (pv 0)))) (pa_cons (pv 2) pa_nil)))) pa_nil))))))))),?_⟩
  refine ⟨fun σ' H'=>σ'=[some (V.int n),some (V.ref l),some (V.int (n % 4))]∧H=H',⟨_,rfl,_,_,rfl,rfl,(by show (0:Int) < 4; decide),rfl,rfl⟩,?_⟩
  rintro σ' H' ⟨rfl,rfl⟩
  refine ⟨fun σ' H'=>σ'=[some (V.int (n / 4)),some (V.ref l),some (V.int (n % 4))]∧H=H',⟨_,rfl,_,_,rfl,rfl,⟨by decide,by decide⟩,rfl,rfl⟩,?_⟩
  rintro σ' H' ⟨rfl,rfl⟩
  have hd:0≤n / 4:=Int.ediv_nonneg hn (by decide)
  generalize n / 4=d at hd
  have hw4:n % 4=0 ∨ (n % 4 ≠ 0∧n % 4 < 3∧∃ x:Str,(x = "from" ∨ x = "to")∧atI [V.str "from",V.str "to"] (n % 4 - 1)=some (V.str x)) ∨ (n % 4 ≠ 0∧¬ n % 4 < 3):=by
   have:n % 4=0 ∨ n % 4=1 ∨ n % 4=2 ∨ n % 4=3:=by omega
   rcases this with z | z | z | z <;> rw [z]
   ·exact .inl rfl
   ·exact .inr (.inl ⟨by decide,by decide,"from",.inl rfl,rfl⟩)
   ·exact .inr (.inl ⟨by decide,by decide,"to",.inr rfl,rfl⟩)
   ·exact .inr (.inr ⟨by decide,by decide⟩)
  generalize n % 4=wy at hw4
  rcases hw4 with rfl | ⟨n0,n3,x,hx,ex⟩ | ⟨n0,n3⟩
  ·refine ⟨_,rfl,rfl,_,rfl,iteTb (decide_eq_true rfl) ⟨by show 1≤sizeLine; decide,fun t ht=>?_⟩⟩
   exact q .all _ _ trivial (by decide +kernel) (Same.new ht) (pd_tup (n:=1) upd_same (.cons (pd_str (by decide +kernel)) .nil))
  ·refine ⟨_,rfl,rfl,_,rfl,iteFb (decide_eq_false fun z=>n0 (by injection z)) ⟨_,rfl,_,_,rfl,rfl,_,rfl,iteTb (decide_eq_true n3) ⟨by show 2≤sizeLine; decide,fun t ht=>?_⟩⟩⟩
   have s1:Same H (upd H t (.lst [.str "from",.str "to"])):=Same.new ht
   have g1:(upd H t (.lst [.str "from",.str "to"])) t=some (.lst [.str "from",.str "to"]):=upd_same
   generalize upd H t (.lst [.str "from",.str "to"])=H1 at s1 g1
   refine ⟨_,rfl,_,_,rfl,rfl,t,_,_,_,rfl,rfl,SqL.of g1,ex,_,rfl,_,rfl,d,l,ws,rfl,hd,s1 _ _ hl,hw,fun y H2 hy hyl s2=>⟨by show 2≤sizeLine; decide,fun t2 ht2=>?_⟩⟩
   have xl:x.length≤12:=by rcases hx with rfl | rfl <;> decide +kernel
   refine q (.of x y) _ _ ⟨hx,hy⟩ ?_ ((s1.trans s2).trans (Same.new ht2)) (pd_tup (n:=1) upd_same (.cons (pd_str (by rcases hx with rfl | rfl <;> decide +kernel)) (.cons (pd_str (okN_strOk hy)) .nil)))
   show (Str.join " " [x,y]).length≤50
   have j:=join_len " " [x,y] (List.cons_ne_nil _ _)
   rw [l_sp] at j
   simp at j
   omega
  ·refine ⟨_,rfl,rfl,_,rfl,iteFb (decide_eq_false fun z=>n0 (by injection z)) ⟨_,rfl,_,_,rfl,rfl,_,rfl,iteFb (decide_eq_false n3) ?_⟩⟩
   have hm0:0≤d % 4:=by omega
   have hm1:d % 4 < 4:=by omega
   refine ⟨_,rfl,_,_,rfl,rfl,(by show (0:Int) < 4; decide),_,rfl,?_,?_,?_⟩
   ·show -(2 ^ 62)≤d % 4
    omega
   ·show d % 4 < 2 ^ 62
    omega
   refine comp_range (n:=(d % 4).toNat) (fun k acc σ' H'=>Same H H'∧∃ (ns:List Str) (o:Option V),acc=ns.map V.str∧ns.length=k∧(∀ y ∈ ns,okN y=true∧y.length≤12)∧σ'=[o,some (.int d),some (.ref l)])
    ⟨Same.refl _,[],none,rfl,rfl,(fun _ z=>nomatch z),rfl⟩ (fun k acc σ' H' h=>?_) (Nat.le_trans (show (d % 4).toNat≤3 by omega) (by decide)) (fun k acc σ' H' hk h=>?_) (fun acc σ' H' h p hp=>?_)
   ·obtain ⟨_,ns,o,rfl,hl2,_⟩:=h
    rw [List.length_map,hl2]
    exact Nat.le_refl _
   ·obtain ⟨s1,ns,o,rfl,hl2,hy,rfl⟩:=h
    refine ⟨_,rfl,_,rfl,_,_,rfl,rfl,.inl ⟨by decide,by decide⟩,_,_,rfl,rfl,_,_,rfl,rfl,?_,_,rfl,_,l,ws,rfl,?_,s1 _ _ hl,hw,fun y H2 hy1 hyl s2=>⟨s1.trans s2,ns++[y],_,by rw [List.map_append]; rfl,by rw [List.length_append,hl2]; rfl,fun z hz=>?_,rfl⟩⟩
    ·show 0 < 1 + 7 * (0 + (k:Int))∧1 + 7 * (0 + (k:Int)) < 1073741824
     omega
    ·exact Int.ediv_nonneg hd (by omega)
    ·rcases List.mem_append.mp hz with hz | hz
     ·exact hy z hz
     ·have:z=y:=by simpa using hz
      rw [this]
      exact ⟨hy1,hyl⟩
   ·obtain ⟨s1,ns,o,rfl,hl2,hy,rfl⟩:=h
    have s2:Same H' (upd H' p (.lst (ns.map V.str))):=Same.new hp
    have g2:(upd H' p (.lst (ns.map V.str))) p=some (.lst (ns.map V.str)):=upd_same
    generalize upd H' p (.lst (ns.map V.str))=H2 at s2 g2
    refine ⟨by show 2≤sizeLine; decide,fun t ht=>?_⟩
    have s3:Same H2 (upd H2 t (.tup [.str "these",.ref p])):=Same.new ht
    exact q (.these ns) _ _ (fun y h=>(hy y h).1) (three_len (fun y h=>(hy y h).2) (by omega)) (s1.trans (s2.trans s3)) (pd_tup (n:=1) upd_same (.cons (pd_str (by decide +kernel)) (.cons (pd_lst (n:=0) (s3 _ _ g2) (none_same s1 hp) (pd_names fun y h=>(hy y h).1)) .nil)))
theorem sc_longL:FnScope ["_law_cell","_law_number"] ["_law_cell","_law_number"] (defScope s_l_long):=⟨rfl,rfl,rfl,by decide +kernel,rfl,by decide +kernel,by decide +kernel⟩
theorem ok_longL {f:Addr} {fd:FuncData} (F:Fun K "_law_long" "_law_long" s_l_long f fd):FnOk P w K mg base CX0 1 f fd ["_law_cell","_law_number"] spLong:=by
 refine F.ok sc_longL (fun vs H Q E h=>?_) (fun cdv A outer s H vs Q E hr h=>?_)
 ·obtain ⟨c,n,rfl,_⟩:=h
  rfl
 ·obtain ⟨c,n,rfl,hn,q⟩:=h
  refine ⟨_,(pss_cons (ps_if (pt_cmpR op_eq (pe_op op_mod (pv 1) pe_int) pe_int (nomark _)) (pss_one (ps_ret (pe_op op_add (pe_op op_sub (pe_op op_mod (pv 0) (pe_op op_sub (pe_op op_mul pe_int (pe_op op_pow pe_int pe_int)) pe_int)) (pe_op op_pow pe_int pe_int)) pe_int))) pss_nil)
   (pss_one (ps_ret (pe_op op_sub (pe_op op_mod (pe_op op_fdiv (pv 1) pe_int) pe_int) pe_int)))),?_⟩
  refine ⟨_,rfl,_,_,rfl,rfl,(by show (0:Int) < 4; decide),rfl,_,rfl,ite2 (fun _=>?_) (fun _=>?_)⟩
  ·refine ⟨_,rfl,_,_,rfl,rfl,⟨by decide,by decide,by decide⟩,_,_,rfl,rfl,.inl ⟨by decide,by decide⟩,_,_,rfl,rfl,_,_,rfl,rfl,(by show (0:Int) < 2 * 10 ^ (60:Int).toNat - 1; decide),_,_,rfl,rfl,⟨by decide,by decide,by decide⟩,_,_,rfl,rfl,_,_,rfl,rfl,q _ ?_⟩
   have e:(10:Int) ^ (60:Int).toNat=10 ^ 60:=rfl
   refine wfN_of ?_ ?_
   ·show -(10 ^ 60) < c % (2 * 10 ^ (60:Int).toNat - 1) - 10 ^ (60:Int).toNat + 1
    rw [e]
    have:=Int.emod_nonneg c (b:=2 * 10 ^ 60 - 1) (by decide)
    omega
   ·show c % (2 * 10 ^ (60:Int).toNat - 1) - 10 ^ (60:Int).toNat + 1 < 10 ^ 60
    rw [e]
    have:=Int.emod_lt_of_pos c (b:=2 * 10 ^ 60 - 1) (by decide)
    omega
  ·refine ⟨_,rfl,_,_,rfl,rfl,⟨by decide,by decide⟩,_,_,rfl,rfl,(by show (0:Int) < 41; decide),_,_,rfl,rfl,q _ (wfN_of ?_ ?_)⟩
   ·show -(10 ^ 60) < n / 4 % 41 - 20
    omega
   ·show n / 4 % 41 - 20 < 10 ^ 60
    omega
end
end Net
namespace Net
open PySem L2 L2.Tx
def spLeaf:Sp:=fun vs H Q _=>∃ (c:Int) (l:Addr) (ws:List Str) (b:Bool),vs=[.int c,.ref l,.bl b]∧H l=some (.lst (ws.map V.str))∧Wds ws∧∀ cl v H',wf cl→isT cl=!b→dep cl=1→(tx cl).length≤120→Same H H'→RelF (fun p=>H p=none) H' v cl→Q v H'
theorem rels_same {Z:Addr→Prop} {H H':Hp} (s:Same H H') {vs:List V} {cs:List Cl} (h:Paired (RelF Z H) vs cs):Paired (RelF Z H') vs cs:=L2.Paired.mapP h fun _ _ r=>RelF.same r s
theorem num_len8 {n:Int} (h:wfN n):(numT n).length≤61:=by
 have:=(num_len h.1).2
 rw [len_eq] at this
 exact this
theorem nm_len {w a b:Str} (hw:w.length≤6) (ha:a.length≤12) (hb:b.length≤12):(tx (.nm w [a,b])).length≤120:=by
 show (Str.join " " [w,a,b]).length≤120
 have j:=join_len " " [w,a,b] (List.cons_ne_nil _ _)
 rw [l_sp] at j
 simp at j
 omega
theorem pick {Z:Addr→Prop} {H:Hp} {vs:List V} {cs:List Cl} {n:Int} {k:Nat} (h:Paired (RelF Z H) vs cs) (hk:vs.length=k) (h0:0≤n) (h1:n < k):∃ v c,atI vs n=some v∧c ∈ cs∧RelF Z H v c:=by
 have hn:n.toNat < vs.length:=by omega
 obtain ⟨c,hc,r⟩:=pair_get (i:=n.toNat) (a:=vs[n.toNat]) h (List.getElem?_eq_getElem hn)
 refine ⟨vs[n.toNat],c,?_,List.mem_of_getElem? hc,r⟩
 have:=atI_nat (xs:=vs) (j:=n.toNat) (List.getElem?_eq_getElem hn)
 rw [show ((n.toNat:Nat):Int)=n by omega] at this
 exact this
section
variable {P:Program} {w:World} {K:PySem.W.Frag} {mg:Str→Option Value} {base:Heap}
theorem sc_leaf:FnScope ["_law_cell","_law_words_here","_law_claim_due","_law_number","_law_a","_law_b","_law_some","_law_one"] ["_law_cell","_law_words_here","_law_claim_due"] (defScope s_l_leaf):=⟨rfl,rfl,rfl,by decide +kernel,rfl,by decide +kernel,by decide +kernel⟩
theorem ok_leaf {f:Addr} {fd:FuncData} (F:Fun K "_law_leaf" "_law_leaf" s_l_leaf f fd) (cm:Can P w K mg base 1 "_law_mixed" ["_law_cell","_law_k"] spMixed) (cp:Can P w K mg base 1 "_law_point" ["_law_number","_law_words_here"] spPoint) (cs:Can P w K mg base 2 "_law_set" ["_law_number","_law_words_here"] spSetL)
  (cl:Can P w K mg base 1 "_law_long" ["_law_cell","_law_number"] spLong):FnOk P w K mg base CX0 3 f fd ["_law_cell","_law_words_here","_law_claim_due"] spLeaf:=by
 refine F.ok sc_leaf (fun vs H Q E h=>?_) (fun cdv A outer s H vs Q E hr h=>?_)
 ·obtain ⟨c,l,ws,b,rfl,_⟩:=h
  rfl
 ·obtain ⟨c,l,ws,b,rfl,hl,hw,q⟩:=h
  have r1:Room 1 _:=hr.mono (by decide)
  refine ⟨_,(pss_cutE (ps_set (i:=3) sc_leaf.nd rfl (Or.inl rfl) (pe_callC cm r1 (by rfl) (pa_cons (pv 0) (pa_cons pe_int pa_nil))))
   (pss_cutE (ps_set (i:=4) sc_leaf.nd rfl (Or.inl rfl) (pe_callC cp r1 (by rfl) (pa_cons (pe_op op_fdiv (pv 3) pe_int) (pa_cons (pv 1) pa_nil))))
   (pss_cutE (ps_set (i:=5) sc_leaf.nd rfl (Or.inl rfl) (pe_callC cp r1 (by rfl) (pa_cons (pe_callC cm r1 (by rfl) (pa_cons (pv 0) (pa_cons pe_int pa_nil))) (pa_cons (pv 1) pa_nil))))
   (pss_cons (ps_if (pt_val (pv 2)) (pss_cutE (ps_set (i:=6) sc_leaf.nd rfl (Or.inl rfl) (pe_lst (pa_cons (pe_tup (pa_cons pe_str (pa_cons (pv 4) (pa_cons (pv 5) pa_nil)))) (pa_cons (pe_tup (pa_cons pe_str (pa_cons (pv 4) (pa_cons (pv 5) (pa_cons (pe_callC cl r1 (by rfl) (pa_cons (pv 0) (pa_cons (pe_op op_fdiv (pv 3) pe_int) pa_nil))) pa_nil))))) (pa_cons (pe_tup (pa_cons pe_str pa_nil)) pa_nil)))))
   (pss_cutE (ps_set (i:=6) sc_leaf.nd rfl (Or.inl rfl) (pe_op op_cat (pv 6) (pe_lst (pa_cons (pe_tup (pa_cons pe_str pa_nil)) pa_nil))))
   (pss_one (ps_ret (pe_ix ix_list (pe_op op_cat (pv 6) (pe_lst (pa_cons (pe_tup (pa_cons pe_str (pa_cons (pv 4) (pa_cons (pv 5) (pa_cons (pe_callC cp r1 (by rfl) (pa_cons (pe_callC cm r1 (by rfl) (pa_cons (pv 0) (pa_cons pe_int pa_nil))) (pa_cons (pv 1) pa_nil))) pa_nil))))) pa_nil))) (pe_op op_mod (pv 3) pe_int) (fun _ _=>by rfl)))))) pss_nil)
   (pss_cutE (ps_set (i:=7) sc_leaf.nd rfl (Or.inl rfl) (pe_callC cs hr (by rfl) (pa_cons (pe_callC cm r1 (by rfl) (pa_cons (pv 0) (pa_cons pe_int pa_nil))) (pa_cons (pv 1) pa_nil))))
   (pss_cutE (ps_set (i:=6) sc_leaf.nd rfl (Or.inl rfl) (pe_lst (pa_cons (pe_tup (pa_cons pe_str (pa_cons (pe_callC cl r1 (by rfl) (pa_cons (pv 0) (pa_cons (pe_op op_fdiv (pv 3) pe_int) pa_nil))) pa_nil))) (pa_cons (pe_tup (pa_cons pe_str (pa_cons (pv 7) pa_nil))) (pa_cons (pe_tup (pa_cons pe_str (pa_cons (pv 4) (pa_cons (pv 5) pa_nil)))) pa_nil)))))
   (pss_cutE (ps_set (i:=6) sc_leaf.nd rfl (Or.inl rfl) (pe_op op_cat (pv 6) (pe_lst (pa_cons (pe_tup (pa_cons pe_str (pa_cons (pv 4) (pa_cons (pv 5) pa_nil)))) pa_nil))))
   (pss_one (ps_ret (pe_ix ix_list (pe_op op_cat (pv 6) (pe_lst (pa_cons (pe_tup (pa_cons pe_str (pa_cons (pv 4) (pa_cons (pv 5) pa_nil)))) (pa_cons (pe_tup (pa_cons pe_str (pa_cons (pv 7) (pa_cons (pe_callC cs hr (by rfl) (pa_cons (pe_op op_fdiv (pv 3) pe_int) (pa_cons (pv 1) pa_nil))) pa_nil)))) pa_nil)))) (pe_op op_mod (pv 3) pe_int) (fun _ _=>by rfl))))))))))),?_⟩
  refine ⟨fun σ' H'=>H=H'∧∃ n:Int,0≤n∧σ'=[some (.int c),some (.ref l),some (.bl b),some (.int n),none,none,none,none],⟨_,rfl,c,1,rfl,by decide,by decide,fun n hn=>⟨rfl,n,hn,rfl⟩⟩,?_⟩
  rintro σ' H' ⟨rfl,n,hn,rfl⟩
  refine ⟨fun σ' H'=>Same H H'∧∃ x:Str,okN x=true∧x.length≤12∧σ'=[some (.int c),some (.ref l),some (.bl b),some (.int n),some (.str x),none,none,none],⟨_,rfl,_,_,rfl,rfl,⟨by decide,by decide⟩,_,rfl,n / 30,l,ws,rfl,Int.ediv_nonneg hn (by decide),hl,hw,fun x H' hx hxl s'=>⟨s',x,hx,hxl,rfl⟩⟩,?_⟩
  rintro σ' H1 ⟨s1,x,hx,hxl,rfl⟩
  refine ⟨fun σ' H'=>Same H H'∧∃ y:Str,okN y=true∧y.length≤12∧σ'=[some (.int c),some (.ref l),some (.bl b),some (.int n),some (.str x),some (.str y),none,none],⟨_,rfl,c,2,rfl,by decide,by decide,fun n2 hn2=>⟨_,rfl,n2,l,ws,rfl,hn2,s1 _ _ hl,hw,fun y H' hy hyl s'=>⟨s1.trans s',y,hy,hyl,rfl⟩⟩⟩,?_⟩
  clear s1 H1
  rintro σ' H1 ⟨s1,y,hy,hyl,rfl⟩
  have hl1:=s1 _ _ hl
  have nxy:∀ z ∈ [x,y],okN z=true:=fun z hz=>by
   simp only [List.mem_cons,List.not_mem_nil,or_false] at hz
   rcases hz with rfl | rfl
   ·exact hx
   ·exact hy
  have fin:∀ (cs:List Cl),(∀ c0 ∈ cs,wf c0∧isT c0=(!b)∧dep c0=1∧(tx c0).length≤120)→∀ {H2:Hp} {v:V} {c0:Cl},c0 ∈ cs→Same H H2→RelF (fun p=>H p=none) H2 v c0→Q v H2:=fun cs h H2 v c0 hc s2 r=>q c0 v H2 (h c0 hc).1 (h c0 hc).2.1 (h c0 hc).2.2.1 (h c0 hc).2.2.2 s2 r
  cases b with
  | true =>
   refine ⟨_,rfl,_,rfl,iteT ?_⟩
   refine ⟨fun σ' H'=>Same H H'∧∃ (p:Addr) (vs:List V) (m:Int),wfN m∧vs.length=3∧H' p=some (.lst vs)∧Paired (RelF (fun p=>H p=none) H') vs [.nm "way" [x,y],.cost x y m,.nm "ring" []]∧σ'=[some (.int c),some (.ref l),some (.bl true),some (.int n),some (.str x),some (.str y),some (.ref p),none],?_,?_⟩
   ·refine ⟨_,rfl,_,rfl,by show 3≤sizeLine; decide,fun t1 h1=>?_⟩
    have a1:Same H1 (upd H1 t1 (.tup [.str "way",.str x,.str y])):=Same.new h1
    have g1:(upd H1 t1 (.tup [.str "way",.str x,.str y])) t1=some (.tup [.str "way",.str x,.str y]):=upd_same
    generalize upd H1 t1 (.tup [.str "way",.str x,.str y])=H2 at a1 g1
    refine ⟨_,rfl,_,rfl,_,rfl,_,rfl,_,_,rfl,rfl,⟨by decide,by decide⟩,c,n / 5,rfl,Int.ediv_nonneg hn (by decide),fun m hm=>⟨by show 4≤sizeLine; decide,fun t2 h2=>?_⟩⟩
    have a2:Same H2 (upd H2 t2 (.tup [.str "cost",.str x,.str y,.int m])):=Same.new h2
    have g2:(upd H2 t2 (.tup [.str "cost",.str x,.str y,.int m])) t2=some (.tup [.str "cost",.str x,.str y,.int m]):=upd_same
    generalize upd H2 t2 (.tup [.str "cost",.str x,.str y,.int m])=H3 at a2 g2
    refine ⟨by show 1≤sizeLine; decide,fun t3 h3=>?_⟩
    have a3:Same H3 (upd H3 t3 (.tup [.str "ring"])):=Same.new h3
    have g3:(upd H3 t3 (.tup [.str "ring"])) t3=some (.tup [.str "ring"]):=upd_same
    generalize upd H3 t3 (.tup [.str "ring"])=H4 at a3 g3
    refine ⟨by show 3≤sizeLine; decide,fun p hp=>?_⟩
    have a4:Same H4 (upd H4 p (.lst [.ref t1,.ref t2,.ref t3])):=Same.new hp
    exact ⟨s1.trans (a1.trans (a2.trans (a3.trans a4))),p,_,m,hm,rfl,upd_same,.cons (rel_nm (ns:=[x,y]) (a4 _ _ (a3 _ _ (a2 _ _ g1))) (by decide +kernel) nxy) (.cons (pd_tup (n:=2) (a4 _ _ (a3 _ _ g2)) (.cons (pd_str (by decide +kernel)) (.cons (pd_str (okN_strOk hx)) (.cons (pd_str (okN_strOk hy)) (.cons pd_int .nil))))) (.cons (rel_nm (ns:=[]) (a4 _ _ g3) (by decide +kernel) (fun _ z=>nomatch z)) .nil)),rfl⟩
   clear hl1 s1 H1
   rintro σ' H1 ⟨s1,p,vs,m,hm,hv,gp,pr,rfl⟩
   refine ⟨fun σ' H'=>Same H H'∧∃ (p:Addr) (vs:List V),vs.length=4∧H' p=some (.lst vs)∧Paired (RelF (fun p=>H p=none) H') vs [.nm "way" [x,y],.cost x y m,.nm "ring" [],.nm "round" []]∧σ'=[some (.int c),some (.ref l),some (.bl true),some (.int n),some (.str x),some (.str y),some (.ref p),none],?_,?_⟩
   ·refine ⟨_,rfl,by show 1≤sizeLine; decide,fun t1 h1=>?_⟩
    have a1:Same H1 (upd H1 t1 (.tup [.str "round"])):=Same.new h1
    have g1:(upd H1 t1 (.tup [.str "round"])) t1=some (.tup [.str "round"]):=upd_same
    generalize upd H1 t1 (.tup [.str "round"])=H2 at a1 g1
    refine ⟨by show 1≤sizeLine; decide,fun p2 h2=>?_⟩
    have a2:Same H2 (upd H2 p2 (.lst [.ref t1])):=Same.new h2
    have g2:(upd H2 p2 (.lst [.ref t1])) p2=some (.lst [.ref t1]):=upd_same
    generalize upd H2 p2 (.lst [.ref t1])=H3 at a2 g2
    refine ⟨p,p2,_,_,rfl,rfl,(a1.trans a2) _ _ gp,g2,by rw [hv]; show 3 + 1≤sizeLine; decide,fun p3 h3=>?_⟩
    have a3:Same H3 (upd H3 p3 (.lst (vs++[.ref t1]))):=Same.new h3
    exact ⟨s1.trans (a1.trans (a2.trans a3)),p3,_,by rw [List.length_append,hv]; rfl,upd_same,Paired.snoc (rels_same (a1.trans (a2.trans a3)) pr) (rel_nm (ns:=[]) (a3 _ _ (a2 _ _ g1)) (by decide +kernel) (fun _ z=>nomatch z)),rfl⟩
   clear pr gp hv s1 H1 p
   rintro σ' H1 ⟨s1,p,vs,hv,gp,pr,rfl⟩
   refine ⟨_,rfl,_,rfl,_,rfl,_,rfl,c,3,rfl,by decide,by decide,fun n3 hn3=>⟨_,rfl,n3,l,ws,rfl,hn3,s1 _ _ hl,hw,fun z H2 hz hzl a0=>⟨by show 4≤sizeLine; decide,fun t1 h1=>?_⟩⟩⟩
   have a1:Same H2 (upd H2 t1 (.tup [.str "must",.str x,.str y,.str z])):=Same.new h1
   have g1:(upd H2 t1 (.tup [.str "must",.str x,.str y,.str z])) t1=some (.tup [.str "must",.str x,.str y,.str z]):=upd_same
   generalize upd H2 t1 (.tup [.str "must",.str x,.str y,.str z])=H3 at a1 g1
   refine ⟨by show 1≤sizeLine; decide,fun p2 h2=>?_⟩
   have a2:Same H3 (upd H3 p2 (.lst [.ref t1])):=Same.new h2
   have g2:(upd H3 p2 (.lst [.ref t1])) p2=some (.lst [.ref t1]):=upd_same
   generalize upd H3 p2 (.lst [.ref t1])=H4 at a2 g2
   have a3:=a0.trans (a1.trans a2)
   refine ⟨p,p2,_,_,rfl,rfl,a3 _ _ gp,g2,by rw [hv]; show 4 + 1≤sizeLine; decide,fun p3 h3=>?_⟩
   have a4:Same H4 (upd H4 p3 (.lst (vs++[.ref t1]))):=Same.new h3
   have g4:(upd H4 p3 (.lst (vs++[.ref t1]))) p3=some (.lst (vs++[.ref t1])):=upd_same
   have pr4:Paired (RelF (fun p=>H p=none) (upd H4 p3 (.lst (vs++[.ref t1])))) (vs++[.ref t1]) ([.nm "way" [x,y],.cost x y m,.nm "ring" [],.nm "round" []]++[.nm "must" [x,y,z]]):=Paired.snoc (rels_same (a3.trans a4) pr) (rel_nm (ns:=[x,y,z]) (a4 _ _ (a2 _ _ g1)) (by decide +kernel) (fun u hu=>by
    rcases List.mem_cons.mp hu with rfl | hu
    ·exact hx
    rcases List.mem_cons.mp hu with rfl | hu
    ·exact hy
    have:u=z:=by simpa using hu
    rw [this]
    exact hz))
   generalize upd H4 p3 (.lst (vs++[.ref t1]))=H5 at a4 g4 pr4
   obtain ⟨v,c0,e0,hc0,r0⟩:=pick pr4 (k:=5) (by rw [List.length_append,hv]; rfl) (show 0≤n % 5 by omega) (show n % 5 < ((5:Nat):Int) by omega)
   refine ⟨_,rfl,_,_,rfl,rfl,(by show (0:Int) < 5; decide),p3,_,_,v,rfl,rfl,SqL.of g4,e0,fin _ (fun c1 hc1=>?_) hc0 (s1.trans (a3.trans a4)) r0⟩
   have nz:∀ u ∈ [x,y,z],okN u=true:=fun u hu=>by
    rcases List.mem_cons.mp hu with rfl | hu
    ·exact hx
    rcases List.mem_cons.mp hu with rfl | hu
    ·exact hy
    have:u=z:=by simpa using hu
    rw [this]
    exact hz
   simp only [List.cons_append,List.nil_append,List.mem_cons,List.not_mem_nil,or_false] at hc1
   rcases hc1 with rfl | rfl | rfl | rfl | rfl
   ·exact ⟨⟨by show nb "way" = some 2; decide +kernel,nxy⟩,by show decide (("way" : Str) ∈ termWs)=false; decide +kernel,rfl,nm_len (by decide +kernel) hxl hyl⟩
   ·refine ⟨⟨hx,hy,hm⟩,by show decide (("cost" : Str) ∈ termWs)=false; decide +kernel,rfl,?_⟩
    show ((Str.join " " ["cost",x,y]++(" <= " : Str))++numT m).length≤120
    have j:=join_len " " ["cost",x,y] (List.cons_ne_nil _ _)
    rw [l_sp] at j
    have l4:(" <= " : Str).length=4:=by decide +kernel
    have l5:("cost" : Str).length=4:=by decide +kernel
    have:=num_len8 hm
    rw [str_len_app,str_len_app]
    simp at j
    omega
   ·exact ⟨⟨by decide +kernel,fun _ z=>nomatch z⟩,by show decide (("ring" : Str) ∈ termWs)=false; decide +kernel,rfl,by decide +kernel⟩
   ·exact ⟨⟨by decide +kernel,fun _ z=>nomatch z⟩,by show decide (("round" : Str) ∈ termWs)=false; decide +kernel,rfl,by decide +kernel⟩
   ·refine ⟨⟨by show nb "must" = some 3; decide +kernel,nz⟩,by show decide (("must" : Str) ∈ termWs)=false; decide +kernel,rfl,?_⟩
    show (Str.join " " ["must",x,y,z]).length≤120
    have j:=join_len " " ["must",x,y,z] (List.cons_ne_nil _ _)
    rw [l_sp] at j
    have l5:("must" : Str).length=4:=by decide +kernel
    simp at j
    omega
  | false =>
   refine ⟨_,rfl,_,rfl,iteF ?_⟩
   refine ⟨fun σ' H'=>Same H H'∧∃ (k:Ks) (u:V),wfK k∧(txK k).length≤50∧RelK (fun p=>H p=none) H' u k∧σ'=[some (.int c),some (.ref l),some (.bl false),some (.int n),some (.str x),some (.str y),none,some u],⟨_,rfl,c,4,rfl,by decide,by decide,fun n4 hn4=>⟨_,rfl,n4,l,ws,rfl,hn4,hl1,hw,fun k u H' wk lk s' rk=>⟨s1.trans s',k,u,wk,lk,PDF.weak (fun p hp=>none_same s1 hp) rk,rfl⟩⟩⟩,?_⟩
   clear hl1 s1 H1
   rintro σ' H1 ⟨s1,k,u,wk,lk,rk,rfl⟩
   refine ⟨fun σ' H'=>Same H H'∧RelK (fun p=>H p=none) H' u k∧∃ (p:Addr) (vs:List V) (m:Int),wfN m∧vs.length=3∧H' p=some (.lst vs)∧Paired (RelF (fun p=>H p=none) H') vs [.num m,.size k,.nm "flow" [x,y]]∧σ'=[some (.int c),some (.ref l),some (.bl false),some (.int n),some (.str x),some (.str y),some (.ref p),some u],?_,?_⟩
   ·refine ⟨_,rfl,_,rfl,_,_,rfl,rfl,⟨by decide,by decide⟩,c,n / 6,rfl,Int.ediv_nonneg hn (by decide),fun m hm=>⟨by show 2≤sizeLine; decide,fun t1 h1=>?_⟩⟩
    have a1:Same H1 (upd H1 t1 (.tup [.str "number",.int m])):=Same.new h1
    have g1:(upd H1 t1 (.tup [.str "number",.int m])) t1=some (.tup [.str "number",.int m]):=upd_same
    generalize upd H1 t1 (.tup [.str "number",.int m])=H2 at a1 g1
    refine ⟨_,rfl,by show 2≤sizeLine; decide,fun t2 h2=>?_⟩
    have a2:Same H2 (upd H2 t2 (.tup [.str "size",u])):=Same.new h2
    have g2:(upd H2 t2 (.tup [.str "size",u])) t2=some (.tup [.str "size",u]):=upd_same
    generalize upd H2 t2 (.tup [.str "size",u])=H3 at a2 g2
    refine ⟨_,rfl,_,rfl,by show 3≤sizeLine; decide,fun t3 h3=>?_⟩
    have a3:Same H3 (upd H3 t3 (.tup [.str "flow",.str x,.str y])):=Same.new h3
    have g3:(upd H3 t3 (.tup [.str "flow",.str x,.str y])) t3=some (.tup [.str "flow",.str x,.str y]):=upd_same
    generalize upd H3 t3 (.tup [.str "flow",.str x,.str y])=H4 at a3 g3
    refine ⟨by show 3≤sizeLine; decide,fun p hp=>?_⟩
    have a4:Same H4 (upd H4 p (.lst [.ref t1,.ref t2,.ref t3])):=Same.new hp
    have aa:=a1.trans (a2.trans (a3.trans a4))
    exact ⟨s1.trans aa,PDF.same aa rk,p,_,m,hm,rfl,upd_same,.cons (pd_tup (n:=2) (a4 _ _ (a3 _ _ (a2 _ _ g1))) (.cons (pd_str (by decide +kernel)) (.cons pd_int .nil))) (.cons (pd_tup (n:=2) (a4 _ _ (a3 _ _ g2)) (.cons (pd_str (by decide +kernel)) (.cons (PDF.same aa rk) .nil))) (.cons (rel_nm (ns:=[x,y]) (a4 _ _ g3) (by decide +kernel) nxy) .nil)),rfl⟩
   clear rk s1 H1
   rintro σ' H1 ⟨s1,rk,p,vs,m,hm,hv,gp,pr,rfl⟩
   refine ⟨fun σ' H'=>Same H H'∧RelK (fun p=>H p=none) H' u k∧∃ (p:Addr) (vs:List V),vs.length=4∧H' p=some (.lst vs)∧Paired (RelF (fun p=>H p=none) H') vs [.num m,.size k,.nm "flow" [x,y],.nm "apart" [x,y]]∧σ'=[some (.int c),some (.ref l),some (.bl false),some (.int n),some (.str x),some (.str y),some (.ref p),some u],?_,?_⟩
   ·refine ⟨_,rfl,_,rfl,_,rfl,by show 3≤sizeLine; decide,fun t1 h1=>?_⟩
    have a1:Same H1 (upd H1 t1 (.tup [.str "apart",.str x,.str y])):=Same.new h1
    have g1:(upd H1 t1 (.tup [.str "apart",.str x,.str y])) t1=some (.tup [.str "apart",.str x,.str y]):=upd_same
    generalize upd H1 t1 (.tup [.str "apart",.str x,.str y])=H2 at a1 g1
    refine ⟨by show 1≤sizeLine; decide,fun p2 h2=>?_⟩
    have a2:Same H2 (upd H2 p2 (.lst [.ref t1])):=Same.new h2
    have g2:(upd H2 p2 (.lst [.ref t1])) p2=some (.lst [.ref t1]):=upd_same
    generalize upd H2 p2 (.lst [.ref t1])=H3 at a2 g2
    refine ⟨p,p2,_,_,rfl,rfl,(a1.trans a2) _ _ gp,g2,by rw [hv]; show 3 + 1≤sizeLine; decide,fun p3 h3=>?_⟩
    have a3:Same H3 (upd H3 p3 (.lst (vs++[.ref t1]))):=Same.new h3
    have aa:=a1.trans (a2.trans a3)
    exact ⟨s1.trans aa,PDF.same aa rk,p3,_,by rw [List.length_append,hv]; rfl,upd_same,Paired.snoc (rels_same aa pr) (rel_nm (ns:=[x,y]) (a3 _ _ (a2 _ _ g1)) (by decide +kernel) nxy),rfl⟩
   clear rk pr gp hv s1 H1 p
   rintro σ' H1 ⟨s1,rk,p,vs,hv,gp,pr,rfl⟩
   refine ⟨_,rfl,_,rfl,_,rfl,by show 3≤sizeLine; decide,fun t1 h1=>?_⟩
   have a1:Same H1 (upd H1 t1 (.tup [.str "bare",.str x,.str y])):=Same.new h1
   have g1:(upd H1 t1 (.tup [.str "bare",.str x,.str y])) t1=some (.tup [.str "bare",.str x,.str y]):=upd_same
   generalize upd H1 t1 (.tup [.str "bare",.str x,.str y])=H2 at a1 g1
   refine ⟨_,rfl,_,rfl,_,_,rfl,rfl,⟨by decide,by decide⟩,_,rfl,n / 6,l,ws,rfl,Int.ediv_nonneg hn (by decide),(s1.trans a1) _ _ hl,hw,fun k2 u2 H3 wk2 lk2 a2 rk2=>⟨by show 3≤sizeLine; decide,fun t2 h2=>?_⟩⟩
   have a3:Same H3 (upd H3 t2 (.tup [.str "pairs",u,u2])):=Same.new h2
   have g3:(upd H3 t2 (.tup [.str "pairs",u,u2])) t2=some (.tup [.str "pairs",u,u2]):=upd_same
   generalize upd H3 t2 (.tup [.str "pairs",u,u2])=H4 at a3 g3
   refine ⟨by show 2≤sizeLine; decide,fun p2 h3=>?_⟩
   have a4:Same H4 (upd H4 p2 (.lst [.ref t1,.ref t2])):=Same.new h3
   have g4:(upd H4 p2 (.lst [.ref t1,.ref t2])) p2=some (.lst [.ref t1,.ref t2]):=upd_same
   generalize upd H4 p2 (.lst [.ref t1,.ref t2])=H5 at a4 g4
   have a5:=a1.trans (a2.trans (a3.trans a4))
   refine ⟨p,p2,_,_,rfl,rfl,a5 _ _ gp,g4,by rw [hv]; show 4 + 2≤sizeLine; decide,fun p3 h4=>?_⟩
   have a6:Same H5 (upd H5 p3 (.lst (vs++[.ref t1,.ref t2]))):=Same.new h4
   have g6:(upd H5 p3 (.lst (vs++[.ref t1,.ref t2]))) p3=some (.lst (vs++[.ref t1,.ref t2])):=upd_same
   have ab:=a5.trans a6
   have pr6:Paired (RelF (fun p=>H p=none) (upd H5 p3 (.lst (vs++[.ref t1,.ref t2])))) ((vs++[.ref t1])++[.ref t2]) (([.num m,.size k,.nm "flow" [x,y],.nm "apart" [x,y]]++[.nm "bare" [x,y]])++[.pairs k k2]) :=
    Paired.snoc (Paired.snoc (rels_same ab pr) (rel_nm (ns:=[x,y]) ((a2.trans (a3.trans (a4.trans a6))) _ _ g1) (by decide +kernel) nxy)) (pd_tup (n:=2) (a6 _ _ (a4 _ _ g3)) (.cons (pd_str (by decide +kernel)) (.cons (PDF.same ab rk) (.cons (PDF.same (a3.trans (a4.trans a6)) (PDF.weak (fun p hp=>none_same (s1.trans a1) hp) rk2)) .nil))))
   rw [List.append_assoc] at pr6
   have e2:([V.ref t1]++[V.ref t2]:List V)=[V.ref t1,V.ref t2]:=rfl
   rw [e2] at pr6
   generalize upd H5 p3 (.lst (vs++[.ref t1,.ref t2]))=H6 at a6 g6 ab pr6
   obtain ⟨v,c0,e0,hc0,r0⟩:=pick pr6 (k:=6) (by rw [List.length_append,hv]; rfl) (show 0≤n % 6 by omega) (show n % 6 < ((6:Nat):Int) by omega)
   refine ⟨_,rfl,_,_,rfl,rfl,(by show (0:Int) < 6; decide),p3,_,_,v,rfl,rfl,SqL.of g6,e0,fin _ (fun c1 hc1=>?_) hc0 (s1.trans ab) r0⟩
   simp only [List.cons_append,List.nil_append,List.mem_cons,List.not_mem_nil,or_false] at hc1
   rcases hc1 with rfl | rfl | rfl | rfl | rfl | rfl
   ·exact ⟨hm,by show decide (("number" : Str) ∈ termWs)=true; decide +kernel,rfl,Nat.le_trans (num_len8 hm) (by decide)⟩
   ·refine ⟨wk,by show decide (("size" : Str) ∈ termWs)=true; decide +kernel,rfl,?_⟩
    show (Str.join " " ["size",txK k]).length≤120
    have j:=join_len " " ["size",txK k] (List.cons_ne_nil _ _)
    rw [l_sp] at j
    have l5:("size" : Str).length=4:=by decide +kernel
    simp at j
    omega
   ·exact ⟨⟨by show nb "flow" = some 2; decide +kernel,nxy⟩,by show decide (("flow" : Str) ∈ termWs)=true; decide +kernel,rfl,nm_len (by decide +kernel) hxl hyl⟩
   ·exact ⟨⟨by show nb "apart" = some 2; decide +kernel,nxy⟩,by show decide (("apart" : Str) ∈ termWs)=true; decide +kernel,rfl,nm_len (by decide +kernel) hxl hyl⟩
   ·exact ⟨⟨by show nb "bare" = some 2; decide +kernel,nxy⟩,by show decide (("bare" : Str) ∈ termWs)=true; decide +kernel,rfl,nm_len (by decide +kernel) hxl hyl⟩
   ·refine ⟨⟨wk,wk2⟩,by show decide (("pairs" : Str) ∈ termWs)=true; decide +kernel,rfl,?_⟩
    show (Str.join " " ["pairs",txK k,txK k2]).length≤120
    have j:=join_len " " ["pairs",txK k,txK k2] (List.cons_ne_nil _ _)
    rw [l_sp] at j
    have l5:("pairs" : Str).length=5:=by decide +kernel
    simp at j
    omega
end
end Net
namespace Net
open PySem L2 L2.Tx
def OptAt (Z:Addr→Prop) (t:Bool) (H:Hp) (o:V):Option Cl→Prop
 | none=>o=.non
 | some c=>RelF Z H o c∧wf c∧isT c=t∧∃ a,o=.ref a
def spRC:Sp:=fun vs H Q _=>∃ (c:Int) (l:Addr) (ws:List Str) (v o:V) (c0:Cl) (oc:Option Cl) (Z:Addr→Prop),(∀ p,H p=none→Z p)∧vs=[.int c,.ref l,v,o]∧H l=some (.lst (ws.map V.str))∧Wds ws∧RelF Z H v c0∧wf c0∧isT c0=false∧OptAt Z false H o oc ∧
 (∀ c2,oc=some c2→∀ (x:Str) v' H',(x = "and" ∨ x = "or")→Same H H'→RelF Z H' v' (.bin x c0 c2)→Q v' H')∧∀ c' v' H',hw c' ≠ "and" → hw c' ≠ "or" → wf c'→isT c'=false→dep c'=1 + dep c0→(tx c').length≤(tx c0).length + 120→Same H H'→RelF Z H' v' c'→Q v' H'
def spRT:Sp:=fun vs H Q _=>∃ (c:Int) (v o:V) (c0:Cl) (oc:Option Cl) (Z:Addr→Prop),(∀ p,H p=none→Z p)∧vs=[.int c,v,o]∧RelF Z H v c0∧wf c0∧isT c0=true∧OptAt Z true H o oc ∧
 ∀ c' v' H',wf c'→isT c'=true→dep c'≤1 + max (dep c0) ((oc.map dep).getD 0)→(tx c').length≤(tx c0).length + (oc.map fun z=>(tx z).length).getD 0 + 120→Same H H'→RelF Z H' v' c'→Q v' H'
theorem ab_at {wy:Int} (h1:wy ≠ 0) (h2:wy < 3) (h0:0≤wy):∃ x:Str,(x = "and" ∨ x = "or")∧atI [V.str "and",V.str "or"] (wy - 1)=some (V.str x):=by
 have:wy=1 ∨ wy=2:=by omega
 rcases this with rfl | rfl
 ·exact ⟨"and",.inl rfl,rfl⟩
 ·exact ⟨"or",.inr rfl,rfl⟩
theorem vr_at (n:Int):∃ x:Str,varB x=true∧x.length≤3∧atI [V.str "X",V.str "Y",V.str "QQ",V.str "ABD",V.str "Z"] (n % 5)=some (V.str x):=by
 have:n % 5=0 ∨ n % 5=1 ∨ n % 5=2 ∨ n % 5=3 ∨ n % 5=4:=by omega
 rcases this with z | z | z | z | z <;> rw [z]
 ·exact ⟨"X",by decide +kernel,by decide +kernel,rfl⟩
 ·exact ⟨"Y",by decide +kernel,by decide +kernel,rfl⟩
 ·exact ⟨"QQ",by decide +kernel,by decide +kernel,rfl⟩
 ·exact ⟨"ABD",by decide +kernel,by decide +kernel,rfl⟩
 ·exact ⟨"Z",by decide +kernel,by decide +kernel,rfl⟩
theorem es_at (n:Int):∃ x:Str,(x = "each" ∨ x = "some")∧atI [V.str "each",V.str "some"] (n % 2)=some (V.str x):=by
 have:n % 2=0 ∨ n % 2=1:=by omega
 rcases this with z | z <;> rw [z]
 ·exact ⟨"each",.inl rfl,rfl⟩
 ·exact ⟨"some",.inr rfl,rfl⟩
theorem num_len8c {n:Int} (h:wfN n):(numT n).length≤61:=by
 have:=(num_len h.1).2
 rw [len_eq] at this
 exact this
theorem varB_strOk8 {x:Str} (h:varB x=true):PyData.strOk x=true:=okN_strOk (by unfold okN; rw [h,Bool.or_true])
section
variable {P:Program} {w:World} {K:PySem.W.Frag} {mg:Str→Option Value} {base:Heap}
theorem sc_rc81:FnScope ["_law_cell","_law_words_here","_law_one","_law_other","_law_number","_law_way","_law_variable"] ["_law_cell","_law_words_here","_law_one","_law_other"] (defScope s_l_round_claim):=⟨rfl,rfl,rfl,by decide +kernel,rfl,by decide +kernel,by decide +kernel⟩
theorem ok_rc81 {f:Addr} {fd:FuncData} (F:Fun K "_law_round_claim" "_law_round_claim" s_l_round_claim f fd) (cm:Can P w K mg base 1 "_law_mixed" ["_law_cell","_law_k"] spMixed) (cs:Can P w K mg base 2 "_law_set" ["_law_number","_law_words_here"] spSetL) :
  FnOk P w K mg base CX0 3 f fd ["_law_cell","_law_words_here","_law_one","_law_other"] spRC:=by
 refine F.ok sc_rc81 (fun vs H Q E h=>?_) (fun cdv A outer s H vs Q E hr h=>?_)
 ·obtain ⟨c,l,ws,v,o,c0,oc,Z,hz,rfl,_⟩:=h
  rfl
 ·obtain ⟨c,l,ws,v,o,c0,oc,Z,hz,rfl,hl,hw,rel,wc,ht,ho,q1,q2⟩:=h
  have r1:Room 1 _:=hr.mono (by decide)
  refine ⟨_,(pss_cutE (ps_set (i:=4) sc_rc81.nd rfl (Or.inl rfl) (pe_callC cm r1 (by rfl) (pa_cons (pv 0) (pa_cons pe_int pa_nil))))
   (pss_cutE (ps_set (i:=5) sc_rc81.nd rfl (Or.inl rfl) (pe_op op_mod (pv 4) pe_int))
   (pss_cons (ps_if (pt_cmpR op_eq (pv 5) pe_int (nomark _)) (pss_one (ps_ret (pe_tup (pa_cons pe_str (pa_cons (pv 2) pa_nil))))) pss_nil)
   (pss_cutE (ps_if (PW.pt (pw_and (pt_cmpR op_lt (pv 5) pe_int (nomark _)) (pw_and1 (pt_cmp (pc_notN (pv 3)))))) (pss_one (ps_ret (pe_tup (pa_cons (pe_ix ix_list (pe_lst (pa_cons pe_str (pa_cons pe_str pa_nil))) (pe_op op_sub (pv 5) pe_int) (fun _ _=>by rfl)) (pa_cons (pv 2) (pa_cons (pv 3) pa_nil)))))) pss_nil)
   (pss_cutE (ps_set (i:=6) sc_rc81.nd rfl (Or.inl rfl) (pe_ix ix_list (pe_lst (pa_cons pe_str (pa_cons pe_str (pa_cons pe_str (pa_cons pe_str (pa_cons pe_str pa_nil)))))) (pe_op op_mod (pe_op op_fdiv (pv 4) pe_int) pe_int) (fun _ _=>by rfl)))
   (pss_one (ps_ret (pe_tup (pa_cons (pe_ix ix_list (pe_lst (pa_cons pe_str (pa_cons pe_str pa_nil))) (pe_op op_mod (pe_op op_fdiv (pv 4) pe_int) pe_int) (fun _ _=>by rfl)) (pa_cons (pv 6) (pa_cons (pe_callC cs hr (by rfl) (pa_cons (pe_op op_fdiv (pv 4) pe_int) (pa_cons (pv 1) pa_nil))) (pa_cons (pv 2) pa_nil)))))))))))),?_⟩
  refine ⟨fun σ' H'=>H=H'∧∃ n:Int,0≤n∧σ'=[some (.int c),some (.ref l),some v,some o,some (.int n),none,none],⟨_,rfl,c,5,rfl,by decide,by decide,fun n hn=>⟨rfl,n,hn,rfl⟩⟩,?_⟩
  rintro σ' H' ⟨rfl,n,hn,rfl⟩
  refine ⟨fun σ' H'=>H=H'∧σ'=[some (.int c),some (.ref l),some v,some o,some (.int n),some (.int (n % 5)),none],⟨_,rfl,_,_,rfl,rfl,(by show (0:Int) < 5; decide),rfl,rfl⟩,?_⟩
  rintro σ' H' ⟨rfl,rfl⟩
  have w0:0≤n % 5:=by omega
  generalize hwy:n % 5=wy at w0
  refine ⟨_,rfl,rfl,_,rfl,ite2 (fun h=>?_) (fun h=>?_)⟩
  ·refine ⟨_,rfl,by show 2≤sizeLine; decide,fun t ht1=>?_⟩
   have s1:Same H (upd H t (.tup [.str "not",v])):=Same.new ht1
   refine q2 (.neg c0) _ _ (by show ("not" : Str) ≠ "and"; decide +kernel) (by show ("not" : Str) ≠ "or"; decide +kernel) ⟨ht,wc⟩ (by show decide (("not" : Str) ∈ termWs)=false; decide +kernel) rfl ?_ s1 (rel_neg upd_same (rel.same s1))
   show (("not " : Str)++tx c0).length≤_
   rw [str_len_app]
   have:("not " : Str).length=4:=by decide +kernel
   omega
  have n0:wy ≠ 0:=fun z=>h (decide_eq_true (by rw [z]))
  refine ⟨fun σ' H'=>H=H'∧σ'=[some (.int c),some (.ref l),some v,some o,some (.int n),some (.int wy),none],?_,?_⟩
  ·refine ⟨_,rfl,_,_,rfl,rfl,_,rfl,ite2 (fun h3=>?_) (fun _=>⟨rfl,rfl⟩)⟩
   obtain ⟨x,hx,ex⟩:=ab_at n0 (of_decide_eq_true h3) w0
   cases oc with
   | none =>
    cases (show o=.non from ho)
    exact ⟨_,rfl,_,rfl,iteFb (by decide) ⟨rfl,rfl⟩⟩
   | some c2 =>
    obtain ⟨rel2,wc2,ht2,a2,rfl⟩:=ho
    refine ⟨_,rfl,_,rfl,iteTb (by rw [decide_eq_false (fun z=>nomatch z)]; rfl) ⟨by show 2≤sizeLine; decide,fun t ht1=>?_⟩⟩
    have s1:Same H (upd H t (.lst [.str "and",.str "or"])):=Same.new ht1
    have g1:(upd H t (.lst [.str "and",.str "or"])) t=some (.lst [.str "and",.str "or"]):=upd_same
    generalize upd H t (.lst [.str "and",.str "or"])=H1 at s1 g1
    refine ⟨_,rfl,_,_,rfl,rfl,t,_,_,_,rfl,rfl,SqL.of g1,ex,_,rfl,_,rfl,by show 3≤sizeLine; decide,fun t2 ht3=>?_⟩
    have s2:Same H1 (upd H1 t2 (.tup [.str x,v,.ref a2])):=Same.new ht3
    exact q1 c2 rfl x _ _ hx (s1.trans s2) (rel_2 upd_same (by rcases hx with rfl | rfl <;> decide +kernel) (rel.same (s1.trans s2)) (rel2.same (s1.trans s2)) rfl rfl)
  rintro σ' H' ⟨rfl,rfl⟩
  obtain ⟨vr,hv1,hv2,ev⟩:=vr_at (n / 5)
  obtain ⟨x,hx,ex⟩:=es_at (n / 25)
  refine ⟨fun σ' H'=>Same H H'∧σ'=[some (.int c),some (.ref l),some v,some o,some (.int n),some (.int wy),some (.str vr)],?_,?_⟩
  ·refine ⟨by show 5≤sizeLine; decide,fun t ht1=>?_⟩
   exact ⟨_,rfl,_,_,rfl,rfl,⟨by decide,by decide⟩,_,_,rfl,rfl,(by show (0:Int) < 5; decide),t,_,_,_,rfl,rfl,SqL.of upd_same,ev,Same.new ht1,rfl⟩
  rintro σ' H1 ⟨s1,rfl⟩
  refine ⟨by show 2≤sizeLine; decide,fun t ht1=>?_⟩
  have s2:Same H1 (upd H1 t (.lst [.str "each",.str "some"])):=Same.new ht1
  have g2:(upd H1 t (.lst [.str "each",.str "some"])) t=some (.lst [.str "each",.str "some"]):=upd_same
  generalize upd H1 t (.lst [.str "each",.str "some"])=H2 at s2 g2
  refine ⟨_,rfl,_,_,rfl,rfl,⟨by decide,by decide⟩,_,_,rfl,rfl,(by show (0:Int) < 2; decide),t,_,_,_,rfl,rfl,SqL.of g2,ex,_,rfl,_,rfl,_,_,rfl,rfl,⟨by decide,by decide⟩,_,rfl,n / 50,l,ws,rfl,Int.ediv_nonneg hn (by decide),(s1.trans s2) _ _ hl,hw,fun k u H3 wk lk s3 rk=>⟨_,rfl,by show 4≤sizeLine; decide,fun t2 ht2=>?_⟩⟩
  have s4:Same H3 (upd H3 t2 (.tup [.str x,.str vr,u,v])):=Same.new ht2
  have sa:=s1.trans (s2.trans (s3.trans s4))
  have xl:x.length≤4:=by rcases hx with rfl | rfl <;> decide +kernel
  refine q2 (.ov x vr k c0) _ _ ?_ ?_ ⟨hx,hv1,wk,ht,wc⟩ ?_ rfl ?_ sa (rel_ov upd_same (by rcases hx with rfl | rfl <;> decide +kernel) (varB_strOk8 hv1) (PDF.same s4 (PDF.weak (fun p hp=>hz p (none_same (s1.trans s2) hp)) rk)) (rel.same sa))
  ·show x ≠ "and"
   rcases hx with rfl | rfl <;> decide +kernel
  ·show x ≠ "or"
   rcases hx with rfl | rfl <;> decide +kernel
  ·show decide (x ∈ termWs)=false
   rcases hx with rfl | rfl <;> decide +kernel
  ·show (x++((" " : Str)++(vr++((" in " : Str)++(txK k++((": " : Str)++(tx c0++Str.empty))))))).length≤_
   rw [str_len_app,str_len_app,str_len_app,str_len_app,str_len_app,str_len_app,str_len_app]
   have e1:(" " : Str).length=1:=by decide +kernel
   have e2:(" in " : Str).length=4:=by decide +kernel
   have e3:(": " : Str).length=2:=by decide +kernel
   have e4:Str.empty.length=0:=rfl
   omega
theorem sc_rt81:FnScope ["_law_cell","_law_one","_law_other","_law_number","_law_times"] ["_law_cell","_law_one","_law_other"] (defScope s_l_round_term):=⟨rfl,rfl,rfl,by decide +kernel,rfl,by decide +kernel,by decide +kernel⟩
theorem ok_rt81 {f:Addr} {fd:FuncData} (F:Fun K "_law_round_term" "_law_round_term" s_l_round_term f fd) (cm:Can P w K mg base 1 "_law_mixed" ["_law_cell","_law_k"] spMixed):FnOk P w K mg base CX0 2 f fd ["_law_cell","_law_one","_law_other"] spRT:=by
 refine F.ok sc_rt81 (fun vs H Q E h=>?_) (fun cdv A outer s H vs Q E hr h=>?_)
 ·obtain ⟨c,v,o,c0,oc,Z,hz,rfl,_⟩:=h
  rfl
 ·obtain ⟨c,v,o,c0,oc,Z,hz,rfl,rel,wc,ht,ho,q⟩:=h
  refine ⟨_,(pss_cutE (ps_set (i:=3) sc_rt81.nd rfl (Or.inl rfl) (pe_callC cm hr (by rfl) (pa_cons (pv 0) (pa_cons pe_int pa_nil))))
   (pss_cutE (ps_if (PW.pt (pw_or (pt_cmp (pc_isN (pv 2))) (pw_or1 (pt_cmpR op_eq (pe_op op_mod (pv 3) pe_int) pe_int (nomark _))))) (pss_cutE (ps_set (i:=4) sc_rt81.nd rfl (Or.inl rfl) (pe_ix ix_list (pe_lst (pa_cons (pe_op op_mod (pe_op op_fdiv (pv 3) pe_int) pe_int) (pa_cons (pe_op op_mod (pv 0) (pe_op op_pow pe_int pe_int)) pa_nil))) (pe_op op_mod (pe_op op_fdiv (pv 3) pe_int) pe_int) (fun _ _=>by rfl)))
   (pss_one (ps_ret (pe_tup (pa_cons pe_str (pa_cons (pv 4) (pa_cons (pv 1) pa_nil))))))) pss_nil)
   (pss_one (ps_ret (pe_tup (pa_cons (pe_ix ix_list (pe_lst (pa_cons pe_str (pa_cons pe_str (pa_cons pe_str pa_nil)))) (pe_op op_sub (pe_op op_mod (pv 3) pe_int) pe_int) (fun _ _=>by rfl)) (pa_cons (pv 1) (pa_cons (pv 2) pa_nil)))))))),?_⟩
  refine ⟨fun σ' H'=>H=H'∧∃ n:Int,0≤n∧σ'=[some (.int c),some v,some o,some (.int n),none],⟨_,rfl,c,6,rfl,by decide,by decide,fun n hn=>⟨rfl,n,hn,rfl⟩⟩,?_⟩
  rintro σ' H' ⟨rfl,n,hn,rfl⟩
  refine ⟨fun σ' H'=>H=H'∧o ≠ .non∧n % 4 ≠ 0∧σ'=[some (.int c),some v,some o,some (.int n),none],?_,?_⟩
  ·have tm:∃ m:Int,0≤m∧wfN m∧atI [V.int (n / 4 % 30),V.int (c % 10 ^ (60:Int).toNat)] (n / 120 % 2)=some (V.int m):=by
    have:n / 120 % 2=0 ∨ n / 120 % 2=1:=by omega
    have e:(10:Int) ^ (60:Int).toNat=10 ^ 60:=rfl
    rcases this with z | z <;> rw [z]
    ·exact ⟨n / 4 % 30,by omega,wfN_of (by omega) (by omega),rfl⟩
    ·refine ⟨c % 10 ^ 60,Int.emod_nonneg _ (by decide),wfN_of ?_ (Int.emod_lt_of_pos _ (by decide)),rfl⟩
     have:=Int.emod_nonneg c (b:=10 ^ 60) (by decide)
     omega
   obtain ⟨m,hm0,hm,em⟩:=tm
   refine ⟨_,rfl,_,rfl,ite2 (fun h=>iteT ?_) (fun h=>⟨_,rfl,_,_,rfl,rfl,(by show (0:Int) < 4; decide),rfl,_,rfl,ite2 (fun h'=>?_) (fun h'=>⟨rfl,(fun z=>h (decide_eq_true z)),(fun z=>h' (decide_eq_true (by rw [← z]))),rfl⟩)⟩)⟩
   all_goals refine ⟨fun σ' H'=>Same H H'∧σ'=[some (.int c),some v,some o,some (.int n),some (.int m)],?_,?_⟩
   all_goals first | (rintro σ' H1 ⟨s1,rfl⟩; refine ⟨_,rfl,_,rfl,by show 3≤sizeLine; decide,fun t ht1=>?_⟩) | refine ⟨_,rfl,_,_,rfl,rfl,⟨by decide,by decide⟩,_,_,rfl,rfl,(by show (0:Int) < 30; decide),_,rfl,_,_,rfl,rfl,⟨by decide,by decide,by decide⟩,_,_,rfl,rfl,(by show (0:Int) < 10 ^ (60:Int).toNat; decide),by show 2≤sizeLine; decide,fun t ht1=>⟨_,rfl,_,_,rfl,rfl,⟨by decide,by decide⟩,_,_,rfl,rfl,(by show (0:Int) < 2; decide),t,_,_,_,rfl,rfl,SqL.of upd_same,em,Same.new ht1,rfl⟩⟩
   all_goals have s2:Same H1 (upd H1 t (.tup [.str "times",.int m,v])):=Same.new ht1
   all_goals refine q (.tim m c0) _ _ ⟨hm0,hm,ht,wc⟩ (by show decide (("times" : Str) ∈ termWs)=true; decide +kernel) (by show 1 + dep c0≤_; omega) ?_ (s1.trans s2) (rel_tim upd_same (rel.same (s1.trans s2)))
   all_goals show ((numT m++(" * " : Str))++tx c0).length≤_
   all_goals have l3:(" * " : Str).length=3:=by decide +kernel
   all_goals have:=num_len8c hm
   all_goals rw [str_len_app,str_len_app]
   all_goals omega
  rintro σ' H' ⟨rfl,ho1,hn4,rfl⟩
  cases oc with
  | none=>exact absurd (show o=.non from ho) ho1
  | some c2 =>
   obtain ⟨rel2,wc2,ht2,a2,rfl⟩:=ho
   have wd3:∃ x:Str,(x = "plus" ∨ x = "least" ∨ x = "most")∧atI [V.str "plus",V.str "least",V.str "most"] (n % 4 - 1)=some (V.str x):=by
    have:n % 4=1 ∨ n % 4=2 ∨ n % 4=3:=by omega
    rcases this with z | z | z <;> rw [z]
    ·exact ⟨"plus",.inl rfl,rfl⟩
    ·exact ⟨"least",.inr (.inl rfl),rfl⟩
    ·exact ⟨"most",.inr (.inr rfl),rfl⟩
   obtain ⟨x,hx,ex⟩:=wd3
   refine ⟨by show 3≤sizeLine; decide,fun t ht1=>?_⟩
   have s1:Same H (upd H t (.lst [.str "plus",.str "least",.str "most"])):=Same.new ht1
   have g1:(upd H t (.lst [.str "plus",.str "least",.str "most"])) t=some (.lst [.str "plus",.str "least",.str "most"]):=upd_same
   generalize upd H t (.lst [.str "plus",.str "least",.str "most"])=H1 at s1 g1
   refine ⟨_,rfl,_,_,rfl,rfl,(by show (0:Int) < 4; decide),_,_,rfl,rfl,t,_,_,_,rfl,rfl,SqL.of g1,ex,_,rfl,_,rfl,by show 3≤sizeLine; decide,fun t2 ht3=>?_⟩
   have s2:Same H1 (upd H1 t2 (.tup [.str x,v,.ref a2])):=Same.new ht3
   have e1:(" + " : Str).length=3:=by decide +kernel
   have e2:(", " : Str).length=2:=by decide +kernel
   have e3:("(" : Str).length=1:=by decide +kernel
   have e4:(")" : Str).length=1:=by decide +kernel
   have e5:Str.empty.length=0:=rfl
   by_cases hp:x = "plus"
   ·subst hp
    refine q (.plus c0 c2) _ _ ⟨ht,ht2,wc,wc2⟩ (by show decide (("plus" : Str) ∈ termWs)=true; decide +kernel) (Nat.le_refl _) ?_ (s1.trans s2) (rel_2 upd_same (by decide +kernel) (rel.same (s1.trans s2)) (rel2.same (s1.trans s2)) rfl rfl)
    show (("(" : Str)++(tx c0++((" + " : Str)++(tx c2++((")" : Str)++Str.empty))))).length≤(tx c0).length + (tx c2).length + 120
    rw [str_len_app,str_len_app,str_len_app,str_len_app,str_len_app]
    omega
   ·have hx2:=hx.resolve_left hp
    refine q (.two x c0 c2) _ _ ⟨hx2,ht,ht2,wc,wc2⟩ ?_ (Nat.le_refl _) ?_ (s1.trans s2) (rel_2 upd_same (by rcases hx2 with rfl | rfl <;> decide +kernel) (rel.same (s1.trans s2)) (rel2.same (s1.trans s2)) rfl rfl)
    ·show decide (x ∈ termWs)=true
     rcases hx2 with rfl | rfl <;> decide +kernel
    ·show (x++(("(" : Str)++(tx c0++((", " : Str)++(tx c2++((")" : Str)++Str.empty)))))).length≤(tx c0).length + (tx c2).length + 120
     have xl:x.length≤5:=by rcases hx2 with rfl | rfl <;> decide +kernel
     rw [str_len_app,str_len_app,str_len_app,str_len_app,str_len_app,str_len_app]
     omega
end
end Net
namespace L2
open PySem PySem.Spec PyProof.Rows
theorem call_maxL {X:Cx} (hc:X.calm=true):CallR X (.builtin "max") (fun xs H Q=>∃ (p:Addr) (ns:List Int),xs=[.ref p]∧SqL X.K H p (ns.map V.int)∧ns ≠ []∧∀ m ∈ ns,(∀ n ∈ ns,n≤m)→Q (.int m) H):=by
 intro pins s σ H xs us Q I r h
 obtain ⟨p,ns,rfl,hp,hne,q⟩:=h
 obtain ⟨u,rfl,ru⟩:=vals1 r
 cases ru
 obtain ⟨its,rv,ht,hz⟩:=I.list hp
 have hi:=intsAre_of rv
 obtain ⟨ys,hx⟩:=hi.allInts.items
 have hN:numsOf its.toArray.toList=ns:=by rw [show its.toArray.toList=its from rfl,hi.numsOf]
 have hl:=ht.isList
 rw [hx] at hl hN
 rw [nums_intItems] at hN
 subst hN
 have hsz:0 < ys.size:=by
  refine Nat.pos_of_ne_zero fun z=>hne ?_
  have:ys.toList=[]:=List.length_eq_zero_iff.mp (by rw [Array.length_toList]; exact z)
  rw [this]
  rfl
 refine max_intList (show X.A.handled=none from I.ok.hd hc) hl hsz fun v h' tk hv hk=>?_
 obtain ⟨t,rfl⟩:=intItems_at hv
 obtain ⟨h1,h2⟩:=argBest_gt (numAt ys) (ys.size - 1)
 refine ⟨.int _,H,I.kept (t':=tk) hk,⟨t,rfl⟩,q _ ?_ fun a ha=>?_⟩
 ·rw [numAt_eq]; exact getD_mem (by rw [List.length_map,Array.length_toList]; omega)
 ·obtain ⟨j,hj,rfl⟩:=mem_getD ha
  rw [List.length_map,Array.length_toList] at hj
  rw [← numAt_eq]; exact h2 j (by omega)
end L2
namespace Net
open PySem L2 L2.Tx
theorem sub_none {c:Cl} (h:hw c = "size" ∨ hw c = "pairs") (hw:wf c):subL (pts c)=[]:=by
 cases c with
 | size s=>rfl
 | pairs s t=>rfl
 | nm x ns=>exact subL_s ns
 | cost _ _ _=>rfl
 | num _=>rfl
 | atm _ _=>rcases h with z | z <;> exact absurd z (by show ("atmost" : Str) ≠ _; decide +kernel)
 | neg _=>rcases h with z | z <;> exact absurd z (by show ("not" : Str) ≠ _; decide +kernel)
 | plus _ _=>rcases h with z | z <;> exact absurd z (by show ("plus" : Str) ≠ _; decide +kernel)
 | tim _ _=>rcases h with z | z <;> exact absurd z (by show ("times" : Str) ≠ _; decide +kernel)
 | bin x _ _ =>
  have h':x = "size" ∨ x = "pairs" := h
  rcases hw.1 with rfl | rfl <;> rcases h' with z | z <;> exact absurd z (by decide +kernel)
 | two x _ _ =>
  have h':x = "size" ∨ x = "pairs" := h
  rcases hw.1 with rfl | rfl <;> rcases h' with z | z <;> exact absurd z (by decide +kernel)
 | ov x _ _ _ =>
  have h':x = "size" ∨ x = "pairs" := h
  rcases hw.1 with rfl | rfl <;> rcases h' with z | z <;> exact absurd z (by decide +kernel)
theorem eqv_nilD (ds:List PyData):PyData.eqv (.list ds) (.list [])=ds.isEmpty:=by
 cases ds with
 | nil=>simp [PyData.eqv,PyData.eqvAll]
 | cons d ds=>simp [PyData.eqv,PyData.eqvAll]
section
variable {P:Program} {w:World} {K:PySem.W.Frag} {mg:Str→Option Value} {base:Heap} {n:Nat}
theorem sc_ldep:FnScope ["_law_thing","_law_inner"] ["_law_thing"] (defScope s_l_depth):=⟨rfl,rfl,rfl,by decide +kernel,rfl,by decide +kernel,by decide +kernel⟩
def spLDep (n:Nat):Sp:=fun vs H Q _=>∃ (v:V) (c:Cl) (k:Nat),vs=[v]∧k≤60∧PD H k v (dat c)∧wf c∧dep c≤n∧∀ H',Same H H'→Q (.int (dep c:Int)) H'
theorem ok_ldep0 {f:Addr} {fd:FuncData} (F:Fun K "_law_depth" "_law_depth" s_l_depth f fd):FnOk P w K mg base CX0 1 f fd ["_law_thing"] (spLDep 0):=by
 refine F.ok sc_ldep (fun vs H Q E h=>?_) (fun cdv A outer s H vs Q E hr h=>?_)
 ·obtain ⟨v,c,k,rfl,_⟩:=h
  rfl
 ·obtain ⟨v,c,k,rfl,_,_,_,hd,_⟩:=h
  have:=dep_pos c
  omega
theorem ok_ldep {f:Addr} {fd:FuncData} (hn:n≤50) (F:Fun K "_law_depth" "_law_depth" s_l_depth f fd) (T:Txt K mg) (cd:Can P w K mg base (n + 1) "_law_depth" ["_law_thing"] (spLDep n)):FnOk P w K mg base CX0 (n + 2) f fd ["_law_thing"] (spLDep (n + 1)):=by
 have nd_0:List.Nodup (["_law_one"]:List Str):=by decide +kernel
 refine F.ok sc_ldep (fun vs H Q E h=>?_) (fun cdv A outer s H vs Q E hr h=>?_)
 ·obtain ⟨v,c,k,rfl,_⟩:=h
  rfl
 ·obtain ⟨v,c,k,rfl,hk,pd,wc,hd,q⟩:=h
  have hu:=hr.units
  refine ⟨_,(pss_cutE (ps_comp (j:=1) (N:=["_law_one"]) (xs:=1) (js:=[]) rfl sc_ldep.nd rfl rfl (compScope_of rfl) (pi_tup (pe_slice sl_tup (pv 0) (po_some pe_int) po_none)) (fun _ _ _ _=>pg_name (i:=0) nd_0 rfl (Or.inl rfl)) (fun _ _ _ _=>pts_one (PW.pt (pw_and (pt_val (pe_callB (call_isinstK K (by rfl)) (by rfl) T.isi b_isi (pa_cons (pv 0) (pa_cons (pe_ty T.tuple (by rfl) b_tuple) pa_nil)))) (pw_and1 (pt_cmpR (op_notInK K (by rfl)) (pe_ix (ix_tupK K (by rfl)) (pv 0) pe_int (fun _ _=>by rfl)) (pe_lst (pa_cons pe_str (pa_cons pe_str (pa_cons pe_str (pa_cons pe_str pa_nil))))) (by with_unfolding_all rfl)))))) (fun _ _ _ _=>pv 0) rfl)
   (pss_cutE (ps_if (PW.pt (pw_or (pt_cmpR op_in_seq (pe_ix ix_tup (pv 0) pe_int (fun _ _=>by rfl)) (pe_lst (pa_cons pe_str (pa_cons pe_str pa_nil))) (by with_unfolding_all rfl)) (pw_or1 (pt_cmpR (op_eqD hu) (pv 1) (pe_lst pa_nil) (nomark _))))) (pss_one (ps_ret pe_int)) pss_nil)
   (pss_one (ps_ret (pe_op op_add pe_int (pe_callB (call_maxL rfl) (by rfl) T.max b_max (pa_cons (pe_comp (N:=["_law_one"]) (xs:=1) (js:=[]) rfl (compScope_of rfl) (pi_list (pv 1)) (fun _ _ _ _=>pg_name (i:=0) nd_0 rfl (Or.inl rfl)) (fun _ _ _ _=>pts_nil) (fun _ _ _ _=>pe_callC cd hr (by rfl) (pa_cons (pv 0) pa_nil))) pa_nil))))))),?_⟩
  have pd0:=pd
  rw [dat_pts] at pd
  obtain ⟨m,a,xs0,em,rfl,ha,pr0⟩:=pd.tup_of
  have hm:m≤59:=by omega
  cases pr0 with
  | @cons y _ xs _ p1 pr =>
   have y1:=p1.str_is
   subst y1
   have hxl:xs.length=(pts c).length:=by
    have:=Paired.length pr
    rw [List.length_map] at this
    exact this
   have h3:=pts_len c wc
   have okp:=pts_ok wc
   have eqd:=dep_sub c
   have subn:=sub_none (c:=c)
   have sub_le:∀ c' ∈ subL (pts c),dep c'≤n:=fun c' hc'=>by
    have:=mxL_le (List.mem_map_of_mem (f:=dep) hc')
    omega
   have sub_wf:∀ c' ∈ subL (pts c),wf c':=by
    have key:∀ l:List Pt,(∀ p ∈ l,ptOk p)→∀ c' ∈ subL l,wf c':=fun l=>by
     induction l with
     | nil=>intro _ c' hc'; cases hc'
     | cons p l ih =>
      intro ok c' hc'
      have ih':=ih fun x hx=>ok x (List.mem_cons_of_mem _ hx)
      cases p <;> first | exact ih' c' hc' | skip
      rename_i c0
      rcases List.mem_cons.mp (show c' ∈ c0 :: subL l from hc') with rfl | h
      ·exact ok _ List.mem_cons_self
      ·exact ih' c' h
    exact key _ okp
   have subn':=fun h=>subn h wc
   clear subn
   generalize hw c=hd0 at ha subn'
   generalize pts c=ps at pr hxl h3 okp eqd sub_le sub_wf subn'
   refine ⟨fun σ' H'=>Same H H'∧∃ (l:Addr) (acc:List V),H' l=some (.lst acc)∧acc.length≤3∧Paired (PD H' m) acc ((subL ps).map dat)∧σ'=[some (.ref a),some (.ref l)],?_,?_⟩
   ·refine ⟨_,rfl,_,rfl,a,_,rfl,SqT.of ha,cut_not _ xs,fun p hp=>?_⟩
    rw [cut_tail]
    have s1:Same H (upd H p (.tup xs)):=Same.new hp
    have g1:(upd H p (.tup xs)) p=some (.tup xs):=upd_same
    generalize upd H p (.tup xs)=H1 at s1 g1
    refine ⟨p,rfl,⟨_,SqT.of g1⟩,comp_tup (K:=K) (ys:=xs) (fun i acc σ' H'=>Same H1 H'∧Paired (PD H' m) acc ((subL (ps.take i)).map dat)∧acc.length≤i∧∃ o,σ'=[o])
     ⟨Same.refl _,.nil,Nat.le_refl _,none,rfl⟩ (fun i acc σ' H' h=>h.2.2.1) (by rw [hxl]; exact Nat.le_trans h3 (by decide)) (fun i acc σ' H' _ h=>SqT.of (h.1 _ _ g1)) (fun i x acc σ' H' hx h=>?_) (fun acc σ' H' h l hl=>?_)⟩
    ·obtain ⟨s2,pa,la,o,rfl⟩:=h
     obtain ⟨d,hd2,pdx⟩:=pair_get pr hx
     rw [List.getElem?_map] at hd2
     cases e:ps[i]? with
     | none=>rw [e] at hd2; cases hd2
     | some z =>
      rw [e] at hd2
      cases hd2
      have tk1:ps.take (i + 1)=ps.take i++[z]:=by rw [List.take_add_one,e]; rfl
      have okz:=okp z (List.mem_of_getElem? e)
      have pz:=pdx.same (s1.trans s2)
      cases z with
      | s x0 =>
       have:=pz.str_is
       subst this
       refine ⟨_,rfl,_,"tuple",_,false,rfl,.str x0,k_s_t K,_,rfl,iteF ⟨s2,?_,by omega,_,rfl⟩⟩
       rw [tk1,subL_app]
       show Paired _ _ ((subL (ps.take i)++[]).map dat)
       rw [List.append_nil]
       exact pa
      | i x0 =>
       have:=pz.int_of
       subst this
       refine ⟨_,rfl,_,"tuple",_,false,rfl,.int x0,k_i_t K,_,rfl,iteF ⟨s2,?_,by omega,_,rfl⟩⟩
       rw [tk1,subL_app]
       show Paired _ _ ((subL (ps.take i)++[]).map dat)
       rw [List.append_nil]
       exact pa
      | k x0 =>
       obtain ⟨b,x1,xs1,rfl,hb,hmm⟩:=datK_first okz pz
       refine ⟨_,rfl,_,"tuple",_,true,rfl,.tup hb,rfl,_,rfl,iteT ⟨_,rfl,b,_,_,V.str x1,rfl,rfl,SqT.of hb,atI_nat (j:=0) rfl,by show 4≤sizeLine; decide,fun q0 hq0=>?_⟩⟩
       have s3:Same H' (upd H' q0 (.lst (setWs.map V.str))):=Same.new hq0
       refine ⟨q0,setWs.map V.str,rfl,.inl (SqL.of upd_same),rfl,flat_strs _,_,rfl,?_⟩
       refine iteFb (by rw [in_strs,decide_eq_true hmm]; rfl) ⟨s2.trans s3,?_,by omega,_,rfl⟩
       rw [tk1,subL_app]
       show Paired _ _ ((subL (ps.take i)++[]).map dat)
       rw [List.append_nil]
       exact L2.Paired.mapP pa fun _ _ h=>PD.same s3 h
      | c x0 =>
       obtain ⟨b,xs1,rfl,hb⟩:=dat_first pz
       refine ⟨_,rfl,_,"tuple",_,true,rfl,.tup hb,rfl,_,rfl,iteT ⟨_,rfl,b,_,_,V.str (hw x0),rfl,rfl,SqT.of hb,atI_nat (j:=0) rfl,by show 4≤sizeLine; decide,fun q0 hq0=>?_⟩⟩
       have s3:Same H' (upd H' q0 (.lst (setWs.map V.str))):=Same.new hq0
       refine ⟨q0,setWs.map V.str,rfl,.inl (SqL.of upd_same),rfl,flat_strs _,_,rfl,?_⟩
       refine iteTb (by rw [in_strs,decide_eq_false (hw_set okz)]; rfl) ⟨_,rfl,s2.trans s3,?_,by rw [List.length_append]; show _ + 1≤_; omega,_,rfl⟩
       rw [tk1,subL_app,List.map_append]
       exact Paired.snoc (L2.Paired.mapP pa fun _ _ h=>PD.same s3 h) (PD.same s3 pz)
    ·obtain ⟨s2,pa,la,o,rfl⟩:=h
     rw [List.take_of_length_le (by rw [hxl]; exact Nat.le_refl _)] at pa
     have s3:Same H' (upd H' l (.lst acc)):=Same.new hl
     exact ⟨s1.trans (s2.trans s3),l,acc,upd_same,by omega,L2.Paired.mapP pa fun _ _ h=>PD.same s3 h,rfl⟩
   rintro σ' H2 ⟨s2,l,acc,g2,la,pa,rfl⟩
   generalize hsb:subL ps=sb at pa eqd sub_le sub_wf subn'
   have hal:acc.length=sb.length:=by
    have:=Paired.length pa
    rw [List.length_map] at this
    exact this
   have one:sb=[]→∀ H',Same H2 H'→Q (.int 1) H':=fun z H' s'=>by
    have:=q H' (s2.trans s')
    rw [eqd,z] at this
    exact this
   refine ⟨fun σ' H'=>Same H2 H'∧sb ≠ []∧σ'=[some (.ref a),some (.ref l)],?_,?_⟩
   ·refine ⟨_,rfl,a,_,_,V.str hd0,rfl,rfl,SqT.of (s2 _ _ ha),atI_nat (j:=0) rfl,by show 2≤sizeLine; decide,fun q0 hq0=>?_⟩
    have s3:Same H2 (upd H2 q0 (.lst ((["size","pairs"]:List Str).map V.str))):=Same.new hq0
    refine ⟨q0,(["size","pairs"]:List Str).map V.str,rfl,.inl (SqL.of upd_same),rfl,flat_strs _,_,rfl,ite2 (fun h=>iteT ?_) (fun h=>?_)⟩
    ·refine one (subn' ?_) _ s3
     have h':inV (.str hd0) ((["size","pairs"]:List Str).map V.str)=true:=h
     rw [in_strs] at h'
     have:=of_decide_eq_true h'
     simpa using this
    ·refine ⟨_,rfl,by decide,fun q1 hq1=>?_⟩
     have s4:Same (upd H2 q0 (.lst ((["size","pairs"]:List Str).map V.str))) (upd (upd H2 q0 (.lst ((["size","pairs"]:List Str).map V.str))) q1 (.lst [])):=Same.new hq1
     have s5:=s3.trans s4
     refine ⟨m + 1,.list (sb.map dat),.list [],by omega,.inl ⟨_,_,SqL.of (s5 _ _ g2),rfl,L2.Paired.mapP pa fun _ _ h=>PD.rd (PD.same s5 h)⟩,.inl ⟨_,_,SqL.of upd_same,rfl,.nil⟩,_,rfl,?_⟩
     show if PyData.eqv _ _=true then _ else _
     rw [eqv_nilD]
     refine ite2 (fun h2=>one (by simpa using h2) _ s5) (fun h2=>⟨s5,fun z=>h2 (by rw [z]; rfl),rfl⟩)
   rintro σ' H3 ⟨s3,hne,rfl⟩
   have pa3:Paired (PD H3 m) acc (sb.map dat):=L2.Paired.mapP pa fun _ _ h=>PD.same s3 h
   refine ⟨_,rfl,l,rfl,⟨_,SqL.of (s3 _ _ g2)⟩,comp_list (K:=K) (ys:=acc) (fun i ac2 σ' H4=>Same H3 H4∧ac2=((sb.take i).map fun c'=>(dep c':Int)).map V.int∧∃ o,σ'=[o])
    ⟨Same.refl _,rfl,none,rfl⟩ (fun i ac2 σ' H4 h=>?_) (Nat.le_trans la (by decide)) (fun i ac2 σ' H4 _ h=>SqL.of (h.1 _ _ (s3 _ _ g2))) (fun i x ac2 σ' H4 hx h=>?_) (fun ac2 σ' H4 h l3 hl3=>?_)⟩
   ·rw [h.2.1,List.length_map,List.length_map,List.length_take]
    omega
   ·obtain ⟨s4,rfl,o2,rfl⟩:=h
    obtain ⟨d,hd2,pc'⟩:=pair_get pa3 hx
    rw [List.getElem?_map] at hd2
    cases hc':sb[i]? with
    | none=>rw [hc'] at hd2; cases hd2
    | some c' =>
     rw [hc'] at hd2
     cases hd2
     have hmm:=List.mem_of_getElem? hc'
     refine ⟨_,rfl,x,c',m,rfl,by omega,PD.same s4 pc',sub_wf c' hmm,sub_le c' hmm,fun H5 s5=>⟨s4.trans s5,?_,_,rfl⟩⟩
     rw [List.take_add_one,hc',List.map_append,List.map_append]
     rfl
   ·obtain ⟨s4,rfl,o2,rfl⟩:=h
    rw [List.take_of_length_le (by rw [hal]; exact Nat.le_refl _)]
    have s5:Same H4 (upd H4 l3 (.lst ((sb.map fun c'=>(dep c':Int)).map V.int))):=Same.new hl3
    have fin:∀ z:Int,z=((mxL (sb.map dep):Nat):Int)→Q (.int (1 + z)) (upd H4 l3 (.lst ((sb.map fun c'=>(dep c':Int)).map V.int))):=fun z hz=>by
     have:=q _ (s2.trans (s3.trans (s4.trans s5)))
     rw [eqd] at this
     rw [hz]
     have e:((1 + mxL (sb.map dep):Nat):Int)=1 + ((mxL (sb.map dep):Nat):Int):=by omega
     rw [← e]
     exact this
    refine ⟨l3,sb.map fun c'=>(dep c':Int),rfl,SqL.of upd_same,(fun z=>hne (by simpa using z)),fun z hz hmx=>⟨_,_,rfl,rfl,fin _ ?_⟩⟩
    obtain ⟨c',hc',rfl⟩:=List.mem_map.mp hz
    have h1:=mxL_le (List.mem_map_of_mem (f:=dep) hc')
    have h2:mxL (sb.map dep) ∈ sb.map dep:=mxL_mem (fun y=>hne (by simpa using y))
    obtain ⟨c2,hc2,e2⟩:=List.mem_map.mp h2
    have h4:=hmx (dep c2:Int) (List.mem_map.mpr ⟨c2,hc2,rfl⟩)
    omega
end
end Net
namespace Net
open PySem L2 L2.Tx
def Ev (t:TT) (σ:St) (H:Hp) (b:Bool):Prop:=∀ Q:Bool→Hp→Prop,(∀ H1,Same H H1→Q b H1)→t σ H Q
theorem Ev.and {t u:TT} {σ:St} {H:Hp} {b c:Bool} (h:Ev t σ H b) (k:∀ H1,Same H H1→Ev u σ H1 c):Ev (tAnd t u) σ H (b && c):=fun Q q =>
 h _ fun H1 s1=>by
  cases b with
  | true=>exact iteT (k H1 s1 Q fun H2 s2=>q H2 (s1.trans s2))
  | false=>exact iteF (q H1 s1)
theorem Ev.or {t u:TT} {σ:St} {H:Hp} {b c:Bool} (h:Ev t σ H b) (k:∀ H1,Same H H1→Ev u σ H1 c):Ev (tOr t u) σ H (b || c):=fun Q q =>
 h _ fun H1 s1=>by
  cases b with
  | true=>exact iteT (q H1 s1)
  | false=>exact iteF (k H1 s1 Q fun H2 s2=>q H2 (s1.trans s2))
theorem ifs_ev {c:TT} {t u:TS} {D:Ends} {σ:St} {H:Hp} {b:Bool} (e:Ev c σ H b) (h1:b=true→∀ H1,Same H H1→t D σ H1) (h2:b=false→∀ H1,Same H H1→u D σ H1):tIfS c t u D σ H :=
 e _ fun H1 s1=>by
  cases b with
  | true=>exact iteT (h1 rfl H1 s1)
  | false=>exact iteF (h2 rfl H1 s1)
structure Kp (Z:Addr→Prop) (H H':Hp):Prop where
 tup:∀ p xs,H p=some (.tup xs)→H' p=some (.tup xs)
 lst:∀ p xs,H p=some (.lst xs)→Z p→H' p=some (.lst xs)
theorem Kp.same {Z:Addr→Prop} {H H':Hp} (s:Same H H'):Kp Z H H':=⟨fun p xs e=>s p _ e,fun p xs e _=>s p _ e⟩
theorem Kp.upd {Z:Addr→Prop} {H:Hp} {p:Addr} {xs:List V} {o:HO} (h:H p=some (.lst xs)) (z:¬ Z p):Kp Z H (upd H p o) :=
 ⟨fun q ys e=>by rw [upd_ne fun w=>by rw [w,h] at e; cases e]; exact e,fun q ys e zq=>by rw [upd_ne fun w=>z (by rw [w] at zq; exact zq)]; exact e⟩
theorem PDF.kp {Z:Addr→Prop} {H H':Hp} (s:Kp Z H H'):∀ {n:Nat} {v:V} {d:PyData},PDF Z H n v d→PDF Z H' n v d
 | 0,v,d,h=>by cases v <;> first | exact h | exact h.elim
 | n + 1,v,d,h=>by
  cases v <;> first | exact h | exact h.elim | skip
  rcases h with ⟨xs,ds,e,f,e2,p⟩ | ⟨xs,ds,e,e2,p⟩
  ·exact .inl ⟨xs,ds,s.lst _ _ e f,f,e2,L2.Paired.mapP p fun _ _ h=>PDF.kp s h⟩
  ·exact .inr ⟨xs,ds,s.tup _ _ e,e2,L2.Paired.mapP p fun _ _ h=>PDF.kp s h⟩
structure Th (t:Bool) (m:Nat) (Z:Addr→Prop) (H:Hp) (v:V) (c:Cl):Prop where
 rel:RelF Z H v c
 wf:wf c
 ist:isT c=t
 dp:dep c≤m
theorem Th.kp {t:Bool} {m:Nat} {Z:Addr→Prop} {H H':Hp} {v:V} {c:Cl} (h:Th t m Z H v c) (s:Kp Z H H'):Th t m Z H' v c:=⟨PDF.kp s h.rel,h.wf,h.ist,h.dp⟩
theorem Th.mono {t:Bool} {m k:Nat} {Z:Addr→Prop} {H:Hp} {v:V} {c:Cl} (h:Th t m Z H v c) (l:m≤k):Th t k Z H v c:=⟨h.rel,h.wf,h.ist,Nat.le_trans h.dp l⟩
theorem rel_ref {Z:Addr→Prop} {H:Hp} {v:V} {c:Cl} (h:RelF Z H v c):∃ a xs,v=.ref a∧H a=some (.tup (.str (hw c) :: xs)):=by
 have p:=PDF.pd h
 rw [dat_pts] at p
 obtain ⟨m,a,xs,_,e,ha,pr⟩:=p.tup_of
 cases pr with
 | cons p1 p2 =>
  have:=p1.str_is
  subst this
  exact ⟨a,_,e,ha⟩
def LsAt (t:Bool) (m:Nat) (Z:Addr→Prop) (H:Hp) (p:Addr) (cs:List Cl):Prop:=∃ vs,H p=some (.lst vs)∧Paired (Th t m Z H) vs cs
theorem LsAt.kp {t:Bool} {m:Nat} {Z:Addr→Prop} {H H':Hp} {p:Addr} {cs:List Cl} (h:LsAt t m Z H p cs) (s:Kp Z H H') (e:H' p=H p):LsAt t m Z H' p cs:=by
 obtain ⟨vs,h1,h2⟩:=h
 exact ⟨vs,by rw [e]; exact h1,L2.Paired.mapP h2 fun _ _ h=>h.kp s⟩
theorem LsAt.same {t:Bool} {m:Nat} {Z:Addr→Prop} {H H':Hp} {p:Addr} {cs:List Cl} (h:LsAt t m Z H p cs) (s:Same H H'):LsAt t m Z H' p cs:=by
 obtain ⟨vs,h1,h2⟩:=h
 exact ⟨vs,s p _ h1,L2.Paired.mapP h2 fun _ _ h=>h.kp (.same s)⟩
theorem LsAt.mono {t:Bool} {m k:Nat} {Z:Addr→Prop} {H:Hp} {p:Addr} {cs:List Cl} (h:LsAt t m Z H p cs) (l:m≤k):LsAt t k Z H p cs:=by
 obtain ⟨vs,h1,h2⟩:=h
 exact ⟨vs,h1,L2.Paired.mapP h2 fun _ _ h=>h.mono l⟩
theorem pair_snocR {α β:Type} {F:α→β→Prop}:∀ {xs:List α} {ys:List β} {y:β},Paired F xs (ys++[y])→∃ zs z,xs=zs++[z]∧Paired F zs ys∧F z y
 | _,[],y,p=>by
  cases p with
  | cons a p=>cases p; exact ⟨[],_,rfl,.nil,a⟩
 | _,y0 :: ys,y,p=>by
  cases p with
  | cons a p =>
   obtain ⟨zs,z,rfl,h1,h2⟩:=pair_snocR (ys:=ys) p
   exact ⟨_ :: zs,z,rfl,.cons a h1,h2⟩
theorem pair_snoc8 {α β:Type} {F:α→β→Prop} {x:α} {y:β} (a:F x y):∀ {xs:List α} {ys:List β},Paired F xs ys→Paired F (xs++[x]) (ys++[y])
 | _,_,.nil=>.cons a .nil
 | _,_,.cons b p=>.cons b (pair_snoc8 a p)
theorem LsAt.pop {t:Bool} {m:Nat} {Z:Addr→Prop} {H:Hp} {p:Addr} {cs:List Cl} {c:Cl} (h:LsAt t m Z H p (cs++[c])) (z:¬ Z p) :
  ∃ xs v vs,H p=some (.lst xs)∧xs[xs.length - 1]?=some v∧xs.dropLast=vs∧Th t m Z (upd H p (.lst vs)) v c∧LsAt t m Z (upd H p (.lst vs)) p cs:=by
 obtain ⟨xs,h1,h2⟩:=h
 obtain ⟨vs,v,rfl,p1,p2⟩:=pair_snocR h2
 have k:Kp Z H (upd H p (.lst vs)):=.upd h1 z
 exact ⟨_,v,vs,h1,by simp,by simp,p2.kp k,vs,upd_same,L2.Paired.mapP p1 fun _ _ h=>h.kp k⟩
theorem LsAt.push {t:Bool} {m:Nat} {Z:Addr→Prop} {H:Hp} {p:Addr} {cs:List Cl} {v:V} {c:Cl} (h:LsAt t m Z H p cs) (z:¬ Z p) (a:Th t m Z H v c) :
  ∃ xs,H p=some (.lst xs)∧xs.length=cs.length∧LsAt t m Z (upd H p (.lst (xs++[v]))) p (cs++[c]):=by
 obtain ⟨xs,h1,h2⟩:=h
 have k:Kp Z H (upd H p (.lst (xs++[v]))):=.upd h1 z
 exact ⟨xs,h1,Paired.length h2,_,upd_same,pair_snoc8 (a.kp k) (L2.Paired.mapP h2 fun _ _ h=>h.kp k)⟩
theorem LsAt.other {t:Bool} {m:Nat} {Z:Addr→Prop} {H:Hp} {p q:Addr} {cs:List Cl} {xs:List V} {o:HO} (h:LsAt t m Z H p cs) (n:p ≠ q) (hq:H q=some (.lst xs)) (z:¬ Z q):LsAt t m Z (upd H q o) p cs :=
 h.kp (.upd hq z) (upd_ne n)
theorem LsAt.rd {t:Bool} {m:Nat} {Z:Addr→Prop} {H:Hp} {p:Addr} {cs:List Cl} (h:LsAt t m Z H p cs) (hm:m≤40) (K:PySem.W.Frag):RdD K H 60 (.ref p) (.list (cs.map dat)):=by
 obtain ⟨xs,h1,h2⟩:=h
 have key:∀ {xs:List V} {cs:List Cl},Paired (Th t m Z H) xs cs→Paired (PD H 59) xs (cs.map dat):=fun {xs cs} p=>by
  induction p with
  | nil=>exact .nil
  | @cons x c0 _ _ a p ih =>
   refine .cons ?_ ih
   have h3:=PD.mono (PDF.pd a.rel) (59 - (dep c0 + 2))
   have h4:=a.dp
   rw [Nat.add_sub_cancel' (by omega)] at h3
   exact h3
 exact PD.rd (K:=K) (show PD H 60 (.ref p) (.list (cs.map dat)) from .inl ⟨_,_,h1,rfl,key h2⟩)
def Zp (pc pt:Addr):Addr→Prop:=fun p=>p ≠ pc∧p ≠ pt
structure Gr (H0:Hp) (pc pt:Addr) (m:Nat) (cs ts:List Cl) (H:Hp):Prop where
 sm:Same H0 H
 nc:H0 pc=none
 nt:H0 pt=none
 ne:pc ≠ pt
 c:LsAt false m (Zp pc pt) H pc cs
 t:LsAt true m (Zp pc pt) H pt ts
theorem zpc {pc pt:Addr}:¬ Zp pc pt pc:=fun z=>z.1 rfl
theorem zpt {pc pt:Addr}:¬ Zp pc pt pt:=fun z=>z.2 rfl
theorem same_upd {H0 H:Hp} {p:Addr} {o:HO} (s:Same H0 H) (n:H0 p=none):Same H0 (upd H p o):=fun q u e=>by
 rw [upd_ne fun z=>by rw [z,n] at e; cases e]
 exact s q u e
section
variable {H0 H H':Hp} {pc pt:Addr} {m k:Nat} {cs ts:List Cl} {c:Cl} {v:V}
theorem Gr.same (g:Gr H0 pc pt m cs ts H) (s:Same H H'):Gr H0 pc pt m cs ts H':=⟨g.sm.trans s,g.nc,g.nt,g.ne,g.c.same s,g.t.same s⟩
theorem Gr.mono (g:Gr H0 pc pt m cs ts H) (l:m≤k):Gr H0 pc pt k cs ts H:=⟨g.sm,g.nc,g.nt,g.ne,g.c.mono l,g.t.mono l⟩
theorem Gr.zn (g:Gr H0 pc pt m cs ts H) {p:Addr} (h:H p=none):Zp pc pt p:=by
 obtain ⟨xs,h1,_⟩:=g.c
 obtain ⟨ys,h2,_⟩:=g.t
 exact ⟨fun z=>(by rw [z,h1] at h; cases h),fun z=>(by rw [z,h2] at h; cases h)⟩
theorem Gr.popC (g:Gr H0 pc pt m (cs++[c]) ts H):∃ xs v vs,H pc=some (.lst xs)∧xs[xs.length - 1]?=some v∧xs.dropLast=vs∧Th false m (Zp pc pt) (upd H pc (.lst vs)) v c∧Gr H0 pc pt m cs ts (upd H pc (.lst vs)):=by
 obtain ⟨xs,v,vs,h1,h2,h3,h4,h5⟩:=g.c.pop zpc
 exact ⟨xs,v,vs,h1,h2,h3,h4,same_upd g.sm g.nc,g.nc,g.nt,g.ne,h5,g.t.other g.ne.symm h1 zpc⟩
theorem Gr.popT (g:Gr H0 pc pt m cs (ts++[c]) H):∃ xs v vs,H pt=some (.lst xs)∧xs[xs.length - 1]?=some v∧xs.dropLast=vs∧Th true m (Zp pc pt) (upd H pt (.lst vs)) v c∧Gr H0 pc pt m cs ts (upd H pt (.lst vs)):=by
 obtain ⟨xs,v,vs,h1,h2,h3,h4,h5⟩:=g.t.pop zpt
 exact ⟨xs,v,vs,h1,h2,h3,h4,same_upd g.sm g.nt,g.nc,g.nt,g.ne,g.c.other g.ne h1 zpt,h5⟩
theorem Gr.pushC (g:Gr H0 pc pt m cs ts H) (a:Th false m (Zp pc pt) H v c):∃ xs,H pc=some (.lst xs)∧xs.length=cs.length∧Gr H0 pc pt m (cs++[c]) ts (upd H pc (.lst (xs++[v]))):=by
 obtain ⟨xs,h1,h2,h3⟩:=g.c.push zpc a
 exact ⟨xs,h1,h2,same_upd g.sm g.nc,g.nc,g.nt,g.ne,h3,g.t.other g.ne.symm h1 zpc⟩
theorem Gr.pushT (g:Gr H0 pc pt m cs ts H) (a:Th true m (Zp pc pt) H v c):∃ xs,H pt=some (.lst xs)∧xs.length=ts.length∧Gr H0 pc pt m cs (ts++[c]) (upd H pt (.lst (xs++[v]))):=by
 obtain ⟨xs,h1,h2,h3⟩:=g.t.push zpt a
 exact ⟨xs,h1,h2,same_upd g.sm g.nt,g.nc,g.nt,g.ne,g.c.other g.ne h1 zpt,h3⟩
theorem Th.updC {t:Bool} (a:Th t m (Zp pc pt) H v c) {xs:List V} {o:HO} (h:H pc=some (.lst xs)):Th t m (Zp pc pt) (upd H pc o) v c:=a.kp (.upd h zpc)
theorem Th.updT {t:Bool} (a:Th t m (Zp pc pt) H v c) {xs:List V} {o:HO} (h:H pt=some (.lst xs)):Th t m (Zp pc pt) (upd H pt o) v c:=a.kp (.upd h zpt)
end
def tot (cs:List Cl):Nat:=(cs.map fun c=>(tx c).length).sum
theorem tot_snoc (cs:List Cl) (c:Cl):tot (cs++[c])=tot cs + (tx c).length:=by
 unfold tot
 rw [List.map_append,List.sum_append]
 show _ + ([(tx c).length]:List Nat).sum=_
 rw [List.sum_singleton]
structure Bd (m:Nat) (cs ts:List Cl):Prop where
 ln:tot cs + tot ts≤120 * m
 ct:cs.length + ts.length≤m
theorem snoc_of {α:Type} {l:List α} (h:l.isEmpty=false):∃ r x,l=r++[x]:=⟨l.dropLast,l.getLast (by intro z; rw [z] at h; cases h),(List.dropLast_concat_getLast _).symm⟩
end Net
namespace Net
open PySem L2 L2.Tx
structure Gw (t:Bool) (H:Hp) (v:V) (c:Cl):Prop where
 pd:PD H 60 v (dat c)
 wf:wf c
 ist:isT c=t
 dp:dep c≤12
 ln:(tx c).length≤8000
def spGrown:Sp:=fun vs H Q _=>∃ (lc lw:Addr) (ns:List Int) (ws:List Str),vs=[.ref lc,.ref lw]∧H lc=some (.lst (ns.map V.int))∧ns.length≤34∧H lw=some (.lst (ws.map V.str))∧Wds ws ∧
 ∀ r p1 p2 xs ys cs ts H',Same H H'→H' r=some (.lst [.ref p1,.ref p2])→H' p1=some (.lst xs)→H' p2=some (.lst ys)→Paired (Gw false H') xs cs→Paired (Gw true H') ys ts→xs.length≤34→ys.length≤34→Q (.ref r) H'
abbrev NGr:List Str:=["_law_cells","_law_words_here","_law_claims","_law_terms","_law_cell","_law_way","_law_other","_law_one","_law_found"]
theorem gw_same {t:Bool} {H H':Hp} (s:Same H H') {xs:List V} {cs:List Cl} (p:Paired (Gw t H) xs cs):Paired (Gw t H') xs cs:=L2.Paired.mapP p fun _ _ h=>⟨h.pd.same s,h.wf,h.ist,h.dp,h.ln⟩
theorem sum_mem8 {α:Type} {f:α→Nat} {a:α}:∀ {l:List α},a ∈ l→f a≤(l.map f).sum
 | b :: l,h=>by
  rw [List.map_cons,List.sum_cons]
  rcases List.mem_cons.mp h with rfl | h
  ·omega
  ·have:=sum_mem8 (f:=f) h
   omega
theorem Bd.addC {m:Nat} {cs ts:List Cl} {c:Cl} (b:Bd m cs ts) (h:(tx c).length≤120):Bd (m + 1) (cs++[c]) ts:=by
 obtain ⟨h1,h2⟩:=b
 refine ⟨?_,?_⟩
 ·rw [tot_snoc]
  omega
 ·rw [List.length_append,List.length_singleton]
  omega
theorem Bd.addT {m:Nat} {cs ts:List Cl} {c:Cl} (b:Bd m cs ts) (h:(tx c).length≤120):Bd (m + 1) cs (ts++[c]):=by
 obtain ⟨h1,h2⟩:=b
 refine ⟨?_,?_⟩
 ·rw [tot_snoc]
  omega
 ·rw [List.length_append,List.length_singleton]
  omega
theorem Bd.mono {m:Nat} {cs ts:List Cl} (b:Bd m cs ts):Bd (m + 1) cs ts:=⟨by have:=b.ln; omega,by have:=b.ct; omega⟩
theorem len_atm (a b:Cl):(tx (.atm a b)).length=(tx a).length + (tx b).length + 4:=by
 rw [show tx (.atm a b)=(tx a++(" <= " : Str))++tx b from rfl,str_len_app,str_len_app,show (" <= " : Str).length=4 from by decide +kernel]
 omega
theorem len_bin {x:Str} (h:x = "and" ∨ x = "or") (a b:Cl):(tx (.bin x a b)).length≤(tx a).length + (tx b).length + 7:=by
 rw [show tx (.bin x a b)=("(" : Str)++(tx a++((" " : Str)++(x++((" " : Str)++(tx b++((")" : Str)++Str.empty)))))) from rfl]
 have hx:x.length≤3:=by rcases h with rfl | rfl <;> decide +kernel
 simp only [str_len_app,show ("(" : Str).length=1 from by decide +kernel,show (" " : Str).length=1 from by decide +kernel,show (")" : Str).length=1 from by decide +kernel,show Str.empty.length=0 from by decide +kernel]
 omega
theorem lt_line {n:Nat} (h:n≤40):n < sizeLine:=Nat.lt_of_le_of_lt h (by decide +kernel)
theorem rd_nil8 {K:PySem.W.Frag} {H:Hp} {q:Addr}:RdD K (upd H q (.lst [])) 60 (.ref q) (.list []):=PD.rd (show PD _ 60 (.ref q) (.list []) from .inl ⟨[],[],upd_same,rfl,.nil⟩)
theorem ev_nil {K:PySem.W.Frag} {t:Bool} {m i:Nat} {Z:Addr→Prop} {H:Hp} {p:Addr} {cs:List Cl} {σ:St} (L:LsAt t m Z H p cs) (hm:m≤40) (hi:σ[i]?=some (some (.ref p))):Ev (tTest (tOp (rEqD K false) (tVar i) (tLst tNil))) σ H cs.isEmpty:=fun Q k=>by
 refine ⟨_,hi,by decide,fun q hq=>⟨60,_,_,by decide,(L.same (Same.new hq)).rd hm K,rd_nil8,_,rfl,?_⟩⟩
 rw [if_neg Bool.false_ne_true,eqv_nilD,List.isEmpty_map]
 exact k _ (Same.new hq)
theorem ev_nnil {K:PySem.W.Frag} {t:Bool} {m i:Nat} {Z:Addr→Prop} {H:Hp} {p:Addr} {cs:List Cl} {σ:St} (L:LsAt t m Z H p cs) (hm:m≤40) (hi:σ[i]?=some (some (.ref p))):Ev (tTest (tOp (rEqD K true) (tVar i) (tLst tNil))) σ H (!cs.isEmpty):=fun Q k=>by
 refine ⟨_,hi,by decide,fun q hq=>⟨60,_,_,by decide,(L.same (Same.new hq)).rd hm K,rd_nil8,_,rfl,?_⟩⟩
 rw [if_pos rfl,eqv_nilD,List.isEmpty_map]
 exact k _ (Same.new hq)
section
variable {P:Program} {w:World} {K:PySem.W.Frag} {mg:Str→Option Value} {base:Heap} {n:Nat}
theorem sc_grown:FnScope NGr ["_law_cells","_law_words_here"] (defScope s_l_grown):=⟨rfl,rfl,rfl,by decide +kernel,rfl,by decide +kernel,by decide +kernel⟩
theorem ok_grown {f:Addr} {fd:FuncData} (F:Fun K "_law_grown" "_law_grown" s_l_grown f fd) (T:Txt K mg) (cm:Can P w K mg base 1 "_law_mixed" ["_law_cell","_law_k"] spMixed) (clf:Can P w K mg base 3 "_law_leaf" ["_law_cell","_law_words_here","_law_claim_due"] spLeaf)
  (crc:Can P w K mg base 3 "_law_round_claim" ["_law_cell","_law_words_here","_law_one","_law_other"] spRC) (crt:Can P w K mg base 2 "_law_round_term" ["_law_cell","_law_one","_law_other"] spRT) (cd:Can P w K mg base 35 "_law_depth" ["_law_thing"] (spLDep 34)):FnOk P w K mg base CX0 36 f fd ["_law_cells","_law_words_here"] spGrown:=by
 have nd_0:List.Nodup (["_law_one"]:List Str):=by decide +kernel
 refine F.ok sc_grown (fun vs H Q E h=>?_) (fun cdv A outer s H vs Q E hr h=>?_)
 ·obtain ⟨lc,lw,ns,ws,rfl,_⟩:=h
  rfl
 ·obtain ⟨lc,lw,ns,ws,rfl,hc,hn,hl,hwd,q⟩:=h
  have hU:=hr.units
  have r1:Room 1 _:=hr.mono (by decide)
  have r2:Room 2 _:=hr.mono (by decide)
  have r3:Room 3 _:=hr.mono (by decide)
  refine ⟨_,(pss_cons (ps_set (i:=2) sc_grown.nd rfl (Or.inl rfl) (pe_lst pa_nil))
   (pss_cutE (ps_set (i:=3) sc_grown.nd rfl (Or.inl rfl) (pe_lst pa_nil))
   (pss_cutE (ps_for PassesOwn.never rfl (pi_list (pv 0)) (pg_name (i:=4) sc_grown.nd rfl (Or.inl rfl))
     (pss_cutE (ps_set (i:=5) sc_grown.nd rfl (Or.inl rfl) (pe_op op_mod (pe_callC cm r1 (by rfl) (pa_cons (pv 4) (pa_cons pe_int pa_nil))) pe_int))
   (pss_one (ps_if (PW.pt (pw_or (pt_cmpR op_lt (pv 5) pe_int (nomark _)) (pw_or1 (PW.pt (pw_and (pt_cmpR op_lt (pv 5) pe_int (nomark _)) (pw_and (pt_cmpR (op_eqD hU) (pv 3) (pe_lst pa_nil) (nomark _)) (pw_and1 (pt_cmpR (op_eqD hU) (pv 2) (pe_lst pa_nil) (nomark _))))))))) (pss_one (ps_expr (pe_bm PySem.F.plainAttrs_list PySem.F.slot_list_append PySem.F.type_list_append mt_append (pv 2) (pa_cons (pe_callC clf r3 (by rfl) (pa_cons (pv 4) (pa_cons (pv 1) (pa_cons pe_bl pa_nil)))) pa_nil))))
      (pss_one (ps_if (PW.pt (pw_or (pt_cmpR op_lt (pv 5) pe_int (nomark _)) (pw_or1 (PW.pt (pw_and (pt_cmpR (op_eqD hU) (pv 3) (pe_lst pa_nil) (nomark _)) (pw_and1 (pt_cmpR (op_eqD hU) (pv 2) (pe_lst pa_nil) (nomark _)))))))) (pss_one (ps_expr (pe_bm PySem.F.plainAttrs_list PySem.F.slot_list_append PySem.F.type_list_append mt_append (pv 3) (pa_cons (pe_callC clf r3 (by rfl) (pa_cons (pv 4) (pa_cons (pv 1) (pa_cons pe_bl pa_nil)))) pa_nil))))
       (pss_one (ps_if (PW.pt (pw_and (pt_cmpR op_lt (pv 5) pe_int (nomark _)) (pw_and1 (pt_cmpR op_gt (pe_callB call_len_seq (by rfl) T.len b_len (pa_cons (pv 3) pa_nil)) pe_int (nomark _))))) (pss_cons (ps_set (i:=6) sc_grown.nd rfl (Or.inl rfl) (pe_bm0 PySem.F.plainAttrs_list PySem.F.slot_list_pop PySem.F.type_list_pop mt_pop (pv 3)))
   (pss_one (ps_expr (pe_bm PySem.F.plainAttrs_list PySem.F.slot_list_append PySem.F.type_list_append mt_append (pv 2) (pa_cons (pe_tup (pa_cons pe_str (pa_cons (pe_bm0 PySem.F.plainAttrs_list PySem.F.slot_list_pop PySem.F.type_list_pop mt_pop (pv 3)) (pa_cons (pv 6) pa_nil)))) pa_nil)))))
        (pss_one (ps_if (PW.pt (pw_and (pt_cmpR op_lt (pv 5) pe_int (nomark _)) (pw_and1 (pt_cmpR (op_neD hU) (pv 3) (pe_lst pa_nil) (nomark _))))) (pss_cons (ps_set (i:=7) sc_grown.nd rfl (Or.inl rfl) (pe_bm0 PySem.F.plainAttrs_list PySem.F.slot_list_pop PySem.F.type_list_pop mt_pop (pv 3)))
   (pss_cutE (ps_set (i:=6) sc_grown.nd rfl (Or.inl rfl) pe_non)
   (pss_cutE (ps_if (pt_cmpR (op_neD hU) (pv 3) (pe_lst pa_nil) (nomark _)) (pss_one (ps_set (i:=6) sc_grown.nd rfl (Or.inl rfl) (pe_bm0 PySem.F.plainAttrs_list PySem.F.slot_list_pop PySem.F.type_list_pop mt_pop (pv 3)))) pss_nil)
   (pss_one (ps_expr (pe_bm PySem.F.plainAttrs_list PySem.F.slot_list_append PySem.F.type_list_append mt_append (pv 3) (pa_cons (pe_callC crt r2 (by rfl) (pa_cons (pv 4) (pa_cons (pv 7) (pa_cons (pv 6) pa_nil)))) pa_nil)))))))
         (pss_one (ps_if (pt_cmpR (op_neD hU) (pv 2) (pe_lst pa_nil) (nomark _)) (pss_cons (ps_set (i:=7) sc_grown.nd rfl (Or.inl rfl) (pe_bm0 PySem.F.plainAttrs_list PySem.F.slot_list_pop PySem.F.type_list_pop mt_pop (pv 2)))
   (pss_cutE (ps_set (i:=6) sc_grown.nd rfl (Or.inl rfl) pe_non)
   (pss_cutE (ps_if (PW.pt (pw_and (pt_cmpR (op_neD hU) (pv 2) (pe_lst pa_nil) (nomark _)) (pw_and1 (pt_cmpR op_eq (pv 5) pe_int (nomark _))))) (pss_one (ps_set (i:=6) sc_grown.nd rfl (Or.inl rfl) (pe_bm0 PySem.F.plainAttrs_list PySem.F.slot_list_pop PySem.F.type_list_pop mt_pop (pv 2)))) pss_nil)
   (pss_cutE (ps_expr (pe_bm PySem.F.plainAttrs_list PySem.F.slot_list_append PySem.F.type_list_append mt_append (pv 2) (pa_cons (pe_callC crc r3 (by rfl) (pa_cons (pv 4) (pa_cons (pv 1) (pa_cons (pv 7) (pa_cons (pv 6) pa_nil))))) pa_nil)))
   (pss_one (ps_if (PW.pt (pw_and (pt_cmp (pc_notN (pv 6))) (pw_and1 (pt_cmpR op_notIn_seq (pe_ix ix_tup (pe_ix ix_list (pv 2) (pe_un un_neg pe_int) (fun _ _=>by rfl)) pe_int (fun _ _=>by rfl)) (@pe_lst _ _ _ _ (@pa_k8 _ _ _ _ _ _ _ pe_str (@pa_k8 _ _ _ _ _ _ _ pe_str pa_nil))) (by with_unfolding_all rfl))))) (pss_one (ps_expr (pe_bm PySem.F.plainAttrs_list PySem.F.slot_list_append PySem.F.type_list_append mt_append (pv 2) (pa_cons (pv 6) pa_nil)))) pss_nil)))))) pss_nil))))))))))))
   (pss_cutE (ps_set (i:=8) sc_grown.nd rfl (Or.inl rfl) (pe_lst (pa_cons (pe_comp (N:=["_law_one"]) (xs:=1) (js:=[]) rfl (compScope_of rfl) (pi_list (pv 2)) (fun _ _ _ _=>pg_name (i:=0) nd_0 rfl (Or.inl rfl)) (fun _ _ _ _=>pts_one (pt_cmpR op_lt (pe_callC cd hr (by rfl) (pa_cons (pv 0) pa_nil)) pe_int (nomark _))) (fun _ _ _ _=>pv 0)) (pa_cons (pe_comp (N:=["_law_one"]) (xs:=1) (js:=[]) rfl (compScope_of rfl) (pi_list (pv 3)) (fun _ _ _ _=>pg_name (i:=0) nd_0 rfl (Or.inl rfl)) (fun _ _ _ _=>pts_one (pt_cmpR op_lt (pe_callC cd hr (by rfl) (pa_cons (pv 0) pa_nil)) pe_int (nomark _))) (fun _ _ _ _=>pv 0)) pa_nil))))
   (pss_one (ps_ret (pv 8))))))),?_⟩
  refine ⟨by decide,fun pc hpc=>?_⟩
  have a1:Same H (upd H pc (.lst [])):=Same.new hpc
  have g1:(upd H pc (.lst [])) pc=some (.lst []):=upd_same
  generalize upd H pc (.lst [])=H1 at a1 g1
  refine ⟨fun σ' H'=>∃ pt,Gr H pc pt 0 [] [] H'∧σ'=[some (.ref lc),some (.ref lw),some (.ref pc),some (.ref pt),none,none,none,none,none],?_,?_⟩
  ·refine ⟨by decide,fun pt hpt=>⟨pt,?_,rfl⟩⟩
   have hne:pc ≠ pt:=fun z=>by rw [z,hpt] at g1; cases g1
   have hpt0:H pt=none:=by
    cases e:H pt with
    | none=>rfl
    | some o=>rw [a1 _ _ e] at hpt; cases hpt
   exact ⟨a1.trans (Same.new hpt),hpc,hpt0,hne,⟨[],by rw [upd_ne hne]; exact g1,.nil⟩,[],upd_same,.nil⟩
  clear g1 a1 H1
  rintro σ1 H1 ⟨pt,gr1,rfl⟩
  refine ⟨fun σ' H'=>∃ cs ts,Gr H pc pt ns.length cs ts H'∧Bd ns.length cs ts∧∃ o4 o5 o6 o7,σ'=[some (.ref lc),some (.ref lw),some (.ref pc),some (.ref pt),o4,o5,o6,o7,none],?_,?_⟩
  ·refine ⟨_,rfl,lc,rfl,⟨_,SqL.of (gr1.sm _ _ hc)⟩,for_list (K:=K) (xs:=ns.map V.int) (fun i σ' H'=>∃ cs ts,Gr H pc pt i cs ts H'∧Bd i cs ts∧∃ o4 o5 o6 o7,σ'=[some (.ref lc),some (.ref lw),some (.ref pc),some (.ref pt),o4,o5,o6,o7,none])
    ⟨[],[],gr1,⟨Nat.le_refl _,Nat.le_refl _⟩,none,none,none,none,rfl⟩ (fun i σ' H' _ h=>?_) (fun i x σ' H' hx h=>?_) (fun σ' H' h=>?_)⟩
   ·obtain ⟨cs,ts,gr,_⟩:=h
    exact SqL.of (gr.sm _ _ hc)
   ·obtain ⟨cs,ts,gr,bd,o4,o5,o6,o7,rfl⟩:=h
    have hi:i < ns.length:=by
     have:=(List.getElem?_eq_some_iff.mp hx).1
     rw [List.length_map] at this
     exact this
    obtain ⟨z,rfl⟩:∃ z,x=.int z:=by
     rw [List.getElem?_map] at hx
     cases e:ns[i]? with
     | none=>rw [e] at hx; cases hx
     | some z=>rw [e] at hx; cases hx; exact ⟨z,rfl⟩
    refine ⟨fun σ2 H2=>H2=H'∧∃ n:Int,σ2=[some (.ref lc),some (.ref lw),some (.ref pc),some (.ref pt),some (.int z),some (.int n),o6,o7,none],?_,?_⟩
    ·refine ⟨_,rfl,z,0,rfl,by decide,by decide,fun n hn=>⟨_,_,rfl,rfl,(by show (0:Int) < 10; decide),rfl,_,rfl⟩⟩
    ·rintro σ2 H2 ⟨rfl,n,rfl⟩
     have hi40:i≤40:=by omega
     have lt (k:Int) {H3:Hp}:Ev (tTest (tOp (rI0 fun i j=>V.bl (decide (i < j))) (tVar 5) (tC (V.int k)))) [some (.ref lc),some (.ref lw),some (.ref pc),some (.ref pt),some (.int z),some (.int n),o6,o7,none] H3 (decide (n < k)):=fun Q k=>⟨_,rfl,_,_,rfl,rfl,_,rfl,k H3 (Same.refl _)⟩
     refine ifs_ev (Ev.or (lt 2) fun H3 s3=>Ev.and (lt 5) fun H4 s4=>Ev.and (ev_nil (gr.same (s3.trans s4)).t hi40 rfl) fun H5 s5=>ev_nil (gr.same ((s3.trans s4).trans s5)).c hi40 rfl) (fun _ H3 s3=>?_) (fun _ H3 s3=>?_)
     ·have g3:=gr.same s3
      obtain ⟨xs0,hxs0,_⟩:=g3.c
      refine ⟨_,rfl,.inl ⟨rfl,_,SqL.of hxs0⟩,_,rfl,_,rfl,z,lw,ws,true,rfl,g3.sm _ _ hl,hwd,fun cl v H4 w4 t4 d4 l4 s4 r4=>?_⟩
      have th:Th false (i + 1) (Zp pc pt) H4 v cl:=⟨PDF.weak (fun p hp=>g3.zn hp) r4,w4,t4,by omega⟩
      obtain ⟨xs,h1,h2,h3⟩:=((g3.same s4).mono (Nat.le_succ i)).pushC th
      exact ⟨pc,xs,v,rfl,rfl,h1,lt_line (by rw [h2]; have:=bd.ct; omega),cs++[cl],ts,h3,bd.addC l4,_,_,_,_,rfl⟩
     refine ifs_ev (Ev.or (lt 5) fun H4 s4=>Ev.and (ev_nil (gr.same (s3.trans s4)).t hi40 rfl) fun H5 s5=>ev_nil (gr.same ((s3.trans s4).trans s5)).c hi40 rfl) (fun _ H4 s4=>?_) (fun _ H4 s4=>?_)
     ·have g3:=(gr.same s3).same s4
      obtain ⟨xs0,hxs0,_⟩:=g3.t
      refine ⟨_,rfl,.inl ⟨rfl,_,SqL.of hxs0⟩,_,rfl,_,rfl,z,lw,ws,false,rfl,g3.sm _ _ hl,hwd,fun cl v H5 w5 t5 d5 l5 s5 r5=>?_⟩
      have th:Th true (i + 1) (Zp pc pt) H5 v cl:=⟨PDF.weak (fun p hp=>g3.zn hp) r5,w5,t5,by omega⟩
      obtain ⟨xs,h1,h2,h3⟩:=((g3.same s5).mono (Nat.le_succ i)).pushT th
      exact ⟨pt,xs,v,rfl,rfl,h1,lt_line (by rw [h2]; have:=bd.ct; omega),cs,ts++[cl],h3,bd.addT l5,_,_,_,_,rfl⟩
     have gr4:=gr.same (s3.trans s4)
     clear s3 s4 H3 gr
     refine ifs_ev (b:=decide (n < 7) && decide ((1:Int) < (ts.length:Int))) (Ev.and (lt 7) fun H5 s5=>fun Q k=>?_) (fun hb H5 s5=>?_) (fun _ H5 s5=>?_)
     ·obtain ⟨xs,h1,h2⟩:=(gr4.same s5).t
      have e:=Paired.length h2
      rw [← e] at k
      exact ⟨_,rfl,pt,xs,rfl,.inl (SqL.of h1),_,_,rfl,rfl,_,rfl,k H5 (Same.refl _)⟩
     ·have g5:=gr4.same s5
      have h1t:1 < ts.length:=by
       have:=of_decide_eq_true (Bool.and_eq_true_iff.mp hb).2
       omega
      obtain ⟨ts1,c2,rfl⟩:=snoc_of (l:=ts) (by cases ts with | nil=>cases h1t | cons _ _=>rfl)
      obtain ⟨ts2,c1,rfl⟩:=snoc_of (l:=ts1) (by cases ts1 with | nil=>exact absurd h1t (by simp) | cons _ _=>rfl)
      obtain ⟨xs1,v2,vs1,a1,a2,a3,th2,g6⟩:=g5.popT
      refine ⟨_,rfl,.inl ⟨rfl,_,SqL.of a1⟩,pt,xs1,v2,rfl,rfl,a1,a2,?_⟩
      rw [a3]
      generalize upd H5 pt (.lst vs1)=H6 at th2 g6
      obtain ⟨xs0,hxs0,_⟩:=g6.c
      obtain ⟨xs2,v1,vs2,b1,b2,b3,th1,g7⟩:=g6.popT
      have th2':=th2.updT (o:=.lst vs2) b1
      refine ⟨_,rfl,.inl ⟨rfl,_,SqL.of hxs0⟩,_,rfl,.inl ⟨rfl,_,SqL.of b1⟩,pt,xs2,v1,rfl,rfl,b1,b2,?_⟩
      rw [b3]
      generalize upd H6 pt (.lst vs2)=H7 at th1 th2' g7
      refine ⟨_,rfl,by show 3≤sizeLine; decide,fun tp htp=>?_⟩
      have s7:Same H7 (upd H7 tp (.tup [.str "atmost",v1,v2])):=Same.new htp
      have e7:(upd H7 tp (.tup [.str "atmost",v1,v2])) tp=some (.tup [.str "atmost",v1,v2]):=upd_same
      generalize upd H7 tp (.tup [.str "atmost",v1,v2])=H8 at s7 e7
      have th:Th false (i + 1) (Zp pc pt) H8 (.ref tp) (.atm c1 c2) :=
       ⟨rel_2 e7 (by decide +kernel) (PDF.same s7 th1.rel) (PDF.same s7 th2'.rel) rfl rfl,⟨th1.ist,th2.ist,th1.wf,th2.wf⟩,by show decide (("atmost" : Str) ∈ termWs)=false; decide +kernel,by
        have:=th1.dp
        have:=th2.dp
        show 1 + max (dep c1) (dep c2)≤i + 1
        omega⟩
      obtain ⟨xs,h1,h2,h3⟩:=((g7.same s7).mono (Nat.le_succ i)).pushC th
      have hb1:=bd.ln
      have hb2:=bd.ct
      rw [tot_snoc,tot_snoc] at hb1
      rw [List.length_append,List.length_append,List.length_singleton] at hb2
      exact ⟨pc,xs,_,rfl,rfl,h1,lt_line (by rw [h2]; omega),cs++[.atm c1 c2],ts2,h3,⟨by rw [tot_snoc,len_atm]; omega,by rw [List.length_append,List.length_singleton]; omega⟩,_,_,_,_,rfl⟩
     have gr5:=gr4.same s5
     clear s5 gr4
     refine ifs_ev (Ev.and (lt 8) fun H6 s6=>ev_nnil (gr5.same s6).t hi40 rfl) (fun hb H6 s6=>?_) (fun _ H6 s6=>?_)
     ·have g5:=gr5.same s6
      obtain ⟨ts1,c1,rfl⟩:=snoc_of (l:=ts) (by have:=(Bool.and_eq_true_iff.mp hb).2; simpa using this)
      obtain ⟨xs1,v1,vs1,a1,a2,a3,th1,g6⟩:=g5.popT
      refine ⟨_,rfl,.inl ⟨rfl,_,SqL.of a1⟩,pt,xs1,v1,rfl,rfl,a1,a2,?_⟩
      rw [a3]
      generalize upd H6 pt (.lst vs1)=H7 at th1 g6
      have hb1:=bd.ln
      have hb2:=bd.ct
      rw [tot_snoc] at hb1
      rw [List.length_append,List.length_singleton] at hb2
      refine ⟨fun σ' H8=>H8=H7∧σ'=[some (.ref lc),some (.ref lw),some (.ref pc),some (.ref pt),some (.int z),some (.int n),some .non,some v1,none],⟨rfl,rfl⟩,?_⟩
      rintro σ3 H8 ⟨rfl,rfl⟩
      refine ⟨fun σ' H'=>∃ ts2 o oc,Gr H pc pt i cs ts2 H'∧Th true i (Zp pc pt) H' v1 c1∧OptAt (Zp pc pt) true H' o oc∧(oc.map dep).getD 0≤i∧tot ts2 + (oc.map fun z=>(tx z).length).getD 0≤tot ts1∧ts2.length≤ts1.length∧σ'=[some (.ref lc),some (.ref lw),some (.ref pc),some (.ref pt),some (.int z),some (.int n),some o,some v1,none],?_,?_⟩
      ·refine ifs_ev (ev_nnil g6.t hi40 rfl) (fun hb2 H9 s9=>?_) (fun hb2 H9 s9=>?_)
       ·have g9:=g6.same s9
        obtain ⟨ts2,c2,rfl⟩:=snoc_of (l:=ts1) (by simpa using hb2)
        obtain ⟨xs2,v2,vs2,b1,b2,b3,th2,g10⟩:=g9.popT
        refine ⟨_,rfl,.inl ⟨rfl,_,SqL.of b1⟩,pt,xs2,v2,rfl,rfl,b1,b2,?_⟩
        rw [b3]
        obtain ⟨ra,_,re,_⟩:=rel_ref th2.rel
        exact ⟨ts2,v2,some c2,g10,(th1.kp (.same s9)).updT b1,⟨th2.rel,th2.wf,th2.ist,ra,re⟩,th2.dp,by rw [tot_snoc]; exact Nat.le_refl _,by rw [List.length_append]; omega,rfl⟩
       ·exact ⟨ts1,.non,none,g6.same s9,th1.kp (.same s9),rfl,Nat.zero_le _,Nat.le_refl _,Nat.le_refl _,rfl⟩
      rintro σ4 H9 ⟨ts2,o,oc,g9,th9,op9,d9,l9,n9,rfl⟩
      obtain ⟨xs0,hxs0,_⟩:=g9.t
      refine ⟨_,rfl,.inl ⟨rfl,_,SqL.of hxs0⟩,_,rfl,_,rfl,_,rfl,z,v1,o,c1,oc,Zp pc pt,fun p hp=>g9.zn hp,rfl,th9.rel,th9.wf,th9.ist,op9,fun c' v' H10 w' t' d' l' s' r'=>?_⟩
      have th:Th true (i + 1) (Zp pc pt) H10 v' c':=⟨r',w',t',by have:=th9.dp; omega⟩
      obtain ⟨xs,h1,h2,h3⟩:=((g9.same s').mono (Nat.le_succ i)).pushT th
      exact ⟨pt,xs,_,rfl,rfl,h1,lt_line (by rw [h2]; omega),cs,ts2++[c'],h3,⟨by rw [tot_snoc]; omega,by rw [List.length_append,List.length_singleton]; omega⟩,_,_,_,_,rfl⟩
     have gr6:=gr5.same s6
     clear s6 gr5
     refine ifs_ev (ev_nnil gr6.c hi40 rfl) (fun hb H7 s7=>?_) (fun _ H7 s7=>?_)
     ·have g5:=gr6.same s7
      obtain ⟨cs1,c1,rfl⟩:=snoc_of (l:=cs) (by simpa using hb)
      obtain ⟨xs1,v1,vs1,a1,a2,a3,th1,g6⟩:=g5.popC
      refine ⟨_,rfl,.inl ⟨rfl,_,SqL.of a1⟩,pc,xs1,v1,rfl,rfl,a1,a2,?_⟩
      rw [a3]
      generalize upd H7 pc (.lst vs1)=H8 at th1 g6
      have hb1:=bd.ln
      have hb2:=bd.ct
      rw [tot_snoc] at hb1
      rw [List.length_append,List.length_singleton] at hb2
      refine ⟨fun σ' H9=>H9=H8∧σ'=[some (.ref lc),some (.ref lw),some (.ref pc),some (.ref pt),some (.int z),some (.int n),some .non,some v1,none],⟨rfl,rfl⟩,?_⟩
      rintro σ3 H9 ⟨rfl,rfl⟩
      refine ⟨fun σ' H'=>∃ cs2 o oc,Gr H pc pt i cs2 ts H'∧Th false i (Zp pc pt) H' v1 c1∧OptAt (Zp pc pt) false H' o oc∧(oc.map dep).getD 0≤i∧tot cs2 + (oc.map fun z=>(tx z).length).getD 0≤tot cs1∧cs2.length + (oc.map fun _=>1).getD 0≤cs1.length∧σ'=[some (.ref lc),some (.ref lw),some (.ref pc),some (.ref pt),some (.int z),some (.int n),some o,some v1,none],?_,?_⟩
      ·refine ifs_ev (b:=!cs1.isEmpty && decide (V.int n=V.int 9)) (Ev.and (ev_nnil g6.c hi40 rfl) fun H10 s10=>fun Q k=>⟨_,rfl,rfl,_,rfl,k H10 (Same.refl _)⟩) (fun hb2 H10 s9=>?_) (fun hb2 H10 s9=>?_)
       ·have g9:=g6.same s9
        obtain ⟨ts2,c2,rfl⟩:=snoc_of (l:=cs1) (by have:=(Bool.and_eq_true_iff.mp hb2).1; simpa using this)
        obtain ⟨xs2,v2,vs2,b1,b2,b3,th2,g10⟩:=g9.popC
        refine ⟨_,rfl,.inl ⟨rfl,_,SqL.of b1⟩,pc,xs2,v2,rfl,rfl,b1,b2,?_⟩
        rw [b3]
        obtain ⟨ra,_,re,_⟩:=rel_ref th2.rel
        exact ⟨ts2,v2,some c2,g10,(th1.kp (.same s9)).updC b1,⟨th2.rel,th2.wf,th2.ist,ra,re⟩,th2.dp,by rw [tot_snoc]; exact Nat.le_refl _,by rw [List.length_append]; exact Nat.le_refl _,rfl⟩
       ·exact ⟨cs1,.non,none,g6.same s9,th1.kp (.same s9),rfl,Nat.zero_le _,Nat.le_refl _,Nat.le_refl _,rfl⟩
      rintro σ4 H10 ⟨cs2,o,oc,g9,th9,op9,d9,l9,n9,rfl⟩
      obtain ⟨xs0,hxs0,_⟩:=g9.c
      refine ⟨fun σ' H'=>∃ c',Gr H pc pt (i + 1) (cs2++[c']) ts H'∧σ'=[some (.ref lc),some (.ref lw),some (.ref pc),some (.ref pt),some (.int z),some (.int n),some o,some v1,none]∧((((hw c' = "and" ∨ hw c' = "or") ∨ o=.non)∧Bd (i + 1) (cs2++[c']) ts) ∨ (hw c' ≠ "and" ∧ hw c' ≠ "or" ∧ ∃ c2,o ≠ .non∧Th false (i + 1) (Zp pc pt) H' o c2∧Bd (i + 1) ((cs2++[c'])++[c2]) ts)),?_,?_⟩
      ·refine ⟨_,rfl,.inl ⟨rfl,_,SqL.of hxs0⟩,_,rfl,_,rfl,_,rfl,_,rfl,z,lw,ws,v1,o,c1,oc,Zp pc pt,fun p hp=>g9.zn hp,rfl,g9.sm _ _ hl,hwd,th9.rel,th9.wf,th9.ist,op9,fun c2 e2 x v' H11 hx s' r'=>?_,fun c' v' H11 na no w' t' d' l' s' r'=>?_⟩
       ·subst e2
        obtain ⟨rl2,w2,t2,_⟩:=op9
        have d2:dep c2≤i:=d9
        have l2:tot cs2 + (tx c2).length≤tot cs1:=l9
        have n2:cs2.length + 1≤cs1.length:=n9
        have th:Th false (i + 1) (Zp pc pt) H11 v' (.bin x c1 c2):=⟨r',⟨hx,th9.ist,t2,th9.wf,w2⟩,by show decide (x ∈ termWs)=false; rcases hx with rfl | rfl <;> decide +kernel,by
         have:=th9.dp
         show 1 + max (dep c1) (dep c2)≤i + 1
         omega⟩
        obtain ⟨xs,h1,h2,h3⟩:=((g9.same s').mono (Nat.le_succ i)).pushC th
        have lb:=len_bin hx c1 c2
        exact ⟨pc,xs,_,rfl,rfl,h1,lt_line (by rw [h2]; omega),.bin x c1 c2,h3,rfl,.inl ⟨.inl hx,by rw [tot_snoc]; omega,by rw [List.length_append,List.length_singleton]; omega⟩⟩
       ·have th:Th false (i + 1) (Zp pc pt) H11 v' c':=⟨r',w',t',by have:=th9.dp; omega⟩
        obtain ⟨xs,h1,h2,h3⟩:=((g9.same s').mono (Nat.le_succ i)).pushC th
        refine ⟨pc,xs,_,rfl,rfl,h1,lt_line (by rw [h2]; omega),c',h3,rfl,?_⟩
        cases oc with
        | none =>
         have l2:tot cs2 + 0≤tot cs1:=l9
         have n2:cs2.length + 0≤cs1.length:=n9
         exact .inl ⟨.inr op9,by rw [tot_snoc]; omega,by rw [List.length_append,List.length_singleton]; omega⟩
        | some c2 =>
         obtain ⟨rl2,w2,t2,oa,rfl⟩:=op9
         have d2:dep c2≤i:=d9
         have l2:tot cs2 + (tx c2).length≤tot cs1:=l9
         have n2:cs2.length + 1≤cs1.length:=n9
         have th2:Th false (i + 1) (Zp pc pt) H10 (.ref oa) c2:=⟨rl2,w2,t2,by omega⟩
         exact .inr ⟨na,no,c2,(fun z=>nomatch z),(th2.kp (.same s')).updC h1,by rw [tot_snoc,tot_snoc]; omega,by rw [List.length_append,List.length_append,List.length_singleton,List.length_singleton]; omega⟩
      rintro σ5 H11 ⟨c',g11,rfl,alt⟩
      obtain ⟨ys,hys,pys⟩:=g11.c
      obtain ⟨zs,zv,rfl,_,thz⟩:=pair_snocR pys
      obtain ⟨za,zxs,rfl,hza⟩:=rel_ref thz.rel
      refine ifs_ev (b:=!decide (o=.non) && !decide (hw c' ∈ (["and","or"]:List Str))) (Ev.and (fun Q k=>⟨_,rfl,_,rfl,k H11 (Same.refl _)⟩) fun H12 s12=>fun Q k=>?_) (fun hb3 H12 s12=>?_) (fun hb3 H12 s12=>?_)
      ·refine ⟨_,rfl,_,rfl,pc,_,_,V.ref za,rfl,rfl,SqL.of (s12 _ _ hys),atI_last _ _,za,_,_,V.str (hw c'),rfl,rfl,SqT.of (s12 _ _ hza),atI_nat (j:=0) rfl,by show 2≤sizeLine; decide,fun q0 hq0=>?_⟩
       ·refine ⟨q0,(["and","or"]:List Str).map V.str,rfl,.inl (SqL.of upd_same),rfl,flat_strs _,_,rfl,?_⟩
        rw [if_pos rfl,in_strs]
        exact k _ (Same.new hq0)
      ·obtain ⟨hb4,hb5⟩:=Bool.and_eq_true_iff.mp hb3
       have ho:o ≠ .non:=by simpa using hb4
       have hx:hw c' ∉ (["and","or"]:List Str):=by
        have:=(Bool.not_eq_true' _).mp hb5
        exact of_decide_eq_false this
       rcases alt with ⟨h | h,_⟩ | ⟨na,no,c2,_,th2,bd2⟩
       ·exact absurd (by rcases h with h | h <;> rw [h] <;> simp) hx
       ·exact absurd h ho
       ·obtain ⟨xs,h1,h2,h3⟩:=(g11.same s12).pushC (th2.kp (.same s12))
        have:=bd2.ct
        rw [List.length_append,List.length_singleton] at this
        exact ⟨_,rfl,.inl ⟨rfl,_,SqL.of h1⟩,_,rfl,pc,xs,_,rfl,rfl,h1,lt_line (by rw [h2]; omega),_,ts,h3,bd2,_,_,_,_,rfl⟩
      ·rcases alt with ⟨_,bd2⟩ | ⟨na,no,c2,ho,_,_⟩
       ·exact ⟨_,ts,g11.same s12,bd2,_,_,_,_,rfl⟩
       ·exfalso
        rw [decide_eq_false ho,decide_eq_false (show hw c' ∉ (["and","or"]:List Str) from fun z=>by
         simp only [List.mem_cons,List.not_mem_nil,or_false] at z
         rcases z with z | z
         ·exact na z
         ·exact no z)] at hb3
        cases hb3
     ·exact ⟨cs,ts,(gr6.same s7).mono (Nat.le_succ i),bd.mono,_,_,_,_,rfl⟩
   ·rw [List.length_map] at h
    exact h
  ·rintro σ2 H2 ⟨cs,ts,gr,bd,o4,o5,o6,o7,rfl⟩
   obtain ⟨vs,hC,pC⟩:=gr.c
   obtain ⟨us,hT,pT0⟩:=gr.t
   have lC:tot cs≤8000:=by have:=bd.ln; omega
   have lT:tot ts≤8000:=by have:=bd.ln; omega
   refine ⟨fun σ' H'=>∃ r p1 p2 xs ys ds es,Same H H'∧H' r=some (.lst [.ref p1,.ref p2])∧H' p1=some (.lst xs)∧H' p2=some (.lst ys)∧Paired (Gw false H') xs ds∧Paired (Gw true H') ys es∧xs.length≤34∧ys.length≤34∧σ'=[some (.ref lc),some (.ref lw),some (.ref pc),some (.ref pt),o4,o5,o6,o7,some (.ref r)],?_,?_⟩
   ·refine ⟨_,rfl,pc,rfl,⟨_,SqL.of hC⟩,comp_list (K:=K) (ys:=vs) (fun i acc σ' H'=>Same H2 H'∧(∃ ds,Paired (Gw false H') acc ds)∧acc.length≤i∧∃ o,σ'=[o])
     ⟨Same.refl _,⟨[],.nil⟩,Nat.le_refl _,none,rfl⟩ (fun i acc σ' H' h=>h.2.2.1) (by rw [Paired.length pC]; have:=bd.ct; exact Nat.le_of_lt (lt_line (by omega))) (fun i acc σ' H' _ h=>SqL.of (h.1 _ _ hC)) (fun i x acc σ' H' hx h=>?_) (fun acc σ' H' h l hl=>?_)⟩
    ·obtain ⟨s5,⟨ds,pa⟩,la,o,rfl⟩:=h
     obtain ⟨c,hcm,thc⟩:=pair_get pC hx
     have thc:=thc.kp (.same s5)
     have hd:=thc.dp
     have hlc:=Nat.le_trans (sum_mem8 (f:=fun c=>(tx c).length) (List.mem_of_getElem? hcm)) lC
     refine ⟨_,rfl,_,c,dep c + 2,rfl,by omega,PDF.pd thc.rel,thc.wf,by omega,fun H6 s6=>⟨_,_,rfl,rfl,_,rfl,ite2 (fun h=>?_) (fun h=>?_)⟩⟩
     ·have h13:dep c < 13:=by
       have:=of_decide_eq_true h
       omega
      refine ⟨_,rfl,s5.trans s6,⟨ds++[c],pair_snoc8 ⟨?_,thc.wf,thc.ist,by omega,hlc⟩ (gw_same s6 pa)⟩,by rw [List.length_append,List.length_singleton]; omega,_,rfl⟩
      have:=PD.mono (PDF.pd (PDF.same s6 thc.rel)) (60 - (dep c + 2))
      rw [Nat.add_sub_cancel' (by omega)] at this
      exact this
     ·exact ⟨s5.trans s6,⟨ds,gw_same s6 pa⟩,by omega,_,rfl⟩
    ·obtain ⟨s5,⟨ds,pa⟩,la,o,rfl⟩:=h
     have s6:Same H' (upd H' l (.lst acc)):=Same.new hl
     have e6:(upd H' l (.lst acc)) l=some (.lst acc):=upd_same
     generalize upd H' l (.lst acc)=H3 at s6 e6
     have s3:=s5.trans s6
     have pa3:=gw_same s6 pa
     have pT:=L2.Paired.mapP pT0 fun _ _ h=>h.kp (.same s3)
     have hT:=s3 _ _ hT
     clear s6 pa s5 hl
     have laC:acc.length≤34:=by
      have:=Paired.length pC
      have:=bd.ct
      omega
     clear la
     refine ⟨_,rfl,pt,rfl,⟨_,SqL.of hT⟩,comp_list (K:=K) (ys:=us) (fun i acd σ' H'=>Same H3 H'∧(∃ ds,Paired (Gw true H') acd ds)∧acd.length≤i∧∃ o,σ'=[o])
     ⟨Same.refl _,⟨[],.nil⟩,Nat.le_refl _,none,rfl⟩ (fun i acd σ' H' h=>h.2.2.1) (by rw [Paired.length pT]; have:=bd.ct; exact Nat.le_of_lt (lt_line (by omega))) (fun i acd σ' H' _ h=>SqL.of (h.1 _ _ hT)) (fun i x acd σ' H' hx h=>?_) (fun acd σ' H' h l2 hl2=>?_)⟩
     ·obtain ⟨s5,⟨ds,pa⟩,la,o,rfl⟩:=h
      obtain ⟨c,hcm,thc⟩:=pair_get pT hx
      have thc:=thc.kp (.same s5)
      have hd:=thc.dp
      have hlc:=Nat.le_trans (sum_mem8 (f:=fun c=>(tx c).length) (List.mem_of_getElem? hcm)) lT
      refine ⟨_,rfl,_,c,dep c + 2,rfl,by omega,PDF.pd thc.rel,thc.wf,by omega,fun H6 s6=>⟨_,_,rfl,rfl,_,rfl,ite2 (fun h=>?_) (fun h=>?_)⟩⟩
      ·have h13:dep c < 13:=by
        have:=of_decide_eq_true h
        omega
       refine ⟨_,rfl,s5.trans s6,⟨ds++[c],pair_snoc8 ⟨?_,thc.wf,thc.ist,by omega,hlc⟩ (gw_same s6 pa)⟩,by rw [List.length_append,List.length_singleton]; omega,_,rfl⟩
       have:=PD.mono (PDF.pd (PDF.same s6 thc.rel)) (60 - (dep c + 2))
       rw [Nat.add_sub_cancel' (by omega)] at this
       exact this
      ·exact ⟨s5.trans s6,⟨ds,gw_same s6 pa⟩,by omega,_,rfl⟩
     ·obtain ⟨s5,⟨es,pb⟩,lb,o,rfl⟩:=h
      have s7:Same H' (upd H' l2 (.lst acd)):=Same.new hl2
      have e7:(upd H' l2 (.lst acd)) l2=some (.lst acd):=upd_same
      generalize upd H' l2 (.lst acd)=H4 at s7 e7
      refine ⟨by show 2≤sizeLine; decide,fun r hr=>?_⟩
      have s8:Same H4 (upd H4 r (.lst [.ref l,.ref l2])):=Same.new hr
      have lbT:acd.length≤34:=by
       have:=Paired.length pT0
       have:=bd.ct
       omega
      exact ⟨r,l,l2,acc,acd,ds,es,gr.sm.trans (s3.trans ((s5.trans s7).trans s8)),upd_same,s8 _ _ (s7 _ _ (s5 _ _ e6)),s8 _ _ e7,gw_same ((s5.trans s7).trans s8) pa3,gw_same (s7.trans s8) pb,laC,lbT,rfl⟩
   ·rintro σ3 H3 ⟨r,p1,p2,xs,ys,ds,es,h1,h2,h3,h4,h5,h6,h7,h8,rfl⟩
    exact ⟨_,rfl,q r p1 p2 xs ys ds es H3 h1 h2 h3 h4 h5 h6 h7 h8⟩
end
end Net
namespace Net
open PySem L2 L2.Tx
theorem x_size (s:Ks):("size " : Str)++txK s=tx (.size s):=by
 show _=Str.join " " ["size",txK s]
 rw [join_two,join_one,← str_assoc,show ("size " : Str)=("size" : Str)++(" " : Str) from by decide +kernel]
theorem x_pairs (s t:Ks):((("pairs " : Str)++txK s)++(" " : Str))++txK t=tx (.pairs s t):=by
 show _=Str.join " " ["pairs",txK s,txK t]
 rw [join_two,join_two,join_one,show ("pairs " : Str)=("pairs" : Str)++(" " : Str) from by decide +kernel]
 simp only [str_assoc]
theorem x_cost (a b:Str) (n:Int):(((((("cost " : Str)++a)++(" " : Str))++b)++(" <= " : Str))++numT n)=tx (.cost a b n):=by
 show _=(Str.join " " ["cost",a,b]++(" <= " : Str))++numT n
 rw [join_two,join_two,join_one,show ("cost " : Str)=("cost" : Str)++(" " : Str) from by decide +kernel]
 simp only [str_assoc]
theorem x_ov (w v:Str) (s:Ks) (c:Cl):((((((w++(" " : Str))++v)++(" in " : Str))++txK s)++(": " : Str))++tx c)=tx (.ov w v s c):=by
 show _=w++((" " : Str)++(v++((" in " : Str)++(txK s++((": " : Str)++(tx c++Str.empty))))))
 rw [str_app_nil (tx c)]
 simp only [str_assoc]
theorem x_atm (a b:Cl):Str.join " <= " [tx a,tx b]=tx (.atm a b):=by
 rw [join_two,join_one]
 show _=(tx a++(" <= " : Str))++tx b
 rw [str_assoc]
theorem x_two (w:Str) (a b:Cl):((w++("(" : Str))++Str.join ", " [tx a,tx b])++(")" : Str)=tx (.two w a b):=by
 rw [join_two,join_one]
 show _=w++(("(" : Str)++(tx a++((", " : Str)++(tx b++((")" : Str)++Str.empty)))))
 rw [str_app_nil (")" : Str)]
 simp only [str_assoc]
theorem x_bin (w:Str) (a b:Cl):(("(" : Str)++Str.join (((" " : Str)++w)++(" " : Str)) [tx a,tx b])++(")" : Str)=tx (.bin w a b):=by
 rw [join_two,join_one]
 show _=("(" : Str)++(tx a++((" " : Str)++(w++((" " : Str)++(tx b++((")" : Str)++Str.empty))))))
 rw [str_app_nil (")" : Str)]
 simp only [str_assoc]
theorem x_plus (a b:Cl):(("(" : Str)++Str.join (((" " : Str)++("+" : Str))++(" " : Str)) [tx a,tx b])++(")" : Str)=tx (.plus a b):=by
 rw [join_two,join_one]
 show _=("(" : Str)++(tx a++((" + " : Str)++(tx b++((")" : Str)++Str.empty))))
 rw [str_app_nil (")" : Str),show (" + " : Str)=((" " : Str)++("+" : Str))++(" " : Str) from by decide +kernel]
 simp only [str_assoc]
def spTxL (n:Nat):Sp:=fun vs H Q _=>∃ (v:V) (k:Nat) (c:Cl),vs=[v]∧PD H k v (dat c)∧wf c∧dep c≤n∧(tx c).length≤8000∧∀ H',Same H H'→Q (.str (tx c)) H'
def seven:List Str:=["ring","round","way","must","flow","apart","bare"]
theorem nb_seven {x:Str} {n:Nat} (h:nb x=some n):x ∈ seven:=by
 unfold nb at h
 unfold seven
 repeat' split at h
 all_goals first | (cases h; done) | (rename_i e; rw [e]; simp)
section
variable {P:Program} {w:World} {K:PySem.W.Frag} {mg:Str→Option Value} {base:Heap} {n:Nat}
theorem sc_sxt:FnScope ["_law_told_here"] ["_law_told_here"] (defScope s_l_set_text):=⟨rfl,rfl,rfl,by decide +kernel,rfl,by decide +kernel,by decide +kernel⟩
theorem ok_sxt {f:Addr} {fd:FuncData} (F:Fun K "_law_set_text" "_law_set_text" s_l_set_text f fd):FnOk P w K mg base CX0 1 f fd ["_law_told_here"] spShS:=by
 refine F.ok sc_sxt (fun vs H Q E h=>?_) (fun cdv A outer s H vs Q E hr h=>?_)
 ·obtain ⟨v,k,c,rfl,_⟩:=h
  rfl
 ·obtain ⟨v,k,c,rfl,pd,wk,hl,q⟩:=h
  refine ⟨_,(pss_cons (ps_if (pt_cmpR op_eq (pe_ix ix_tup (pv 0) pe_int (fun _ _=>by rfl)) pe_str (nomark _)) (pss_one (ps_ret (pe_op op_add_str (pe_op op_add_str pe_str (pe_bm PySem.F.plainAttrs_str PySem.F.slot_str_join PySem.F.type_str_join mt_join pe_str (pa_cons (pe_ix ix_tup (pv 0) pe_int (fun _ _=>by rfl)) pa_nil))) pe_str))) pss_nil)
   (pss_one (ps_ret (pe_bm PySem.F.plainAttrs_str PySem.F.slot_str_join PySem.F.type_str_join mt_joinT pe_str (pa_cons (pv 0) pa_nil))))),?_⟩
  cases c with
  | all =>
   obtain ⟨m,a,xs,rfl,rfl,ha,pr⟩:=pd.tup_of
   obtain ⟨x,rfl,p1⟩:=pair1 pr
   rw [p1.str_is] at ha
   refine ⟨_,rfl,a,_,_,_,rfl,rfl,SqT.of ha,rfl,rfl,_,rfl,iteFb (dne (by decide +kernel)) ⟨rfl,_,rfl,_,a,["all"],rfl,rfl,SqT.of ha,by decide +kernel,by decide +kernel,q⟩⟩
  | of x y =>
   obtain ⟨m,a,xs,rfl,rfl,ha,pr⟩:=pd.tup_of
   obtain ⟨v1,v2,rfl,p1,p2⟩:=pair2 pr
   rw [p1.str_is,p2.str_is] at ha
   have hx:x ≠ "these" := by rcases wk.1 with rfl | rfl <;> decide +kernel
   have hw:=join_w (by rw [l_sp]; decide) (by rw [l_sp]; decide) (show (Str.join " " [x,y]).length≤40000 from hl)
   refine ⟨_,rfl,a,_,_,_,rfl,rfl,SqT.of ha,rfl,rfl,_,rfl,iteFb (dne hx) ⟨rfl,_,rfl,_,a,[x,y],rfl,rfl,SqT.of ha,by decide +kernel,Nat.le_trans hw (by decide),q⟩⟩
  | these ns =>
   obtain ⟨m,a,xs,rfl,rfl,ha,pr⟩:=pd.tup_of
   obtain ⟨v1,v2,rfl,p1,p2⟩:=pair2 pr
   rw [p1.str_is] at ha
   obtain ⟨m2,b,ys,rfl,rfl,hb,pr2⟩:=p2.list_of
   rw [pair_strs pr2] at hb
   have hl':("{" : Str).length + (Str.join ", " ns).length + ("}" : Str).length≤40000:=by
    have:(txK (.these ns)).length=("{" : Str).length + (Str.join ", " ns).length + ("}" : Str).length:=by
     show ((("{" : Str)++Str.join ", " ns)++("}" : Str)).length=_
     rw [str_len_app,str_len_app]
    omega
   have hw:=join_w (z := ", ") (l:=ns) (n:=40000) (by rw [l_csp]; decide) (by rw [l_csp]; decide) (by omega)
   refine ⟨_,rfl,a,_,_,_,rfl,rfl,SqT.of ha,rfl,rfl,_,rfl,iteTb (deq rfl) ⟨rfl,_,rfl,a,_,_,_,rfl,rfl,SqT.of ha,rfl,_,b,ns,rfl,rfl,SqL.of hb,by decide +kernel,Nat.le_trans hw (by decide),_,_,rfl,rfl,Nat.le_trans (show _≤40000 by omega) (by decide),_,_,rfl,rfl,?_,q⟩⟩
   rw [str_len_app]
   exact Nat.le_trans hl' (by decide)
end
end Net
namespace Net
open PySem L2 L2.Tx
section
variable {P:Program} {w:World} {K:PySem.W.Frag} {mg:Str→Option Value} {base:Heap} {n:Nat}
theorem sc_ltx:FnScope ["_law_thing","_law_word","_law_both"] ["_law_thing"] (defScope s_l_text):=⟨rfl,rfl,rfl,by decide +kernel,rfl,by decide +kernel,by decide +kernel⟩
theorem ok_ltx0 {f:Addr} {fd:FuncData} (F:Fun K "_law_text" "_law_text" s_l_text f fd):FnOk P w K mg base CX0 2 f fd ["_law_thing"] (spTxL 0):=by
 refine F.ok sc_ltx (fun vs H Q E h=>?_) (fun cdv A outer s H vs Q E hr h=>?_)
 ·obtain ⟨v,k,c,rfl,_⟩:=h
  rfl
 ·obtain ⟨v,k,c,rfl,_,_,hd,_⟩:=h
  have:=dep_pos c
  omega
theorem ok_ltx {f:Addr} {fd:FuncData} (F:Fun K "_law_text" "_law_text" s_l_text f fd) (T:Txt K mg) (cs:Can P w K mg base 1 "_law_set_text" ["_law_told_here"] spShS) (ct:Can P w K mg base (n + 2) "_law_text" ["_law_thing"] (spTxL n)):FnOk P w K mg base CX0 (n + 3) f fd ["_law_thing"] (spTxL (n + 1)):=by
 refine F.ok sc_ltx (fun vs H Q E h=>?_) (fun cdv A outer s H vs Q E hr h=>?_)
 ·obtain ⟨v,k,c,rfl,_⟩:=h
  rfl
 ·obtain ⟨v,k,c,rfl,pd,wc,hd,hl,q⟩:=h
  have r1:Room 1 _:=hr.mono (by omega)
  refine ⟨_,(pss_cons (ps_set (i:=1) sc_ltx.nd rfl (Or.inl rfl) (pe_ix ix_tup (pv 0) pe_int (fun _ _=>by rfl)))
   (pss_cons (ps_if (pt_cmpR op_eq (pv 1) pe_str (nomark _)) (pss_one (ps_ret (pe_callTy call_str_int (by rfl) T.str b_str (pa_cons (pe_ix ix_tup (pv 0) pe_int (fun _ _=>by rfl)) pa_nil)))) pss_nil)
   (pss_cons (ps_if (pt_cmpR op_eq (pv 1) pe_str (nomark _)) (pss_one (ps_ret (pe_op op_add_str pe_str (pe_callC cs r1 (by rfl) (pa_cons (pe_ix ix_tup (pv 0) pe_int (fun _ _=>by rfl)) pa_nil))))) pss_nil)
   (pss_cons (ps_if (pt_cmpR op_eq (pv 1) pe_str (nomark _)) (pss_one (ps_ret (pe_op op_add_str (pe_op op_add_str (pe_op op_add_str pe_str (pe_callC cs r1 (by rfl) (pa_cons (pe_ix ix_tup (pv 0) pe_int (fun _ _=>by rfl)) pa_nil))) pe_str) (pe_callC cs r1 (by rfl) (pa_cons (pe_ix ix_tup (pv 0) pe_int (fun _ _=>by rfl)) pa_nil))))) pss_nil)
   (pss_cons (ps_if (pt_cmpR op_eq (pv 1) pe_str (nomark _)) (pss_one (ps_ret (pe_op op_add_str (pe_op op_add_str (pe_op op_add_str (pe_op op_add_str (pe_op op_add_str pe_str (pe_ix ix_tup (pv 0) pe_int (fun _ _=>by rfl))) pe_str) (pe_ix ix_tup (pv 0) pe_int (fun _ _=>by rfl))) pe_str) (pe_callTy call_str_int (by rfl) T.str b_str (pa_cons (pe_ix ix_tup (pv 0) pe_int (fun _ _=>by rfl)) pa_nil))))) pss_nil)
   (pss_cons (ps_if (pt_cmpR op_eq (pv 1) pe_str (nomark _)) (pss_one (ps_ret (pe_op op_add_str (pe_op op_add_str (pe_callTy call_str_int (by rfl) T.str b_str (pa_cons (pe_ix ix_tup (pv 0) pe_int (fun _ _=>by rfl)) pa_nil)) pe_str) (pe_callC ct hr (by rfl) (pa_cons (pe_ix ix_tup (pv 0) pe_int (fun _ _=>by rfl)) pa_nil))))) pss_nil)
   (pss_cons (ps_if (pt_cmpR op_eq (pv 1) pe_str (nomark _)) (pss_one (ps_ret (pe_op op_add_str pe_str (pe_callC ct hr (by rfl) (pa_cons (pe_ix ix_tup (pv 0) pe_int (fun _ _=>by rfl)) pa_nil))))) pss_nil)
   (pss_cons (ps_if (PW.pt (pw_or (pt_cmpR op_eq (pv 1) pe_str (nomark _)) (pw_or1 (pt_cmpR op_eq (pv 1) pe_str (nomark _))))) (pss_one (ps_ret (pe_op op_add_str (pe_op op_add_str (pe_op op_add_str (pe_op op_add_str (pe_op op_add_str (pe_op op_add_str (pv 1) pe_str) (pe_ix ix_tup (pv 0) pe_int (fun _ _=>by rfl))) pe_str) (pe_callC cs r1 (by rfl) (pa_cons (pe_ix ix_tup (pv 0) pe_int (fun _ _=>by rfl)) pa_nil))) pe_str) (pe_callC ct hr (by rfl) (pa_cons (pe_ix ix_tup (pv 0) pe_int (fun _ _=>by rfl)) pa_nil))))) pss_nil)
   (pss_cutE (ps_if (pt_cmpR op_in_seq (pv 1) (@pe_lst _ _ _ _ (@pa_k8 _ _ _ _ _ _ _ pe_str (@pa_k8 _ _ _ _ _ _ _ pe_str (@pa_k8 _ _ _ _ _ _ _ pe_str (@pa_k8 _ _ _ _ _ _ _ pe_str (@pa_k8 _ _ _ _ _ _ _ pe_str (@pa_k8 _ _ _ _ _ _ _ pe_str (@pa_k8 _ _ _ _ _ _ _ pe_str pa_nil)))))))) (by with_unfolding_all rfl)) (pss_one (ps_ret (pe_bm PySem.F.plainAttrs_str PySem.F.slot_str_join PySem.F.type_str_join mt_joinT pe_str (pa_cons (pv 0) pa_nil)))) pss_nil)
   (pss_cutE (ps_set (i:=2) sc_ltx.nd rfl (Or.inl rfl) (pe_lst (pa_cons (pe_callC ct hr (by rfl) (pa_cons (pe_ix ix_tup (pv 0) pe_int (fun _ _=>by rfl)) pa_nil)) (pa_cons (pe_callC ct hr (by rfl) (pa_cons (pe_ix ix_tup (pv 0) pe_int (fun _ _=>by rfl)) pa_nil)) pa_nil))))
   (pss_cons (ps_if (pt_cmpR op_eq (pv 1) pe_str (nomark _)) (pss_one (ps_ret (pe_bm PySem.F.plainAttrs_str PySem.F.slot_str_join PySem.F.type_str_join mt_join pe_str (pa_cons (pv 2) pa_nil)))) pss_nil)
   (pss_cutE (ps_if (PW.pt (pw_or (pt_cmpR op_eq (pv 1) pe_str (nomark _)) (pw_or1 (pt_cmpR op_eq (pv 1) pe_str (nomark _))))) (pss_one (ps_ret (pe_op op_add_str (pe_op op_add_str (pe_op op_add_str (pv 1) pe_str) (pe_bm PySem.F.plainAttrs_str PySem.F.slot_str_join PySem.F.type_str_join mt_join pe_str (pa_cons (pv 2) pa_nil))) pe_str))) pss_nil)
   (pss_cutE (ps_if (pt_cmpR op_eq (pv 1) pe_str (nomark _)) (pss_one (ps_set (i:=1) sc_ltx.nd rfl (Or.inl rfl) pe_str)) pss_nil)
   (pss_one (ps_ret (pe_op op_add_str (pe_op op_add_str pe_str (pe_bm PySem.F.plainAttrs_str PySem.F.slot_str_join PySem.F.type_str_join mt_join (pe_op op_add_str (pe_op op_add_str pe_str (pv 1)) pe_str) (pa_cons (pv 2) pa_nil))) pe_str)))))))))))))))),?_⟩
  cases c with
  | nm x ns =>
   obtain ⟨m,a,xs,rfl,rfl,ha,pr⟩:=pd.tup_of
   have ex:=pair_strs (ns:=x :: ns) pr
   subst ex
   have h0:nb x=some ns.length:=wc.1
   have hw:=join_w (by rw [l_sp]; decide) (by rw [l_sp]; decide) (show (Str.join " " (x :: ns)).length≤8000 from hl)
   have D:∀ {y:Str},nb y=none→decide (V.str x=V.str y)=false:=fun h=>dne (nb_ne h0 h)
   refine ⟨_,rfl,a,_,_,_,rfl,rfl,SqT.of ha,atI_nat (j:=0) rfl,?_⟩
   refine ⟨_,rfl,rfl,_,rfl,iteFb (D (by decide +kernel)) ⟨_,rfl,rfl,_,rfl,iteFb (D (by decide +kernel)) ⟨_,rfl,rfl,_,rfl,iteFb (D (by decide +kernel)) ⟨_,rfl,rfl,_,rfl,iteFb (D (by decide +kernel)) ⟨_,rfl,rfl,_,rfl,iteFb (D (by decide +kernel)) ⟨_,rfl,rfl,_,rfl,iteFb (D (by decide +kernel)) ?_⟩⟩⟩⟩⟩⟩
   refine ⟨_,rfl,rfl,_,rfl,iteFb (D (by decide +kernel)) ⟨_,rfl,rfl,_,rfl,iteFb (D (by decide +kernel)) ?_⟩⟩
   refine ⟨fun _ _=>False,⟨_,rfl,by show 7≤sizeLine; decide,fun q0 hq0=>?_⟩,fun _ _ z=>z.elim⟩
   have s1:Same H (upd H q0 (.lst (seven.map V.str))):=Same.new hq0
   refine ⟨q0,seven.map V.str,rfl,.inl (SqL.of upd_same),rfl,flat_strs _,_,rfl,iteTb (by show inV (.str x) (seven.map V.str)=true; rw [in_strs]; exact decide_eq_true (nb_seven h0)) ?_⟩
   exact ⟨rfl,_,rfl,_,a,x :: ns,rfl,rfl,SqT.of (s1 _ _ ha),by decide +kernel,Nat.le_trans hw (by decide),q _ s1⟩
  | num i =>
   obtain ⟨m,a,xs,rfl,rfl,ha,pr⟩:=pd.tup_of
   obtain ⟨v1,v2,rfl,p1,p2⟩:=pair2 pr
   rw [p1.str_is,p2.int_of] at ha
   exact ⟨_,rfl,a,_,_,_,rfl,rfl,SqT.of ha,rfl,_,rfl,rfl,_,rfl,iteTb (deq rfl) ⟨_,rfl,a,_,_,_,rfl,rfl,SqT.of ha,rfl,i,rfl,num_log8 wc,q H (Same.refl _)⟩⟩
  | size k =>
   obtain ⟨m,a,xs,rfl,rfl,ha,pr⟩:=pd.tup_of
   obtain ⟨v1,v2,rfl,p1,p2⟩:=pair2 pr
   rw [p1.str_is] at ha
   rw [← x_size] at hl q
   rw [str_len_app] at hl
   refine ⟨_,rfl,a,_,_,_,rfl,rfl,SqT.of ha,rfl,?_⟩
   refine ⟨_,rfl,rfl,_,rfl,iteFb (dne (by decide +kernel)) ⟨_,rfl,rfl,_,rfl,iteTb (deq rfl) ⟨_,rfl,a,_,_,_,rfl,rfl,SqT.of ha,rfl,v2,_,k,rfl,p2,wc,Nat.le_trans (show _≤8000 by omega) (by decide),_,_,rfl,rfl,Nat.le_trans hl (by decide),q H (Same.refl _)⟩⟩⟩
  | pairs k j =>
   obtain ⟨m,a,xs,rfl,rfl,ha,pr⟩:=pd.tup_of
   obtain ⟨v1,v2,v3,rfl,p1,p2,p3⟩:=pair3 pr
   rw [p1.str_is] at ha
   rw [← x_pairs] at hl q
   rw [str_len_app,str_len_app,str_len_app] at hl
   refine ⟨_,rfl,a,_,_,_,rfl,rfl,SqT.of ha,rfl,?_⟩
   refine ⟨_,rfl,rfl,_,rfl,iteFb (dne (by decide +kernel)) ⟨_,rfl,rfl,_,rfl,iteFb (dne (by decide +kernel)) ⟨_,rfl,rfl,_,rfl,iteTb (deq rfl) ⟨_,rfl,a,_,_,_,rfl,rfl,SqT.of ha,rfl,v2,_,k,rfl,p2,wc.1,Nat.le_trans (show _≤8000 by omega) (by decide),_,_,rfl,rfl,Nat.le_trans (show _≤8000 by omega) (by decide),_,_,rfl,rfl,?_,_,rfl,a,_,_,_,rfl,rfl,SqT.of ha,rfl,v3,_,j,rfl,p3,wc.2,Nat.le_trans (show _≤8000 by omega) (by decide),_,_,rfl,rfl,?_,q H (Same.refl _)⟩⟩⟩⟩
   ·rw [str_len_app]
    exact Nat.le_trans (show _≤8000 by omega) (by decide)
   ·rw [str_len_app,str_len_app]
    exact Nat.le_trans hl (by decide)
  | cost x y i =>
   obtain ⟨m,a,xs,rfl,rfl,ha,pr⟩:=pd.tup_of
   obtain ⟨v1,v2,v3,v4,rfl,p1,p2,p3,p4⟩:=pair4 pr
   rw [p1.str_is,p2.str_is,p3.str_is,p4.int_of] at ha
   rw [← x_cost] at hl q
   rw [str_len_app,str_len_app,str_len_app,str_len_app,str_len_app] at hl
   refine ⟨_,rfl,a,_,_,_,rfl,rfl,SqT.of ha,rfl,?_⟩
   refine ⟨_,rfl,rfl,_,rfl,iteFb (dne (by decide +kernel)) ⟨_,rfl,rfl,_,rfl,iteFb (dne (by decide +kernel)) ⟨_,rfl,rfl,_,rfl,iteFb (dne (by decide +kernel)) ⟨_,rfl,rfl,_,rfl,iteTb (deq rfl) ?_⟩⟩⟩⟩
   refine ⟨_,rfl,a,_,_,_,rfl,rfl,SqT.of ha,rfl,_,_,rfl,rfl,Nat.le_trans (show _≤8000 by omega) (by decide),_,_,rfl,rfl,?_,_,rfl,a,_,_,_,rfl,rfl,SqT.of ha,rfl,_,_,rfl,rfl,?_,_,_,rfl,rfl,?_,_,rfl,a,_,_,_,rfl,rfl,SqT.of ha,rfl,i,rfl,num_log8 wc.2.2,_,_,rfl,rfl,?_,q H (Same.refl _)⟩
   ·rw [str_len_app]
    exact Nat.le_trans (show _≤8000 by omega) (by decide)
   ·rw [str_len_app,str_len_app]
    exact Nat.le_trans (show _≤8000 by omega) (by decide)
   ·rw [str_len_app,str_len_app,str_len_app]
    exact Nat.le_trans (show _≤8000 by omega) (by decide)
   ·rw [str_len_app,str_len_app,str_len_app,str_len_app]
    exact Nat.le_trans hl (by decide)
  | tim i c =>
   obtain ⟨m,a,xs,rfl,rfl,ha,pr⟩:=pd.tup_of
   obtain ⟨v1,v2,v3,rfl,p1,p2,p3⟩:=pair3 pr
   rw [p1.str_is,p2.int_of] at ha
   have hl':(numT i).length + (" * " : Str).length + (tx c).length≤8000:=by
    have:(tx (.tim i c)).length=(numT i).length + (" * " : Str).length + (tx c).length:=by
     show ((numT i++(" * " : Str))++tx c).length=_
     rw [str_len_app,str_len_app]
    omega
   have hd':1 + dep c≤n + 1:=hd
   refine ⟨_,rfl,a,_,_,_,rfl,rfl,SqT.of ha,rfl,?_⟩
   refine ⟨_,rfl,rfl,_,rfl,iteFb (dne (by decide +kernel)) ⟨_,rfl,rfl,_,rfl,iteFb (dne (by decide +kernel)) ⟨_,rfl,rfl,_,rfl,iteFb (dne (by decide +kernel)) ⟨_,rfl,rfl,_,rfl,iteFb (dne (by decide +kernel)) ⟨_,rfl,rfl,_,rfl,iteTb (deq rfl) ?_⟩⟩⟩⟩⟩
   refine ⟨_,rfl,a,_,_,_,rfl,rfl,SqT.of ha,rfl,i,rfl,num_log8 wc.2.1,_,_,rfl,rfl,Nat.le_trans (show (numT i).length + (" * " : Str).length≤8000 by omega) (by decide),_,rfl,a,_,_,_,rfl,rfl,SqT.of ha,rfl,v3,_,c,rfl,p3,wc.2.2.2,by omega,by omega,fun H1 s1=>⟨_,_,rfl,rfl,?_,q H1 s1⟩⟩
   rw [str_len_app]
   exact Nat.le_trans hl' (by decide)
  | neg c =>
   obtain ⟨m,a,xs,rfl,rfl,ha,pr⟩:=pd.tup_of
   obtain ⟨v1,v2,rfl,p1,p2⟩:=pair2 pr
   rw [p1.str_is] at ha
   have hl':("not " : Str).length + (tx c).length≤8000:=by
    have:(tx (.neg c)).length=("not " : Str).length + (tx c).length:=str_len_app _ _
    omega
   have hd':1 + dep c≤n + 1:=hd
   refine ⟨_,rfl,a,_,_,_,rfl,rfl,SqT.of ha,rfl,?_⟩
   refine ⟨_,rfl,rfl,_,rfl,iteFb (dne (by decide +kernel)) ⟨_,rfl,rfl,_,rfl,iteFb (dne (by decide +kernel)) ⟨_,rfl,rfl,_,rfl,iteFb (dne (by decide +kernel)) ⟨_,rfl,rfl,_,rfl,iteFb (dne (by decide +kernel)) ⟨_,rfl,rfl,_,rfl,iteFb (dne (by decide +kernel)) ⟨_,rfl,rfl,_,rfl,iteTb (deq rfl) ?_⟩⟩⟩⟩⟩⟩
   exact ⟨_,rfl,a,_,_,_,rfl,rfl,SqT.of ha,rfl,v2,_,c,rfl,p2,wc.2,by omega,by omega,fun H1 s1=>⟨_,_,rfl,rfl,Nat.le_trans hl' (by decide),q H1 s1⟩⟩
  | ov x y k c =>
   obtain ⟨m,a,xs,rfl,rfl,ha,pr⟩:=pd.tup_of
   obtain ⟨v1,v2,v3,v4,rfl,p1,p2,p3,p4⟩:=pair4 pr
   rw [p1.str_is,p2.str_is] at ha
   obtain ⟨hx,hy,wk,ht,wc⟩:=wc
   rw [← x_ov] at hl q
   rw [str_len_app,str_len_app,str_len_app,str_len_app,str_len_app,str_len_app] at hl
   have hd':1 + dep c≤n + 1:=hd
   have N:∀ {z:Str},z ≠ "each" → z ≠ "some" → decide (V.str x=V.str z)=false:=fun h1 h2=>dne (by rcases hx with rfl | rfl; exact h1.symm; exact h2.symm)
   refine ⟨_,rfl,a,_,_,_,rfl,rfl,SqT.of ha,rfl,?_⟩
   refine ⟨_,rfl,rfl,_,rfl,iteFb (N (by decide +kernel) (by decide +kernel)) ⟨_,rfl,rfl,_,rfl,iteFb (N (by decide +kernel) (by decide +kernel)) ⟨_,rfl,rfl,_,rfl,iteFb (N (by decide +kernel) (by decide +kernel)) ⟨_,rfl,rfl,_,rfl,iteFb (N (by decide +kernel) (by decide +kernel)) ⟨_,rfl,rfl,_,rfl,iteFb (N (by decide +kernel) (by decide +kernel)) ⟨_,rfl,rfl,_,rfl,iteFb (N (by decide +kernel) (by decide +kernel)) ?_⟩⟩⟩⟩⟩⟩
   refine ⟨_,rfl,rfl,_,rfl,ite2 (fun h=>iteT ?_) (fun h=>⟨_,rfl,rfl,_,rfl,iteTb (deq (hx.resolve_left (deq_f h))) ?_⟩)⟩
   all_goals refine ⟨_,rfl,_,_,rfl,rfl,Nat.le_trans (show _≤8000 by omega) (by decide),_,rfl,a,_,_,_,rfl,rfl,SqT.of ha,rfl,_,_,rfl,rfl,by rw [str_len_app]; exact Nat.le_trans (show _≤8000 by omega) (by decide),_,_,rfl,rfl,by rw [str_len_app,str_len_app]; exact Nat.le_trans (show _≤8000 by omega) (by decide),_,rfl,a,_,_,_,rfl,rfl,SqT.of ha,rfl,v3,_,k,rfl,p3,wk,Nat.le_trans (show _≤8000 by omega) (by decide),_,_,rfl,rfl,by rw [str_len_app,str_len_app,str_len_app]; exact Nat.le_trans (show _≤8000 by omega) (by decide),_,_,rfl,rfl,by rw [str_len_app,str_len_app,str_len_app,str_len_app]; exact Nat.le_trans (show _≤8000 by omega) (by decide),_,rfl,a,_,_,_,rfl,rfl,SqT.of ha,rfl,v4,_,c,rfl,p4,wc,by omega,by omega,fun H1 s1=>⟨_,_,rfl,rfl,by rw [str_len_app,str_len_app,str_len_app,str_len_app,str_len_app]; exact Nat.le_trans hl (by decide),q H1 s1⟩⟩
  | atm a0 b0 =>
   obtain ⟨m,a,xs,rfl,rfl,ha,pr⟩:=pd.tup_of
   obtain ⟨v1,v2,v3,rfl,p1,p2,p3⟩:=pair3 pr
   rw [p1.str_is] at ha
   obtain ⟨ta,tb,wa,wb⟩:=wc
   have d7:("atmost" : Str) ∉ seven:=by decide +kernel
   rw [← x_atm] at hl q
   have hd':1 + max (dep a0) (dep b0)≤n + 1:=hd
   have hj:=hl
   have ab:(tx a0).length + (tx b0).length≤8000:=by
    rw [join_two,join_one,str_len_app,str_len_app] at hj
    omega
   refine ⟨_,rfl,a,_,_,_,rfl,rfl,SqT.of ha,rfl,?_⟩
   refine ⟨_,rfl,rfl,_,rfl,iteFb (dne (by decide +kernel)) ⟨_,rfl,rfl,_,rfl,iteFb (dne (by decide +kernel)) ⟨_,rfl,rfl,_,rfl,iteFb (dne (by decide +kernel)) ⟨_,rfl,rfl,_,rfl,iteFb (dne (by decide +kernel)) ⟨_,rfl,rfl,_,rfl,iteFb (dne (by decide +kernel)) ⟨_,rfl,rfl,_,rfl,iteFb (dne (by decide +kernel)) ?_⟩⟩⟩⟩⟩⟩
   refine ⟨_,rfl,rfl,_,rfl,iteFb (dne (by decide +kernel)) ⟨_,rfl,rfl,_,rfl,iteFb (dne (by decide +kernel)) ?_⟩⟩
   refine ⟨fun σ' H'=>Same H H'∧σ'=[some (V.ref a),some (V.str "atmost"),none],?_,?_⟩
   ·refine ⟨_,rfl,by show 7≤sizeLine; decide,fun q0 hq0=>?_⟩
    have s1:Same H (upd H q0 (.lst (seven.map V.str))):=Same.new hq0
    exact ⟨q0,seven.map V.str,rfl,.inl (SqL.of upd_same),rfl,flat_strs _,_,rfl,iteFb (by show inV (.str "atmost") (seven.map V.str)=false; rw [in_strs]; exact decide_eq_false d7) ⟨s1,rfl⟩⟩
   rintro σ' H1 ⟨s1,rfl⟩
   refine ⟨fun σ' H'=>Same H H'∧∃ l,H' l=some (.lst (([tx a0,tx b0]:List Str).map V.str))∧σ'=[some (V.ref a),some (V.str "atmost"),some (V.ref l)],?_,?_⟩
   ·refine ⟨_,rfl,a,_,_,_,rfl,rfl,SqT.of (s1 _ _ ha),rfl,v2,_,a0,rfl,p2.same s1,wa,by omega,by omega,fun H2 s2=>⟨_,rfl,a,_,_,_,rfl,rfl,SqT.of ((s1.trans s2) _ _ ha),rfl,v3,_,b0,rfl,p3.same (s1.trans s2),wb,by omega,by omega,fun H3 s3=>⟨by show 2≤sizeLine; decide,fun l hl0=>?_⟩⟩⟩
    exact ⟨(s1.trans s2).trans (s3.trans (Same.new hl0)),l,upd_same,rfl⟩
   clear s1 H1
   rintro σ' H1 ⟨s1,l,gl,rfl⟩
   have wgt:(([tx a0,tx b0]:List Str).map (·.length)).sum + ([tx a0,tx b0]:List Str).length≤1048576:=by
    show (tx a0).length + ((tx b0).length + 0) + 2≤1048576
    omega
   exact ⟨_,rfl,rfl,_,rfl,iteTb (deq rfl) ⟨rfl,_,rfl,_,l,[tx a0,tx b0],rfl,rfl,SqL.of gl,by decide +kernel,wgt,q H1 s1⟩⟩
  | two x a0 b0 =>
   obtain ⟨m,a,xs,rfl,rfl,ha,pr⟩:=pd.tup_of
   obtain ⟨v1,v2,v3,rfl,p1,p2,p3⟩:=pair3 pr
   rw [p1.str_is] at ha
   obtain ⟨hx,ta,tb,wa,wb⟩:=wc
   have N:∀ {z:Str},z ≠ "least" → z ≠ "most" → x ≠ z:=fun h1 h2=>by rcases hx with rfl | rfl; exact h1.symm; exact h2.symm
   have xl:x.length≤5:=by rcases hx with rfl | rfl <;> decide +kernel
   have d7:x ∉ seven:=by rcases hx with rfl | rfl <;> decide +kernel
   rw [← x_two] at hl q
   have hd':1 + max (dep a0) (dep b0)≤n + 1:=hd
   have hj:(Str.join ", " [tx a0,tx b0]).length≤8000:=by
    rw [str_len_app,str_len_app] at hl
    omega
   have ab:(tx a0).length + (tx b0).length≤8000:=by
    rw [join_two,join_one,str_len_app,str_len_app] at hj
    omega
   refine ⟨_,rfl,a,_,_,_,rfl,rfl,SqT.of ha,rfl,?_⟩
   refine ⟨_,rfl,rfl,_,rfl,iteFb (dne (N (by decide +kernel) (by decide +kernel))) ⟨_,rfl,rfl,_,rfl,iteFb (dne (N (by decide +kernel) (by decide +kernel))) ⟨_,rfl,rfl,_,rfl,iteFb (dne (N (by decide +kernel) (by decide +kernel))) ⟨_,rfl,rfl,_,rfl,iteFb (dne (N (by decide +kernel) (by decide +kernel))) ⟨_,rfl,rfl,_,rfl,iteFb (dne (N (by decide +kernel) (by decide +kernel))) ⟨_,rfl,rfl,_,rfl,iteFb (dne (N (by decide +kernel) (by decide +kernel))) ?_⟩⟩⟩⟩⟩⟩
   refine ⟨_,rfl,rfl,_,rfl,iteFb (dne (N (by decide +kernel) (by decide +kernel))) ⟨_,rfl,rfl,_,rfl,iteFb (dne (N (by decide +kernel) (by decide +kernel))) ?_⟩⟩
   refine ⟨fun σ' H'=>Same H H'∧σ'=[some (V.ref a),some (V.str x),none],?_,?_⟩
   ·refine ⟨_,rfl,by show 7≤sizeLine; decide,fun q0 hq0=>?_⟩
    have s1:Same H (upd H q0 (.lst (seven.map V.str))):=Same.new hq0
    exact ⟨q0,seven.map V.str,rfl,.inl (SqL.of upd_same),rfl,flat_strs _,_,rfl,iteFb (by show inV (.str x) (seven.map V.str)=false; rw [in_strs]; exact decide_eq_false d7) ⟨s1,rfl⟩⟩
   rintro σ' H1 ⟨s1,rfl⟩
   refine ⟨fun σ' H'=>Same H H'∧∃ l,H' l=some (.lst (([tx a0,tx b0]:List Str).map V.str))∧σ'=[some (V.ref a),some (V.str x),some (V.ref l)],?_,?_⟩
   ·refine ⟨_,rfl,a,_,_,_,rfl,rfl,SqT.of (s1 _ _ ha),rfl,v2,_,a0,rfl,p2.same s1,wa,by omega,by omega,fun H2 s2=>⟨_,rfl,a,_,_,_,rfl,rfl,SqT.of ((s1.trans s2) _ _ ha),rfl,v3,_,b0,rfl,p3.same (s1.trans s2),wb,by omega,by omega,fun H3 s3=>⟨by show 2≤sizeLine; decide,fun l hl0=>?_⟩⟩⟩
    exact ⟨(s1.trans s2).trans (s3.trans (Same.new hl0)),l,upd_same,rfl⟩
   clear s1 H1
   rintro σ' H1 ⟨s1,l,gl,rfl⟩
   have wgt:(([tx a0,tx b0]:List Str).map (·.length)).sum + ([tx a0,tx b0]:List Str).length≤1048576:=by
    show (tx a0).length + ((tx b0).length + 0) + 2≤1048576
    omega
   have xp:x.length + ("(" : Str).length≤sizeLine:=by
    have:("(" : Str).length=1:=by decide +kernel
    exact Nat.le_trans (show _≤6 by omega) (by decide)
   refine ⟨_,rfl,rfl,_,rfl,iteFb (dne (N (by decide +kernel) (by decide +kernel))) ?_⟩
   refine ⟨fun _ _=>False,?_,fun _ _ z=>z.elim⟩
   refine ⟨_,rfl,rfl,_,rfl,ite2 (fun h=>iteT ?_) (fun h=>⟨_,rfl,rfl,_,rfl,iteTb (deq (hx.resolve_left (deq_f h))) ?_⟩)⟩
   all_goals refine ⟨_,rfl,_,_,rfl,rfl,xp,rfl,_,rfl,_,l,[tx a0,tx b0],rfl,rfl,SqL.of gl,by decide +kernel,wgt,_,_,rfl,rfl,?_,_,_,rfl,rfl,?_,q H1 s1⟩
   all_goals rw [str_len_app,str_len_app,str_len_app] at hl
   all_goals first | (rw [str_len_app,str_len_app]; exact Nat.le_trans hl (by decide)) | (rw [str_len_app]; exact Nat.le_trans (show _≤8000 by omega) (by decide))
  | plus a0 b0 =>
   obtain ⟨m,a,xs,rfl,rfl,ha,pr⟩:=pd.tup_of
   obtain ⟨v1,v2,v3,rfl,p1,p2,p3⟩:=pair3 pr
   rw [p1.str_is] at ha
   obtain ⟨ta,tb,wa,wb⟩:=wc
   have d7:("plus" : Str) ∉ seven:=by decide +kernel
   rw [← x_plus] at hl q
   have hd':1 + max (dep a0) (dep b0)≤n + 1:=hd
   have hj:(Str.join (((" " : Str)++("+" : Str))++(" " : Str)) [tx a0,tx b0]).length≤8000:=by
    rw [str_len_app,str_len_app] at hl
    omega
   have ab:(tx a0).length + (tx b0).length≤8000:=by
    rw [join_two,join_one,str_len_app,str_len_app] at hj
    omega
   refine ⟨_,rfl,a,_,_,_,rfl,rfl,SqT.of ha,rfl,?_⟩
   refine ⟨_,rfl,rfl,_,rfl,iteFb (dne (by decide +kernel)) ⟨_,rfl,rfl,_,rfl,iteFb (dne (by decide +kernel)) ⟨_,rfl,rfl,_,rfl,iteFb (dne (by decide +kernel)) ⟨_,rfl,rfl,_,rfl,iteFb (dne (by decide +kernel)) ⟨_,rfl,rfl,_,rfl,iteFb (dne (by decide +kernel)) ⟨_,rfl,rfl,_,rfl,iteFb (dne (by decide +kernel)) ?_⟩⟩⟩⟩⟩⟩
   refine ⟨_,rfl,rfl,_,rfl,iteFb (dne (by decide +kernel)) ⟨_,rfl,rfl,_,rfl,iteFb (dne (by decide +kernel)) ?_⟩⟩
   refine ⟨fun σ' H'=>Same H H'∧σ'=[some (V.ref a),some (V.str "plus"),none],?_,?_⟩
   ·refine ⟨_,rfl,by show 7≤sizeLine; decide,fun q0 hq0=>?_⟩
    have s1:Same H (upd H q0 (.lst (seven.map V.str))):=Same.new hq0
    exact ⟨q0,seven.map V.str,rfl,.inl (SqL.of upd_same),rfl,flat_strs _,_,rfl,iteFb (by show inV (.str "plus") (seven.map V.str)=false; rw [in_strs]; exact decide_eq_false d7) ⟨s1,rfl⟩⟩
   rintro σ' H1 ⟨s1,rfl⟩
   refine ⟨fun σ' H'=>Same H H'∧∃ l,H' l=some (.lst (([tx a0,tx b0]:List Str).map V.str))∧σ'=[some (V.ref a),some (V.str "plus"),some (V.ref l)],?_,?_⟩
   ·refine ⟨_,rfl,a,_,_,_,rfl,rfl,SqT.of (s1 _ _ ha),rfl,v2,_,a0,rfl,p2.same s1,wa,by omega,by omega,fun H2 s2=>⟨_,rfl,a,_,_,_,rfl,rfl,SqT.of ((s1.trans s2) _ _ ha),rfl,v3,_,b0,rfl,p3.same (s1.trans s2),wb,by omega,by omega,fun H3 s3=>⟨by show 2≤sizeLine; decide,fun l hl0=>?_⟩⟩⟩
    exact ⟨(s1.trans s2).trans (s3.trans (Same.new hl0)),l,upd_same,rfl⟩
   clear s1 H1
   rintro σ' H1 ⟨s1,l,gl,rfl⟩
   have wgt:(([tx a0,tx b0]:List Str).map (·.length)).sum + ([tx a0,tx b0]:List Str).length≤1048576:=by
    show (tx a0).length + ((tx b0).length + 0) + 2≤1048576
    omega
   refine ⟨_,rfl,rfl,_,rfl,iteFb (dne (by decide +kernel)) ?_⟩
   refine ⟨fun σ' H'=>H1=H'∧σ'=[some (V.ref a),some (V.str "plus"),some (V.ref l)],⟨_,rfl,rfl,_,rfl,iteFb (dne (by decide +kernel)) ⟨_,rfl,rfl,_,rfl,iteFb (dne (by decide +kernel)) ⟨rfl,rfl⟩⟩⟩,?_⟩
   rintro σ' H2 ⟨rfl,rfl⟩
   refine ⟨fun σ' H'=>H1=H'∧σ'=[some (V.ref a),some (V.str "+"),some (V.ref l)],⟨_,rfl,rfl,_,rfl,iteTb (deq rfl) ⟨rfl,rfl⟩⟩,?_⟩
   rintro σ' H2 ⟨rfl,rfl⟩
   have xl:("+" : Str).length≤5:=by decide +kernel
   have e1:(" " : Str).length=1:=by decide +kernel
   have sp:(((" " : Str)++("+" : Str))++(" " : Str)).length≤16:=by
    rw [str_len_app,str_len_app]
    omega
   refine ⟨_,rfl,_,_,rfl,rfl,Nat.le_trans (show (" " : Str).length + ("+" : Str).length≤16 by omega) (by decide),_,_,rfl,rfl,?_,rfl,_,rfl,_,l,[tx a0,tx b0],rfl,rfl,SqL.of gl,sp,wgt,_,_,rfl,rfl,?_,_,_,rfl,rfl,?_,q H1 s1⟩
   all_goals rw [str_len_app,str_len_app] at hl
   ·rw [str_len_app]
    exact Nat.le_trans (show _≤16 by omega) (by decide)
   ·exact Nat.le_trans (show _≤8000 by omega) (by decide)
   ·rw [str_len_app]
    exact Nat.le_trans hl (by decide)
  | bin x a0 b0 =>
   obtain ⟨m,a,xs,rfl,rfl,ha,pr⟩:=pd.tup_of
   obtain ⟨v1,v2,v3,rfl,p1,p2,p3⟩:=pair3 pr
   rw [p1.str_is] at ha
   obtain ⟨hx,ta,tb,wa,wb⟩:=wc
   have N:∀ {z:Str},z ≠ "and" → z ≠ "or" → x ≠ z:=fun h1 h2=>by rcases hx with rfl | rfl; exact h1.symm; exact h2.symm
   have xl:x.length≤5:=by rcases hx with rfl | rfl <;> decide +kernel
   have d7:x ∉ seven:=by rcases hx with rfl | rfl <;> decide +kernel
   rw [← x_bin] at hl q
   have hd':1 + max (dep a0) (dep b0)≤n + 1:=hd
   have hj:(Str.join (((" " : Str)++x)++(" " : Str)) [tx a0,tx b0]).length≤8000:=by
    rw [str_len_app,str_len_app] at hl
    omega
   have ab:(tx a0).length + (tx b0).length≤8000:=by
    rw [join_two,join_one,str_len_app,str_len_app] at hj
    omega
   refine ⟨_,rfl,a,_,_,_,rfl,rfl,SqT.of ha,rfl,?_⟩
   refine ⟨_,rfl,rfl,_,rfl,iteFb (dne (N (by decide +kernel) (by decide +kernel))) ⟨_,rfl,rfl,_,rfl,iteFb (dne (N (by decide +kernel) (by decide +kernel))) ⟨_,rfl,rfl,_,rfl,iteFb (dne (N (by decide +kernel) (by decide +kernel))) ⟨_,rfl,rfl,_,rfl,iteFb (dne (N (by decide +kernel) (by decide +kernel))) ⟨_,rfl,rfl,_,rfl,iteFb (dne (N (by decide +kernel) (by decide +kernel))) ⟨_,rfl,rfl,_,rfl,iteFb (dne (N (by decide +kernel) (by decide +kernel))) ?_⟩⟩⟩⟩⟩⟩
   refine ⟨_,rfl,rfl,_,rfl,iteFb (dne (N (by decide +kernel) (by decide +kernel))) ⟨_,rfl,rfl,_,rfl,iteFb (dne (N (by decide +kernel) (by decide +kernel))) ?_⟩⟩
   refine ⟨fun σ' H'=>Same H H'∧σ'=[some (V.ref a),some (V.str x),none],?_,?_⟩
   ·refine ⟨_,rfl,by show 7≤sizeLine; decide,fun q0 hq0=>?_⟩
    have s1:Same H (upd H q0 (.lst (seven.map V.str))):=Same.new hq0
    exact ⟨q0,seven.map V.str,rfl,.inl (SqL.of upd_same),rfl,flat_strs _,_,rfl,iteFb (by show inV (.str x) (seven.map V.str)=false; rw [in_strs]; exact decide_eq_false d7) ⟨s1,rfl⟩⟩
   rintro σ' H1 ⟨s1,rfl⟩
   refine ⟨fun σ' H'=>Same H H'∧∃ l,H' l=some (.lst (([tx a0,tx b0]:List Str).map V.str))∧σ'=[some (V.ref a),some (V.str x),some (V.ref l)],?_,?_⟩
   ·refine ⟨_,rfl,a,_,_,_,rfl,rfl,SqT.of (s1 _ _ ha),rfl,v2,_,a0,rfl,p2.same s1,wa,by omega,by omega,fun H2 s2=>⟨_,rfl,a,_,_,_,rfl,rfl,SqT.of ((s1.trans s2) _ _ ha),rfl,v3,_,b0,rfl,p3.same (s1.trans s2),wb,by omega,by omega,fun H3 s3=>⟨by show 2≤sizeLine; decide,fun l hl0=>?_⟩⟩⟩
    exact ⟨(s1.trans s2).trans (s3.trans (Same.new hl0)),l,upd_same,rfl⟩
   clear s1 H1
   rintro σ' H1 ⟨s1,l,gl,rfl⟩
   have wgt:(([tx a0,tx b0]:List Str).map (·.length)).sum + ([tx a0,tx b0]:List Str).length≤1048576:=by
    show (tx a0).length + ((tx b0).length + 0) + 2≤1048576
    omega
   refine ⟨_,rfl,rfl,_,rfl,iteFb (dne (N (by decide +kernel) (by decide +kernel))) ?_⟩
   refine ⟨fun σ' H'=>H1=H'∧σ'=[some (V.ref a),some (V.str x),some (V.ref l)],⟨_,rfl,rfl,_,rfl,iteFb (dne (N (by decide +kernel) (by decide +kernel))) ⟨_,rfl,rfl,_,rfl,iteFb (dne (N (by decide +kernel) (by decide +kernel))) ⟨rfl,rfl⟩⟩⟩,?_⟩
   rintro σ' H2 ⟨rfl,rfl⟩
   refine ⟨fun σ' H'=>H1=H'∧σ'=[some (V.ref a),some (V.str x),some (V.ref l)],⟨_,rfl,rfl,_,rfl,iteFb (dne (N (by decide +kernel) (by decide +kernel))) ⟨rfl,rfl⟩⟩,?_⟩
   rintro σ' H2 ⟨rfl,rfl⟩
   have e1:(" " : Str).length=1:=by decide +kernel
   have sp:(((" " : Str)++x)++(" " : Str)).length≤16:=by
    rw [str_len_app,str_len_app]
    omega
   refine ⟨_,rfl,_,_,rfl,rfl,Nat.le_trans (show (" " : Str).length + x.length≤16 by omega) (by decide),_,_,rfl,rfl,?_,rfl,_,rfl,_,l,[tx a0,tx b0],rfl,rfl,SqL.of gl,sp,wgt,_,_,rfl,rfl,?_,_,_,rfl,rfl,?_,q H1 s1⟩
   all_goals rw [str_len_app,str_len_app] at hl
   ·rw [str_len_app]
    exact Nat.le_trans (show _≤16 by omega) (by decide)
   ·exact Nat.le_trans (show _≤8000 by omega) (by decide)
   ·rw [str_len_app]
    exact Nat.le_trans hl (by decide)
end
end Net
namespace Net
open PySem L2 L2.Tx
def spRfd:Sp:=fun vs H Q _=>∃ (x:Str) (b:Bool),vs=[.str x,.bl b]∧okX x∧(∀ c l',(if b=true then wcOf (rFirst 12) else wtOf (rFirst 12)) (wordsC x)=some (c,l')→wf c∧dep c≤25∧okX (tx c)∧¬ (tx c=x∧dep c≤12))∧∀ H',Same H H'→Q (.bl true) H'
structure Asked (c:Cl) (b:Bool):Prop where
 wf:wf c
 ist:isT c=!b
 r1:rn c≤dep c
 r2:dep c≤rn c + 1
 ok:okX (tx c)
theorem hd_nil (w:Str) (h:("" : Str) ≠ w):hd [] ≠ w:=h
theorem read_of {c:Cl} {b:Bool} (g:Asked c b):(if b=true then wcOf (rFirst 12) else wtOf (rFirst 12)) (wordsC (tx c))=if rn c≤12 then some (c,[]) else none:=by
 rw [words_tx g.wf]
 have R:=reads c g.wf
 cases b with
 | true =>
  have ht:isT c=false:=g.ist
  rw [if_pos rfl]
  by_cases h:rn c≤12
  ·rw [if_pos h]
   have:=wc_ok R.1 ht h (hd_nil "*" (by decide +kernel))
   rw [List.append_nil] at this
   exact this
  ·rw [if_neg h]
   have:=wc_no (rest:=[]) R.1 (show 12 < rn c by omega)
   rw [List.append_nil] at this
   exact this
 | false =>
  have ht:isT c=true:=g.ist
  rw [if_neg Bool.false_ne_true]
  by_cases h:rn c≤12
  ·rw [if_pos h]
   have:=wt_ok (R.2 (isT_no ht)) ht h (hd_nil "*" (by decide +kernel))
   rw [List.append_nil] at this
   exact this
  ·rw [if_neg h]
   have:=wt_no (rest:=[]) (R.2 (isT_no ht)) (show 12 < rn c by omega)
   rw [List.append_nil] at this
   exact this
theorem pd_refl {H:Hp}:∀ {n:Nat} {v:V} {d:PyData},PD H n v d→PyData.eqv d d=true
 | 0,v,d,h=>by
  cases v <;> try exact h.elim
  all_goals first | (cases (show d=_ from h); simp [PyData.eqv]; done) | (cases h.2; simp [PyData.eqv]; done)
 | n + 1,v,d,h=>by
  have all:∀ {xs:List V} {ds:List PyData},Paired (PD H n) xs ds→PyData.eqvAll ds ds=true:=fun {xs ds} p=>by
   induction p with
   | nil=>simp [PyData.eqvAll]
   | cons a _ ih=>rw [PyData.eqvAll,pd_refl a,ih]; rfl
  cases v <;> try exact h.elim
  case ref a =>
   rcases h with ⟨xs,ds,_,rfl,p⟩ | ⟨xs,ds,_,rfl,p⟩
   ·rw [PyData.eqv]; exact all p
   ·rw [PyData.eqv]; exact all p
  all_goals first | (cases (show d=_ from h); simp [PyData.eqv]; done) | (cases h.2; simp [PyData.eqv]; done)
theorem app_okX {x y z:Str} (h:okX (x++(y++z))):okX x:=by
 obtain ⟨h1,h2⟩:=h
 rw [str_len_app] at h1
 exact ⟨by omega,fun c hc=>h2 c (by rw [cps_app]; exact List.mem_append_left _ hc)⟩
theorem mis_read {c:Cl} {b:Bool} (g:Asked c b) (h12:dep c≤12):∀ c' l',(if (!b)=true then wcOf (rFirst 12) else wtOf (rFirst 12)) (wordsC (tx c))=some (c',l')→wf c'∧dep c'≤25∧okX (tx c')∧¬ (tx c'=tx c∧dep c'≤12):=fun c' l' e=>by
 have hr:rn c≤12:=Nat.le_trans g.r1 h12
 rw [words_tx g.wf] at e
 have R:=reads c g.wf
 cases b with
 | true =>
  have ht:isT c=false:=g.ist
  have e':wtOf (rFirst 12) (wd c)=some (c',l'):=e
  by_cases ha:isAt0 c=false
  ·have:=(R.2 ha 12 []).1 hr (hd_nil "*" (by decide +kernel))
   rw [List.append_nil] at this
   unfold wtOf at e'
   rw [this] at e'
   have e2:(if isT c=true then some (c,[]) else none)=some (c',l'):=e'
   rw [ht,if_neg Bool.false_ne_true] at e2
   cases e2
  ·cases c with
   | atm a0 b0 =>
    obtain ⟨ta,tb,wa,wb⟩:=g.wf
    have hra:rn a0≤12:=by
     have:max (rn a0) (rn b0)≤12:=hr
     omega
    have:=((reads a0 wa).2 (isT_no ta) 12 (("<=" : Str) :: wd b0)).1 hra (hd_ne (by decide +kernel))
    have e2:wtOf (rFirst 12) (wd a0++("<=" : Str) :: wd b0)=some (c',l'):=e'
    unfold wtOf at e2
    rw [this] at e2
    have e3:(if isT a0=true then some (a0,("<=" : Str) :: wd b0) else none)=some (c',l'):=e2
    rw [if_pos ta] at e3
    have e4:a0=c':=congrArg Prod.fst (Option.some.inj e3)
    subst e4
    have hx:tx (.atm a0 b0)=tx a0++((" <= " : Str)++tx b0):=by
     show (tx a0++(" <= " : Str))++tx b0=_
     rw [str_assoc]
    have ok:=g.ok
    have hdd:1 + max (dep a0) (dep b0)≤12:=h12
    rw [hx] at ok
    refine ⟨wa,by omega,app_okX ok,fun z=>?_⟩
    have z1:=congrArg Str.length z.1
    rw [hx,str_len_app,str_len_app] at z1
    have l4:(" <= " : Str).length=4:=by decide +kernel
    omega
   | _=>exact absurd rfl ha
 | false =>
  have ht:isT c=true:=g.ist
  have e':wcOf (rFirst 12) (wd c)=some (c',l'):=e
  have:=(R.1 12 []).1 hr (hd_nil "*" (by decide +kernel)) fun _=>hd_nil "<=" (by decide +kernel)
  rw [List.append_nil] at this
  unfold wcOf at e'
  rw [this] at e'
  have e2:(if isT c=true then none else some (c,[]))=some (c',l'):=e'
  rw [if_pos ht] at e2
  cases e2
def cntL:PyData→Nat
 | .list _=>1
 | .tuple ds=>(ds.map cntL).sum
 | _=>0
def TrS (Z:Addr→Prop) (B:Nat) (H:Hp):Nat→V→PyData→Prop
 | _,.non,d=>d=.none
 | _,.bl b,d=>d=.bool b
 | _,.int i,d=>d=.int i
 | _,.str x,d=>d=.str x
 | n + 1,.ref a,d=>(∃ xs ds,H a=some (.lst xs)∧Z a∧xs.length≤B∧d=.list ds) ∨ ∃ xs ds,H a=some (.tup xs)∧d=.tuple ds∧Paired (TrS Z B H n) xs ds
 | _,_,_=>False
structure Spo (Z:Addr→Prop) (k:Nat) (H H':Hp):Prop where
 oth:∀ b o,H b=some o→(∀ xs,o ≠ .lst xs)→H' b=some o
 old:∀ b xs,H b=some (.lst xs)→¬ Z b→H' b=some (.lst xs)
 lst:∀ b xs,H b=some (.lst xs)→∃ ys,H' b=some (.lst ys)∧ys.length≤xs.length + k
theorem Spo.refl (Z:Addr→Prop) (H:Hp):Spo Z 0 H H:=⟨fun _ _ e _=>e,fun _ _ e _=>e,fun _ xs e=>⟨xs,e,Nat.le_refl _⟩⟩
theorem Spo.trans {Z:Addr→Prop} {j k:Nat} {H H1 H2:Hp} (a:Spo Z j H H1) (b:Spo Z k H1 H2):Spo Z (j + k) H H2 :=
 ⟨fun x o e n=>b.oth x o (a.oth x o e n) n,fun x xs e n=>b.old x xs (a.old x xs e n) n,fun x xs e=>by
  obtain ⟨ys,h1,h2⟩:=a.lst x xs e
  obtain ⟨zs,h3,h4⟩:=b.lst x ys h1
  exact ⟨zs,h3,by omega⟩⟩
theorem Spo.app {Z:Addr→Prop} {H:Hp} {a:Addr} {xs:List V} {v:V} (h:H a=some (.lst xs)) (hz:Z a):Spo Z 1 H (upd H a (.lst (xs++[v]))) :=
 ⟨fun b o e n=>by
   rw [upd_ne fun z=>by rw [z,h] at e; cases e; exact n xs rfl]
   exact e,fun b ys e n=>by
   rw [upd_ne fun z=>n (by rw [z]; exact hz)]
   exact e,fun b ys e=>by
   by_cases hb:b=a
   ·subst hb
    rw [h] at e
    cases e
    exact ⟨_,upd_same,by rw [List.length_append]; exact Nat.le_refl _⟩
   ·exact ⟨ys,by rw [upd_ne hb]; exact e,by omega⟩⟩
theorem TrS.spo {Z:Addr→Prop} {k:Nat} {H H':Hp} (s:Spo Z k H H'):∀ {n B:Nat} {v:V} {d:PyData},TrS Z B H n v d→TrS Z (B + k) H' n v d
 | 0,B,v,d,h=>by cases v <;> first | exact h | exact h.elim
 | n + 1,B,v,d,h=>by
  cases v <;> first | exact h | exact h.elim | skip
  rcases h with ⟨xs,ds,e,z,l,e2⟩ | ⟨xs,ds,e,e2,p⟩
  ·obtain ⟨ys,h1,h2⟩:=s.lst _ _ e
   exact .inl ⟨ys,ds,h1,z,by omega,e2⟩
  ·exact .inr ⟨xs,ds,s.oth _ _ e (fun _ z=>nomatch z),e2,L2.Paired.mapP p fun _ _ h=>TrS.spo s h⟩
def spSpl (n:Nat):Sp:=fun vs H Q _=>∃ (v:V) (ds:List PyData) (Z:Addr→Prop) (B:Nat),vs=[v]∧TrS Z B H n v (.tuple ds)∧B + cntL (.tuple ds)≤100000∧∀ H',Spo Z (cntL (.tuple ds)) H H'→Q .non H'
theorem k_b_t8 (K:PySem.W.Frag):PySem.W.kitOne K (.type "bool") (.type "tuple")=some false:=by first | rfl | kernel_rfl
theorem k_n_t8 (K:PySem.W.Frag):PySem.W.kitOne K (.type "NoneType") (.type "tuple")=some false:=by first | rfl | kernel_rfl
theorem k_l_l8 (K:PySem.W.Frag):PySem.W.kitOne K (.type "list") (.type "list")=some true:=by first | rfl | kernel_rfl
theorem k_t_tt (K:PySem.W.Frag):PySem.W.kitOne K (.type "tuple") (.type "tuple")=some true:=by first | rfl | kernel_rfl
theorem k_l_t (K:PySem.W.Frag):PySem.W.kitOne K (.type "list") (.type "tuple")=some false:=by first | rfl | kernel_rfl
theorem k_s_t8 (K:PySem.W.Frag):PySem.W.kitOne K (.type "str") (.type "tuple")=some false:=by first | rfl | kernel_rfl
theorem k_i_t8 (K:PySem.W.Frag):PySem.W.kitOne K (.type "int") (.type "tuple")=some false:=by first | rfl | kernel_rfl
section
variable {P:Program} {w:World} {K:PySem.W.Frag} {mg:Str→Option Value} {base:Heap} {ct:Addr} {n:Nat}
theorem sc_rfd8:FnScope ["_law_text_here","_law_claim_due","_law_refused_here"] ["_law_text_here","_law_claim_due"] (defScope s_l_refused):=⟨rfl,rfl,rfl,by decide +kernel,rfl,by decide +kernel,by decide +kernel⟩
theorem ok_rfd8 {f:Addr} {fd:FuncData} (F:Fun K "_law_refused" "_law_refused" s_l_refused f fd) (mt:mg "NoText" = some (.ref ct)) (xm:PySem.W.exmOne K (.ref ct) (.ref ct)=some true) (cc:CanX P w K mg base 70 "read_claim" ["text"] (spRead ct (wcOf (rFirst 12)))) (cr:CanX P w K mg base 70 "read_term" ["text"] (spRead ct (wtOf (rFirst 12)))) :
  FnOk P w K mg base CX0 71 f fd ["_law_text_here","_law_claim_due"] spRfd:=by
 refine F.ok sc_rfd8 (fun vs H Q E h=>?_) (fun cdv A outer s H vs Q E hr h=>?_)
 ·obtain ⟨x,b,rfl,_⟩:=h
  rfl
 ·obtain ⟨x,b,rfl,ox,pre,q⟩:=h
  refine ⟨_,(pss_cons (ps_set (i:=2) sc_rfd8.nd rfl (Or.inl rfl) pe_bl)
   (pss_cons (ps_tryNo rfl rfl (by rfl) mt (psx_if (pt_val (pv 1)) (psx_expr (pex_call cc hr (by rfl) (pa_cons (pv 0) pa_nil))) (psx_expr (pex_call cr hr (by rfl) (pa_cons (pv 0) pa_nil)))) (fun v=>(pss_one (ps_set (i:=2) sc_rfd8.nd rfl (Or.inl rfl) pe_bl))))
   (pss_one (ps_ret (pv 2))))),?_⟩
  cases b with
  | true =>
   exact ⟨_,rfl,_,rfl,iteT ⟨_,rfl,x,rfl,ox,fun c l' e=>⟨(pre c l' e).1,(pre c l' e).2.1,(pre c l' e).2.2.1⟩,fun c l' e h1 h2=>absurd ⟨h1,h2⟩ (pre c l' e).2.2.2,fun _ H' s'=>⟨xm,_,rfl,q H' s'⟩⟩⟩
  | false =>
   exact ⟨_,rfl,_,rfl,iteF ⟨_,rfl,x,rfl,ox,fun c l' e=>⟨(pre c l' e).1,(pre c l' e).2.1,(pre c l' e).2.2.1⟩,fun c l' e h1 h2=>absurd ⟨h1,h2⟩ (pre c l' e).2.2.2,fun _ H' s'=>⟨xm,_,rfl,q H' s'⟩⟩⟩
def spTold:Sp:=fun vs H Q _=>∃ (v:V) (k:Nat) (c:Cl) (b:Bool),vs=[v,.bl b]∧PD H k v (dat c)∧wf c∧isT c=!b∧dep c≤25∧(tx c).length≤8000∧∀ H',Same H H'→Q (.str (tx c)) H'
def spReadL:Sp:=fun vs H Q _=>∃ (c:Cl) (b:Bool),vs=[.str (tx c),.bl b]∧Asked c b∧dep c≤12∧∀ v H',Same H H'→RelF (fun p=>H p=none) H' v c→Q v H'
theorem sc_told8:FnScope ["_law_thing","_law_claim_due"] ["_law_thing","_law_claim_due"] (defScope s_l_told):=⟨rfl,rfl,rfl,by decide +kernel,rfl,by decide +kernel,by decide +kernel⟩
theorem ok_told8 {f:Addr} {fd:FuncData} (F:Fun K "_law_told" "_law_told" s_l_told f fd) (sc:Can P w K mg base 53 "show_claim" ["claim"] (spShC 25)) (st:Can P w K mg base 27 "show_term" ["term"] (spShT 25)):FnOk P w K mg base CX0 54 f fd ["_law_thing","_law_claim_due"] spTold:=by
 refine F.ok sc_told8 (fun vs H Q E h=>?_) (fun cdv A outer s H vs Q E hr h=>?_)
 ·obtain ⟨v,k,c,b,rfl,_⟩:=h
  rfl
 ·obtain ⟨v,k,c,b,rfl,pd,wc,ht,hd,hl,q⟩:=h
  have r27:Room 27 _:=hr.mono (by decide)
  refine ⟨_,(pss_cons (ps_if (pt_val (pv 1)) (pss_one (ps_ret (pe_callC sc hr (by rfl) (pa_cons (pv 0) pa_nil)))) pss_nil)
   (pss_one (ps_ret (pe_callC st r27 (by rfl) (pa_cons (pv 0) pa_nil))))),?_⟩
  cases b with
  | true=>exact ⟨_,rfl,_,rfl,iteT ⟨_,rfl,v,k,c,rfl,pd,wc,ht,hd,Nat.le_trans hl (by decide),q⟩⟩
  | false=>exact ⟨_,rfl,_,rfl,iteF ⟨_,rfl,v,k,c,rfl,pd,wc,ht,hd,Nat.le_trans hl (by decide),q⟩⟩
theorem sc_read8:FnScope ["_law_text_here","_law_claim_due"] ["_law_text_here","_law_claim_due"] (defScope s_l_read):=⟨rfl,rfl,rfl,by decide +kernel,rfl,by decide +kernel,by decide +kernel⟩
theorem ok_read8 {f:Addr} {fd:FuncData} (F:Fun K "_law_read" "_law_read" s_l_read f fd) (cc:CanX P w K mg base 70 "read_claim" ["text"] (spRead ct (wcOf (rFirst 12)))) (cr:CanX P w K mg base 70 "read_term" ["text"] (spRead ct (wtOf (rFirst 12)))):FnOk P w K mg base CX0 71 f fd ["_law_text_here","_law_claim_due"] spReadL:=by
 refine F.ok sc_read8 (fun vs H Q E h=>?_) (fun cdv A outer s H vs Q E hr h=>?_)
 ·obtain ⟨c,b,rfl,_⟩:=h
  rfl
 ·obtain ⟨c,b,rfl,g,h12,q⟩:=h
  refine ⟨_,(pss_cons (ps_if (pt_val (pv 1)) (pss_one (ps_ret (pe_callX0 cc hr (by rfl) (pa_cons (pv 0) pa_nil)))) pss_nil)
   (pss_one (ps_ret (pe_callX0 cr hr (by rfl) (pa_cons (pv 0) pa_nil))))),?_⟩
  have e0:=read_of g
  rw [if_pos (Nat.le_trans g.r1 h12)] at e0
  have rd0:∀ {rf:Rdr} {Q1:VK},rf (wordsC (tx c))=some (c,[])→(∀ v2 H2,Same H H2→RelF (fun p=>H p=none) H2 v2 c→Q1 v2 H2)→spRead ct rf [.str (tx c)] H Q1 E0:=fun {rf Q1} e k=>by
   refine ⟨tx c,rfl,g.ok,fun c' l' e'=>?_,fun c' l' e' _ _ v2 H2 s2 rel2=>?_,fun z=>absurd ⟨rfl,h12⟩ (z c [] e)⟩
   ·rw [e] at e'
    cases e'
    exact ⟨g.wf,by omega,g.ok⟩
   ·rw [e] at e'
    cases e'
    exact k v2 H2 s2 rel2
  cases b with
  | true=>exact ⟨_,rfl,_,rfl,iteT ⟨_,rfl,rd0 e0 q⟩⟩
  | false=>exact ⟨_,rfl,_,rfl,iteF ⟨_,rfl,rd0 e0 q⟩⟩
theorem sc_spl:FnScope ["_law_thing","_law_one"] ["_law_thing"] (defScope s_l_spoil):=⟨rfl,rfl,rfl,by decide +kernel,rfl,by decide +kernel,by decide +kernel⟩
theorem ok_spl0 {f:Addr} {fd:FuncData} (F:Fun K "_law_spoil" "_law_spoil" s_l_spoil f fd):FnOk P w K mg base CX0 1 f fd ["_law_thing"] (spSpl 0):=by
 refine F.ok sc_spl (fun vs H Q E h=>?_) (fun cdv A outer s H vs Q E hr h=>?_)
 ·obtain ⟨v,ds,Z,B,rfl,_⟩:=h
  rfl
 ·obtain ⟨v,ds,Z,B,rfl,tr,_⟩:=h
  cases v <;> first | exact tr.elim | cases (show PyData.tuple ds=_ from tr)
theorem ok_spl {f:Addr} {fd:FuncData} (F:Fun K "_law_spoil" "_law_spoil" s_l_spoil f fd) (T:Txt K mg) (cs:Can P w K mg base (n + 1) "_law_spoil" ["_law_thing"] (spSpl n)):FnOk P w K mg base CX0 (n + 2) f fd ["_law_thing"] (spSpl (n + 1)):=by
 refine F.ok sc_spl (fun vs H Q E h=>?_) (fun cdv A outer s H vs Q E hr h=>?_)
 ·obtain ⟨v,ds,Z,B,rfl,_⟩:=h
  rfl
 ·obtain ⟨v,ds,Z,B,rfl,tr,hB,q⟩:=h
  refine ⟨_,(pss_one (ps_for PassesOwn.never rfl (pi_tup (pv 0)) (pg_name (i:=1) sc_spl.nd rfl (Or.inl rfl))
     (pss_cons (ps_if (pt_val (pe_callB call_isinst (by rfl) T.isi b_isi (pa_cons (pv 1) (pa_cons (pe_ty T.list (by rfl) b_list) pa_nil)))) (pss_one (ps_expr (pe_bm PySem.F.plainAttrs_list PySem.F.slot_list_append PySem.F.type_list_append mt_append (pv 1) (pa_cons pe_str pa_nil)))) pss_nil)
   (pss_one (ps_if (pt_val (pe_callB call_isinst (by rfl) T.isi b_isi (pa_cons (pv 1) (pa_cons (pe_ty T.tuple (by rfl) b_tuple) pa_nil)))) (pss_one (ps_expr (pe_callC cs hr (by rfl) (pa_cons (pv 1) pa_nil)))) pss_nil))))),?_⟩
  have key:∃ a xs,v=.ref a∧H a=some (.tup xs)∧Paired (TrS Z B H n) xs ds:=by
   cases v <;> first | exact tr.elim | cases (show PyData.tuple ds=_ from tr) | skip
   rcases tr with ⟨xs,ds',e,z,l,e2⟩ | ⟨xs,ds',e,e2,p⟩
   ·cases e2
   ·cases e2
    exact ⟨_,xs,rfl,e,p⟩
  obtain ⟨a,xs,rfl,ha,pr⟩:=key
  have tk:∀ i d,ds[i]?=some d→((ds.take (i + 1)).map cntL).sum=((ds.take i).map cntL).sum + cntL d:=fun i d e=>by
   rw [List.take_add_one,e,List.map_append,List.sum_append]
   show _ + ([cntL d]:List Nat).sum=_
   rw [List.sum_singleton]
  have tle:∀ i d,ds[i]?=some d→((ds.take i).map cntL).sum + cntL d≤cntL (.tuple ds):=fun i d e=>by
   rw [← tk i d e,cntL]
   have:=congrArg List.sum (congrArg (List.map cntL) (List.take_append_drop (i + 1) ds))
   rw [List.map_append,List.sum_append] at this
   omega
  have hlen:xs.length=ds.length:=Paired.length pr
  refine ⟨_,rfl,a,rfl,⟨_,SqT.of ha⟩,for_tup (K:=K) (xs:=xs) (fun i σ' H'=>Spo Z ((ds.take i).map cntL).sum H H'∧∃ o,σ'=[some (.ref a),o]) ⟨Spo.refl Z H,none,rfl⟩ (fun i σ' H' _ h=>SqT.of (h.1.oth _ _ ha (fun _ z=>nomatch z))) (fun i x σ' H' hx h=>?_) (fun σ' H' h=>q H' ?_)⟩
  ·obtain ⟨sp,o,rfl⟩:=h
   obtain ⟨d,hd,tr1⟩:=pair_get pr hx
   have tr2:=tr1.spo sp
   have e1:=tk i d hd
   have e2:=tle i d hd
   cases x with
   | int z =>
    have ed:d=.int z:=by cases n <;> exact tr2
    subst ed
    refine ⟨_,rfl,_,"list",_,false,rfl,.int z,k_i_l K,_,rfl,iteF ⟨_,rfl,_,"tuple",_,false,rfl,.int z,k_i_t8 K,_,rfl,iteF ⟨?_,_,rfl⟩⟩⟩
    rw [e1]
    simp only [cntL]
    exact sp
   | str z =>
    have ed:d=.str z:=by cases n <;> exact tr2
    subst ed
    refine ⟨_,rfl,_,"list",_,false,rfl,.str z,k_s_l K,_,rfl,iteF ⟨_,rfl,_,"tuple",_,false,rfl,.str z,k_s_t8 K,_,rfl,iteF ⟨?_,_,rfl⟩⟩⟩
    rw [e1]
    simp only [cntL]
    exact sp
   | bl z =>
    have ed:d=.bool z:=by cases n <;> exact tr2
    subst ed
    refine ⟨_,rfl,_,"list",_,false,rfl,.bl z,k_b_l K,_,rfl,iteF ⟨_,rfl,_,"tuple",_,false,rfl,.bl z,k_b_t8 K,_,rfl,iteF ⟨?_,_,rfl⟩⟩⟩
    rw [e1]
    simp only [cntL]
    exact sp
   | non =>
    have ed:d=.none:=by cases n <;> exact tr2
    subst ed
    refine ⟨_,rfl,_,"list",_,false,rfl,.non,k_n_l K,_,rfl,iteF ⟨_,rfl,_,"tuple",_,false,rfl,.non,k_n_t8 K,_,rfl,iteF ⟨?_,_,rfl⟩⟩⟩
    rw [e1]
    simp only [cntL]
    exact sp
   | ref b =>
    cases n with
    | zero=>exact tr2.elim
    | succ n =>
     have tr3:=tr2
     rcases tr2 with ⟨ys,ds',hb,zb,lb,rfl⟩ | ⟨ys,ds',hb,rfl,pb⟩
     ·have sa:=sp.trans (Spo.app (v:=.str "spoiled") hb zb)
      have hu:(upd H' b (.lst (ys++[V.str "spoiled"]))) b=some (.lst (ys++[V.str "spoiled"])):=upd_same
      refine ⟨_,rfl,_,"list",_,true,rfl,.lst hb,k_l_l8 K,_,rfl,iteT ⟨_,rfl,.inl ⟨rfl,ys,SqL.of hb⟩,b,ys,_,rfl,rfl,hb,Nat.lt_of_le_of_lt (show ys.length≤100000 by omega) (by decide +kernel),_,rfl,_,"tuple",_,false,rfl,.lst hu,k_l_t K,_,rfl,iteF ⟨?_,_,rfl⟩⟩⟩
      rw [e1,cntL]
      exact sa
     ·refine ⟨_,rfl,_,"list",_,false,rfl,.tup hb,k_t_l K,_,rfl,iteF ⟨_,rfl,_,"tuple",_,true,rfl,.tup hb,k_t_tt K,_,rfl,iteT ⟨_,rfl,_,ds',Z,_,rfl,tr3,by omega,fun H2 s2=>⟨?_,_,rfl⟩⟩⟩⟩
      rw [e1]
      exact sp.trans s2
   | _=>exact (by cases n <;> exact tr2:False).elim
  ·have h1:=h.1
   rw [hlen,List.take_length] at h1
   rw [cntL]
   exact h1
end
end Net
namespace Net
open PySem L2 L2.Tx
def Asc (x:Str):Prop:=∀ z ∈ x.cps.toList,z < 128
def ascB (x:Str):Bool:=x.cps.toList.all fun z=>decide (z < 128)
theorem asc_b {x:Str} (h:ascB x=true):Asc x:=fun z hz=>of_decide_eq_true (List.all_eq_true.mp h z hz)
theorem Asc.app {x y:Str} (a:Asc x) (b:Asc y):Asc (x++y):=fun z hz=>by
 rw [cps_app] at hz
 rcases List.mem_append.mp hz with h | h
 ·exact a z h
 ·exact b z h
theorem Asc.nil:Asc Str.empty:=fun z hz=>nomatch hz
theorem asc_join {s:Str} (hs:Asc s):∀ {l:List Str},(∀ x ∈ l,Asc x)→Asc (Str.join s l)
 | [],_=>fun z hz=>nomatch hz
 | [x],h=>by rw [join_one]; exact h x List.mem_cons_self
 | x :: y :: l,h=>by
  rw [join_two]
  exact (h x List.mem_cons_self).app (hs.app (asc_join hs fun z hz=>h z (List.mem_cons_of_mem _ hz)))
theorem asc_name {x:Str} (h:okN x=true):Asc x:=fun c hc=>by
 rcases Bool.or_eq_true_iff.mp h with h | h
 ·have:=name_signs h c hc
  omega
 ·unfold varB at h
  simp only [Bool.and_eq_true,List.all_eq_true] at h
  have:=h.2 c hc
  unfold greatB at this
  simp only [Bool.and_eq_true,decide_eq_true_eq] at this
  omega
theorem asc_var {x:Str} (h:varB x=true):Asc x:=asc_name (by unfold okN; rw [h,Bool.or_true])
theorem asc_num {n:Int} (h:wfN n):Asc (numT n):=fun c hc=>by
 have:=num_signs h.1 c hc
 omega
theorem asc_txK:∀ {s:Ks},wfK s→Asc (txK s)
 | .all,_=>asc_b (by decide +kernel)
 | .of w n,h=>asc_join (asc_b (by decide +kernel)) fun x hx=>by
  simp only [List.mem_cons,List.not_mem_nil,or_false] at hx
  rcases hx with rfl | rfl
  ·rcases h.1 with rfl | rfl
   ·exact asc_b (by decide +kernel)
   ·exact asc_b (by decide +kernel)
  ·exact asc_name h.2
 | .these ns,h=>((asc_b (by decide +kernel)).app (asc_join (asc_b (by decide +kernel)) fun x hx=>asc_name (h x hx))).app (asc_b (by decide +kernel))
theorem asc_tx:∀ {c:Cl},wf c→Asc (tx c)
 | .nm w ns,h=>asc_join (asc_b (by decide +kernel)) fun x hx=>by
  rcases List.mem_cons.mp hx with rfl | hx
  ·have:=nb_seven h.1
   unfold seven at this
   simp only [List.mem_cons,List.not_mem_nil,or_false] at this
   rcases this with rfl | rfl | rfl | rfl | rfl | rfl | rfl <;> exact asc_b (by decide +kernel)
  ·exact asc_name (h.2 x hx)
 | .cost a b n,h=>((asc_join (asc_b (by decide +kernel)) fun x hx=>by
  simp only [List.mem_cons,List.not_mem_nil,or_false] at hx
  rcases hx with rfl | rfl | rfl
  ·exact asc_b (by decide +kernel)
  ·exact asc_name h.1
  ·exact asc_name h.2.1).app (asc_b (by decide +kernel))).app (asc_num h.2.2)
 | .num n,h=>asc_num h
 | .size s,h=>asc_join (asc_b (by decide +kernel)) fun x hx=>by
  simp only [List.mem_cons,List.not_mem_nil,or_false] at hx
  rcases hx with rfl | rfl
  ·exact asc_b (by decide +kernel)
  ·exact asc_txK h
 | .pairs s t,h=>asc_join (asc_b (by decide +kernel)) fun x hx=>by
  simp only [List.mem_cons,List.not_mem_nil,or_false] at hx
  rcases hx with rfl | rfl | rfl
  ·exact asc_b (by decide +kernel)
  ·exact asc_txK h.1
  ·exact asc_txK h.2
 | .atm a b,h=>((asc_tx h.2.2.1).app (asc_b (by decide +kernel))).app (asc_tx h.2.2.2)
 | .neg a,h=>(asc_b (by decide +kernel)).app (asc_tx h.2)
 | .bin w a b,h=>(asc_b (by decide +kernel)).app ((asc_tx h.2.2.2.1).app ((asc_b (by decide +kernel)).app (Asc.app (by rcases h.1 with rfl | rfl <;> exact asc_b (by decide +kernel)) ((asc_b (by decide +kernel)).app ((asc_tx h.2.2.2.2).app ((asc_b (by decide +kernel)).app Asc.nil))))))
 | .plus a b,h=>(asc_b (by decide +kernel)).app ((asc_tx h.2.2.1).app ((asc_b (by decide +kernel)).app ((asc_tx h.2.2.2).app ((asc_b (by decide +kernel)).app Asc.nil))))
 | .two w a b,h=>Asc.app (by rcases h.1 with rfl | rfl <;> exact asc_b (by decide +kernel)) ((asc_b (by decide +kernel)).app ((asc_tx h.2.2.2.1).app ((asc_b (by decide +kernel)).app ((asc_tx h.2.2.2.2).app ((asc_b (by decide +kernel)).app Asc.nil)))))
 | .ov w v s a,h=>Asc.app (by rcases h.1 with rfl | rfl <;> exact asc_b (by decide +kernel)) ((asc_b (by decide +kernel)).app ((asc_var h.2.1).app ((asc_b (by decide +kernel)).app ((asc_txK h.2.2.1).app ((asc_b (by decide +kernel)).app ((asc_tx h.2.2.2.2).app Asc.nil))))))
 | .tim n a,h=>((asc_num h.2.1).app (asc_b (by decide +kernel))).app (asc_tx h.2.2.2)
theorem rn_dep:∀ {c:Cl},wf c→rn c≤dep c∧dep c≤rn c + 1∧(isT c=true→dep c=rn c)
 | .nm w ns,_=>⟨Nat.le_refl 1,by show 1≤2; decide,fun _=>rfl⟩
 | .cost a b n,_=>⟨Nat.le_refl 1,by show 1≤2; decide,fun _=>rfl⟩
 | .num n,_=>⟨Nat.le_refl 1,by show 1≤2; decide,fun _=>rfl⟩
 | .size s,_=>⟨Nat.le_refl 1,by show 1≤2; decide,fun _=>rfl⟩
 | .pairs s t,_=>⟨Nat.le_refl 1,by show 1≤2; decide,fun _=>rfl⟩
 | .atm a b,h=>by
  have h1:=(rn_dep h.2.2.1).2.2 h.1
  have h2:=(rn_dep h.2.2.2).2.2 h.2.1
  refine ⟨?_,?_,fun z=>?_⟩
  ·show max (rn a) (rn b)≤1 + max (dep a) (dep b)
   omega
  ·show 1 + max (dep a) (dep b)≤max (rn a) (rn b) + 1
   omega
  ·exact absurd z (by show ¬ decide (("atmost" : Str) ∈ termWs)=true; decide +kernel)
 | .neg a,h=>by
  have h1:=rn_dep h.2
  refine ⟨?_,?_,fun z=>?_⟩
  ·show 1 + rn a≤1 + dep a
   omega
  ·show 1 + dep a≤1 + rn a + 1
   omega
  ·exact absurd z (by show ¬ decide (("not" : Str) ∈ termWs)=true; decide +kernel)
 | .bin w a b,h=>by
  have h1:=rn_dep h.2.2.2.1
  have h2:=rn_dep h.2.2.2.2
  refine ⟨?_,?_,fun z=>?_⟩
  ·show 1 + max (rn a) (rn b)≤1 + max (dep a) (dep b)
   omega
  ·show 1 + max (dep a) (dep b)≤1 + max (rn a) (rn b) + 1
   omega
  ·exact absurd z (by show ¬ decide (w ∈ termWs)=true; rcases h.1 with rfl | rfl <;> decide +kernel)
 | .plus a b,h=>by
  have h1:=(rn_dep h.2.2.1).2.2 h.1
  have h2:=(rn_dep h.2.2.2).2.2 h.2.1
  have e:1 + max (dep a) (dep b)=1 + max (rn a) (rn b):=by omega
  exact ⟨Nat.le_of_eq e.symm,Nat.le_succ_of_le (Nat.le_of_eq e),fun _=>e⟩
 | .two w a b,h=>by
  have h1:=(rn_dep h.2.2.2.1).2.2 h.2.1
  have h2:=(rn_dep h.2.2.2.2).2.2 h.2.2.1
  have e:1 + max (dep a) (dep b)=1 + max (rn a) (rn b):=by omega
  exact ⟨Nat.le_of_eq e.symm,Nat.le_succ_of_le (Nat.le_of_eq e),fun _=>e⟩
 | .ov w v s a,h=>by
  have h1:=rn_dep h.2.2.2.2
  refine ⟨?_,?_,fun z=>?_⟩
  ·show 1 + rn a≤1 + dep a
   omega
  ·show 1 + dep a≤1 + rn a + 1
   omega
  ·exact absurd z (by show ¬ decide (w ∈ termWs)=true; rcases h.1 with rfl | rfl <;> decide +kernel)
 | .tim n a,h=>by
  have h1:=(rn_dep h.2.2.2).2.2 h.2.2.1
  have e:1 + dep a=1 + rn a:=by omega
  exact ⟨Nat.le_of_eq e.symm,Nat.le_succ_of_le (Nat.le_of_eq e),fun _=>e⟩
theorem asked_of {c:Cl} {b:Bool} (w:wf c) (i:isT c=!b) (l:(tx c).length≤8000):Asked c b :=
 ⟨w,i,(rn_dep w).1,(rn_dep w).2.1,l,fun z hz=>Nat.lt_trans (asc_tx w z hz) (by decide)⟩
def wtD:PyData→Nat
 | .list ds=>ds.length + 1
 | .tuple ds=>(ds.map wtD).sum
 | _=>0
theorem cnt_wt:∀ {n:Nat} {Z:Addr→Prop} {H:Hp} {v:V} {d:PyData},PDF Z H n v d→cntL d≤wtD d
 | 0,Z,H,v,d,h=>by
  cases v <;> first | exact h.elim | skip
  all_goals first | (cases (show d=_ from h); simp [cntL,wtD]; done) | (cases h.2; simp [cntL,wtD]; done)
 | n + 1,Z,H,v,d,h=>by
  have all:∀ {xs:List V} {ds:List PyData},Paired (PDF Z H n) xs ds→(ds.map cntL).sum≤(ds.map wtD).sum:=fun {xs ds} p=>by
   induction p with
   | nil=>exact Nat.le_refl _
   | cons a _ ih =>
    rw [List.map_cons,List.map_cons,List.sum_cons,List.sum_cons]
    have:=cnt_wt a
    omega
  cases v <;> first | exact h.elim | skip
  case ref a =>
   rcases h with ⟨xs,ds,_,_,rfl,p⟩ | ⟨xs,ds,_,rfl,p⟩
   ·simp [cntL,wtD]
   ·simp only [cntL,wtD]; exact all p
  all_goals first | (cases (show d=_ from h); simp [cntL,wtD]; done) | (cases h.2; simp [cntL,wtD]; done)
theorem sum_mem {α:Type} {f:α→Nat} {a:α}:∀ {l:List α},a ∈ l→f a≤(l.map f).sum
 | b :: l,h=>by
  rw [List.map_cons,List.sum_cons]
  rcases List.mem_cons.mp h with rfl | h
  ·omega
  ·have:=sum_mem (f:=f) h
   omega
theorem pair_memP {α β:Type} {F G:α→β→Prop}:∀ {xs:List α} {ys:List β},Paired F xs ys→(∀ a b,b ∈ ys→F a b→G a b)→Paired G xs ys
 | _,_,.nil,_=>.nil
 | _,_,.cons a p,f=>.cons (f _ _ List.mem_cons_self a) (pair_memP p fun a b hb=>f a b (List.mem_cons_of_mem _ hb))
theorem tr_of {Z:Addr→Prop} {H:Hp} {B:Nat}:∀ {n:Nat} {v:V} {d:PyData},PDF Z H n v d→wtD d≤B→TrS Z B H n v d
 | 0,v,d,h,_=>by cases v <;> first | exact h.elim | exact h | exact h.2
 | n + 1,v,d,h,hb=>by
  cases v <;> first | exact h.elim | exact h | exact h.2 | skip
  rcases h with ⟨xs,ds,e,z,rfl,p⟩ | ⟨xs,ds,e,rfl,p⟩
  ·refine .inl ⟨xs,ds,e,z,?_,rfl⟩
   rw [Paired.length p]
   simp only [wtD] at hb
   omega
  ·refine .inr ⟨xs,ds,e,rfl,pair_memP p fun a b hm h=>tr_of h ?_⟩
   simp only [wtD] at hb
   exact Nat.le_trans (sum_mem hm) hb
theorem wt_strs (ns:List Str):((ns.map PyData.str).map wtD).sum=0:=by
 induction ns with
 | nil=>rfl
 | cons a l ih=>rw [List.map_cons,List.map_cons,List.sum_cons,ih]; simp only [wtD]
theorem wt_tup (x:Str) (ds:List PyData):wtD (.tuple (.str x :: ds))=(ds.map wtD).sum:=by
 simp only [wtD,List.map_cons,List.sum_cons,Nat.zero_add]
theorem wt_datK:∀ {s:Ks},wfK s→wtD (datK s)≤(txK s).length
 | .all,_=>by
  rw [show datK .all=.tuple (.str "all" :: []) from rfl,wt_tup]
  exact Nat.zero_le _
 | .of w n,_=>by
  rw [show datK (.of w n)=.tuple (.str w :: [n].map .str) from rfl,wt_tup,wt_strs]
  exact Nat.zero_le _
 | .these ns,h=>by
  rw [show datK (.these ns)=.tuple (.str "these" :: [.list (ns.map .str)]) from rfl,wt_tup]
  show ([wtD (.list (ns.map .str))]).sum≤((("{" : Str)++Str.join ", " ns)++("}" : Str)).length
  rw [List.sum_singleton,str_len_app,str_len_app,show ("{" : Str).length=1 from by decide +kernel,show ("}" : Str).length=1 from by decide +kernel]
  simp only [wtD,List.length_map]
  cases ns with
  | nil=>exact Nat.le_trans (by decide) (Nat.le_add_left _ _)
  | cons x r =>
   have e:=join_len ", " (x :: r) (List.cons_ne_nil _ _)
   rw [show (", " : Str).length=2 from by decide +kernel] at e
   rw [List.length_cons] at e ⊢
   omega
theorem wt_dat:∀ {c:Cl},wf c→wtD (dat c)≤(tx c).length
 | .nm w ns,_=>by
  rw [show dat (.nm w ns)=.tuple (.str w :: ns.map .str) from rfl,wt_tup,wt_strs]
  exact Nat.zero_le _
 | .cost a b n,_=>by
  rw [show dat (.cost a b n)=.tuple (.str "cost" :: [.str a,.str b,.int n]) from rfl,wt_tup]
  simp [wtD]
 | .num n,_=>by
  rw [show dat (.num n)=.tuple (.str "number" :: [.int n]) from rfl,wt_tup]
  simp [wtD]
 | .size s,h=>by
  have:=wt_datK (s:=s) h
  rw [show dat (.size s)=.tuple (.str "size" :: [datK s]) from rfl,wt_tup,← x_size,str_len_app]
  simp only [List.map_cons,List.map_nil,List.sum_cons,List.sum_nil]
  omega
 | .pairs s t,h=>by
  have:=wt_datK (s:=s) h.1
  have:=wt_datK (s:=t) h.2
  rw [show dat (.pairs s t)=.tuple (.str "pairs" :: [datK s,datK t]) from rfl,wt_tup,← x_pairs,str_len_app,str_len_app,str_len_app]
  simp only [List.map_cons,List.map_nil,List.sum_cons,List.sum_nil]
  omega
 | .atm a b,h=>by
  have:=wt_dat h.2.2.1
  have:=wt_dat h.2.2.2
  rw [show dat (.atm a b)=.tuple (.str "atmost" :: [dat a,dat b]) from rfl,wt_tup,show tx (.atm a b)=(tx a++(" <= " : Str))++tx b from rfl,str_len_app,str_len_app]
  simp only [List.map_cons,List.map_nil,List.sum_cons,List.sum_nil]
  omega
 | .neg a,h=>by
  have:=wt_dat h.2
  rw [show dat (.neg a)=.tuple (.str "not" :: [dat a]) from rfl,wt_tup,show tx (.neg a)=("not " : Str)++tx a from rfl,str_len_app]
  simp only [List.map_cons,List.map_nil,List.sum_cons,List.sum_nil]
  omega
 | .bin w a b,h=>by
  have:=wt_dat h.2.2.2.1
  have:=wt_dat h.2.2.2.2
  rw [show dat (.bin w a b)=.tuple (.str w :: [dat a,dat b]) from rfl,wt_tup,show tx (.bin w a b)=("(" : Str)++(tx a++((" " : Str)++(w++((" " : Str)++(tx b++((")" : Str)++Str.empty)))))) from rfl]
  simp only [str_len_app,List.map_cons,List.map_nil,List.sum_cons,List.sum_nil]
  omega
 | .plus a b,h=>by
  have:=wt_dat h.2.2.1
  have:=wt_dat h.2.2.2
  rw [show dat (.plus a b)=.tuple (.str "plus" :: [dat a,dat b]) from rfl,wt_tup,show tx (.plus a b)=("(" : Str)++(tx a++((" + " : Str)++(tx b++((")" : Str)++Str.empty)))) from rfl]
  simp only [str_len_app,List.map_cons,List.map_nil,List.sum_cons,List.sum_nil]
  omega
 | .two w a b,h=>by
  have:=wt_dat h.2.2.2.1
  have:=wt_dat h.2.2.2.2
  rw [show dat (.two w a b)=.tuple (.str w :: [dat a,dat b]) from rfl,wt_tup,show tx (.two w a b)=w++(("(" : Str)++(tx a++((", " : Str)++(tx b++((")" : Str)++Str.empty))))) from rfl]
  simp only [str_len_app,List.map_cons,List.map_nil,List.sum_cons,List.sum_nil]
  omega
 | .ov w v s a,h=>by
  have:=wt_datK h.2.2.1
  have:=wt_dat h.2.2.2.2
  rw [show dat (.ov w v s a)=.tuple (.str w :: [.str v,datK s,dat a]) from rfl,wt_tup,show tx (.ov w v s a)=w++((" " : Str)++(v++((" in " : Str)++(txK s++((": " : Str)++(tx a++Str.empty)))))) from rfl]
  simp only [str_len_app,List.map_cons,List.map_nil,List.sum_cons,List.sum_nil,wtD]
  omega
 | .tim n a,h=>by
  have:=wt_dat h.2.2.2
  rw [show dat (.tim n a)=.tuple (.str "times" :: [.int n,dat a]) from rfl,wt_tup,show tx (.tim n a)=(numT n++(" * " : Str))++tx a from rfl]
  simp only [str_len_app,List.map_cons,List.map_nil,List.sum_cons,List.sum_nil,wtD]
  omega
theorem PD.monoK {H:Hp} {k m:Nat} {v:V} {d:PyData} (h:k≤m) (p:PD H k v d):PD H m v d:=by
 have:=PD.mono p (m - k)
 rw [show k + (m - k)=m from by omega] at this
 exact this
theorem PD.mono14 {H:Hp} {v:V} {d:PyData} (p:PD H 14 v d):PD H 60 v d:=PD.monoK (by decide) p
theorem k_s_s8 (K:PySem.W.Frag):PySem.W.kitOne K (.type "str") (.type "str")=some true:=by first | rfl | kernel_rfl
def spTrip:Sp:=fun vs H Q _=>∃ (v:V) (k:Nat) (c:Cl) (b:Bool),vs=[v,.bl b]∧k≤60∧PD H k v (dat c)∧wf c∧isT c=!b∧dep c≤12∧(tx c).length≤8000∧∀ H',Same H H'→Q (.bl true) H'
section
variable {P:Program} {w:World} {K:PySem.W.Frag} {mg:Str→Option Value} {base:Heap} {n:Nat}
theorem sc_trip:FnScope ["_law_thing","_law_claim_due","_law_due","_law_text_here","_law_found"] ["_law_thing","_law_claim_due"] (defScope s_l_round_trip):=⟨rfl,rfl,rfl,by decide +kernel,rfl,by decide +kernel,by decide +kernel⟩
theorem ok_trip {f:Addr} {fd:FuncData} (F:Fun K "_law_round_trip" "_law_round_trip" s_l_round_trip f fd) (T:Txt K mg) (ctx:Can P w K mg base 14 "_law_text" ["_law_thing"] (spTxL 12)) (cto:Can P w K mg base 54 "_law_told" ["_law_thing","_law_claim_due"] spTold)
  (crf:Can P w K mg base 71 "_law_refused" ["_law_text_here","_law_claim_due"] spRfd) (crd:Can P w K mg base 71 "_law_read" ["_law_text_here","_law_claim_due"] spReadL) (csp:Can P w K mg base 15 "_law_spoil" ["_law_thing"] (spSpl 14)):FnOk P w K mg base CX0 72 f fd ["_law_thing","_law_claim_due"] spTrip:=by
 refine F.ok sc_trip (fun vs H Q E h=>?_) (fun cdv A outer s H vs Q E hr h=>?_)
 ·obtain ⟨v,k,c,b,rfl,_⟩:=h
  rfl
 ·obtain ⟨v,k,c,b,rfl,hk,pd,wc,ht,h12,hl,q⟩:=h
  have hu:=hr.units
  have r14:Room 14 _:=hr.mono (by decide)
  have r15:Room 15 _:=hr.mono (by decide)
  have r54:Room 54 _:=hr.mono (by decide)
  refine ⟨_,(pss_cons (ps_set (i:=2) sc_trip.nd rfl (Or.inl rfl) (pe_callC ctx r14 (by rfl) (pa_cons (pv 0) pa_nil)))
   (pss_cons (ps_set (i:=3) sc_trip.nd rfl (Or.inl rfl) (pe_callC cto r54 (by rfl) (pa_cons (pv 0) (pa_cons (pv 1) pa_nil))))
   (pss_cutE (ps_if (PW.pt (pw_or (pt_not (pt_val (pe_callB call_isinst (by rfl) T.isi b_isi (pa_cons (pv 3) (pa_cons (pe_ty T.str (by rfl) b_str) pa_nil))))) (pw_or (pt_cmpR op_ne (pv 3) (pv 2) (nomark _)) (pw_or1 (pt_not (pt_val (pe_callC crf hr (by rfl) (pa_cons (pv 3) (pa_cons (pe_not (pv 1)) pa_nil))))))))) (pss_one (ps_ret pe_bl)) pss_nil)
   (pss_cons (ps_set (i:=4) sc_trip.nd rfl (Or.inl rfl) (pe_callC crd hr (by rfl) (pa_cons (pv 3) (pa_cons (pv 1) pa_nil))))
   (pss_cutE (ps_if (PW.pt (pw_or (pt_not (pt_val (pe_callB call_isinst (by rfl) T.isi b_isi (pa_cons (pv 4) (pa_cons (pe_ty T.tuple (by rfl) b_tuple) pa_nil))))) (pw_or (pt_cmpR (op_neD hu) (pv 4) (pv 0) (nomark _)) (pw_or1 (pt_cmpR op_ne (pe_callC ctx r14 (by rfl) (pa_cons (pv 4) pa_nil)) (pv 2) (nomark _)))))) (pss_one (ps_ret pe_bl)) pss_nil)
   (pss_cons (ps_expr (pe_callC csp r15 (by rfl) (pa_cons (pv 4) pa_nil)))
   (pss_one (ps_ret (pe_and (pe_cmpR (op_eqD hu) (pe_callC crd hr (by rfl) (pa_cons (pv 3) (pa_cons (pv 1) pa_nil))) (pv 0) (nomark _)) (pe_one (pe_cmpR op_eq (pe_callC ctx r14 (by rfl) (pa_cons (pv 0) pa_nil)) (pv 2) (nomark _)))))))))))),?_⟩
  have g:=asked_of wc ht hl
  refine ⟨_,rfl,v,k,c,rfl,pd,wc,h12,hl,fun H1 s1=>?_⟩
  refine ⟨_,rfl,_,rfl,v,k,c,b,rfl,pd.same s1,wc,ht,by omega,hl,fun H2 s2'=>?_⟩
  have s2:=s1.trans s2'
  clear s2'
  refine ⟨fun σ' H'=>Same H H'∧σ'=[some v,some (.bl b),some (.str (tx c)),some (.str (tx c)),none],?_,?_⟩
  ·refine ⟨_,rfl,_,"str",_,true,rfl,.str _,k_s_s8 K,_,rfl,iteF ⟨_,rfl,_,rfl,rfl,_,rfl,iteFb (by simp) ?_⟩⟩
   refine ⟨_,rfl,_,rfl,_,rfl,tx c,!b,rfl,g.ok,fun c' l' e=>mis_read g h12 c' l' e,fun H3 s3=>⟨_,rfl,iteF ⟨s2.trans s3,rfl⟩⟩⟩
  ·rintro σ2 H3 ⟨s3,rfl⟩
   refine ⟨_,rfl,_,rfl,c,b,rfl,g,h12,fun v4 H4 s4 rel4=>?_⟩
   have s34:=s3.trans s4
   have rel14:PDF (fun p=>H3 p=none) H4 14 v4 (dat c):=by
    have:=PDF.mono rel4 (14 - (dep c + 2))
    rw [show dep c + 2 + (14 - (dep c + 2))=14 from by omega] at this
    exact this
   refine ⟨fun σ' H'=>Same H4 H'∧σ'=[some v,some (.bl b),some (.str (tx c)),some (.str (tx c)),some v4],?_,?_⟩
   ·obtain ⟨a4,xs4,e4,h4⟩:∃ a xs,v4=.ref a∧H4 a=some (.tup xs):=by
     have p4:=rel14.pd
     rw [dat_pts] at p4
     obtain ⟨m,a,xs,_,e,ha,_⟩:=p4.tup_of
     exact ⟨a,xs,e,ha⟩
    refine ⟨_,rfl,_,"tuple",_,true,rfl,?_,k_t_tt K,_,rfl,iteF ⟨_,rfl,_,rfl,60,dat c,dat c,by decide,PD.rd (PD.mono14 rel14.pd),PD.rd (PD.monoK hk (pd.same s34)),_,rfl,iteFb ?_ ?_⟩⟩
    ·rw [e4]
     exact .tup h4
    ·rw [if_pos rfl,pd_refl pd]
     rfl
    ·refine ⟨_,rfl,v4,14,c,rfl,rel14.pd,wc,h12,hl,fun H5 s5=>⟨_,rfl,rfl,_,rfl,iteFb (by simp) ⟨s5,rfl⟩⟩⟩
   ·rintro σ5 H5 ⟨s5,rfl⟩
    have tr:=tr_of (B:=8000) (rel14.same s5) (Nat.le_trans (wt_dat wc) hl)
    have hc:=Nat.le_trans (cnt_wt rel14) (Nat.le_trans (wt_dat wc) hl)
    obtain ⟨ds,hds⟩:∃ ds,dat c=.tuple ds:=⟨_,dat_pts c⟩
    rw [hds] at tr hc
    refine ⟨_,rfl,v4,ds,_,8000,rfl,tr,by omega,fun H6 sp=>?_⟩
    have s6:Same H H6:=fun p o e=>by
     have e5:=(s34.trans s5) p o e
     by_cases hz:∃ xs,o=.lst xs
     ·obtain ⟨xs,rfl⟩:=hz
      exact sp.old p xs e5 fun z=>by
       have:=s3 p _ e
       rw [z] at this
       cases this
     ·exact sp.oth p o e5 fun xs z=>hz ⟨xs,z⟩
    refine ⟨_,rfl,_,rfl,c,b,rfl,g,h12,fun v7 H7 s7 rel7=>?_⟩
    have s67:=s6.trans s7
    have rel8:PDF (fun p=>H6 p=none) H7 60 v7 (dat c):=by
     have:=PDF.mono rel7 (60 - (dep c + 2))
     rw [show dep c + 2 + (60 - (dep c + 2))=60 from by omega] at this
     exact this
    refine ⟨_,rfl,60,dat c,dat c,by decide,PD.rd rel8.pd,PD.rd (PD.monoK hk (pd.same s67)),_,rfl,iteTb ?_ ?_⟩
    ·rw [if_neg Bool.false_ne_true,pd_refl pd]
    ·refine ⟨_,rfl,v,k,c,rfl,pd.same s67,wc,h12,hl,fun H8 s8=>⟨_,rfl,rfl,?_⟩⟩
     have:=q H8 (s67.trans s8)
     rw [← deq (x:=tx c) rfl] at this
     exact this
end
end Net
namespace L2
open PySem PySem.Spec PyProof.Rows
theorem pa_t8 {X:Cx} {xs:List Expr} {k:Nat} {pos:Pos} {es:List Expr} {te:TE} {t:TA} (ha:PE X (.Tuple xs k pos) te) (hr:PA X es t):PA X (.Tuple xs k pos :: es) (tCons te t):=pa_cons ha hr
theorem pa_l8 {X:Cx} {xs:List Expr} {pos:Pos} {es:List Expr} {te:TE} {t:TA} (ha:PE X (.List xs pos) te) (hr:PA X es t):PA X (.List xs pos :: es) (tCons te t):=pa_cons ha hr
end L2
namespace Net
open PySem L2 L2.Tx
def spLaw (K:PySem.W.Frag):Sp:=fun vs H Q _=>∃ (a:Addr) (ns:List Int),vs=[.ref a]∧SqL K H a (ns.map V.int)∧ns.length≤63∧∀ H',Q (.bl true) H'
theorem cut_len8 (xs:List V) {a b:Nat} (h:a≤b):(cutV xs (some (a:Int)) (some (b:Int))).length≤b - a:=by
 unfold cutV
 rw [HT.sIx_nat,HT.sIx_nat,List.length_take]
 omega
theorem cut_ints8 {ns:List Int} {a b:Option Int}:∀ v ∈ cutV (ns.map V.int) a b,∃ i,v=V.int i:=fun v hv=>by
 unfold cutV at hv
 have:=List.mem_of_mem_drop (List.mem_of_mem_take hv)
 obtain ⟨i,_,rfl⟩:=List.mem_map.mp this
 exact ⟨i,rfl⟩
theorem ints_map:∀ {l:List V},(∀ v ∈ l,∃ i,v=V.int i)→∃ ns:List Int,l=ns.map V.int
 | [],_=>⟨[],rfl⟩
 | v :: l,h=>by
  obtain ⟨i,rfl⟩:=h v List.mem_cons_self
  obtain ⟨ns,rfl⟩:=ints_map fun v hv=>h v (List.mem_cons_of_mem _ hv)
  exact ⟨i :: ns,rfl⟩
abbrev cEach:Cl:=.ov "each" "X" (.these []) (.nm "way" ["X","from"])
abbrev cRing8:Cl:=.nm "ring" []
abbrev cNum8:Cl:=.num 0
abbrev cPairs8:Cl:=.pairs (.of "from" "from") (.of "to" "to")
theorem wf_each:wf cEach:=⟨Or.inl rfl,by decide +kernel,(fun _ z=>nomatch z),by show decide (("way" : Str) ∈ termWs)=false; decide +kernel,by decide +kernel,by decide +kernel⟩
theorem wf_ring8:wf cRing8:=⟨by decide +kernel,fun _ z=>nomatch z⟩
theorem wf_num8:wf cNum8:=by unfold cNum8 wf wfN; decide +kernel
theorem wf_pairs8:wf cPairs8:=⟨⟨Or.inl rfl,by decide +kernel⟩,Or.inr rfl,by decide +kernel⟩
def Trp (t:Bool) (H:Hp) (v:V):Prop:=∃ c k,k≤60∧PD H k v (dat c)∧wf c∧isT c=t∧dep c≤12∧(tx c).length≤8000
theorem Trp.same {t:Bool} {H H':Hp} {v:V} (s:Same H H') (h:Trp t H v):Trp t H' v:=by
 obtain ⟨c,k,a,b,d⟩:=h
 exact ⟨c,k,a,b.same s,d⟩
theorem gw_trp {t:Bool} {H:Hp} {xs:List V} {cs:List Cl} (p:Paired (Gw t H) xs cs):∀ v ∈ xs,Trp t H v:=fun v hv=>by
 induction p with
 | nil=>cases hv
 | cons a _ ih =>
  rcases List.mem_cons.mp hv with rfl | h
  ·exact ⟨_,60,Nat.le_refl _,a.pd,a.wf,a.ist,a.dp,a.ln⟩
  ·exact ih h
section
variable {P:Program} {w:World} {K:PySem.W.Frag} {mg:Str→Option Value} {base:Heap} {n:Nat}
abbrev NL81:List Str:=["_law_script","_law_words_here","_law_claims","_law_terms","_law_thing"]
theorem sc_law81:FnScope NL81 ["_law_script"] (defScope s_law):=⟨rfl,rfl,rfl,by decide +kernel,rfl,by decide +kernel,by decide +kernel⟩
theorem ok_law81 {f:Addr} {fd:FuncData} (F:Fun K "law" "law" s_law f fd) (cw:Can P w K mg base 2 "_law_words" ["_law_cell","_law_many","_law_k"] spWords) (ce:Can P w K mg base 1 "_law_cell_at" ["_law_script","_law_k"] (spCell K)) (cg:Can P w K mg base 36 "_law_grown" ["_law_cells","_law_words_here"] spGrown)
  (ct:Can P w K mg base 72 "_law_round_trip" ["_law_thing","_law_claim_due"] spTrip):FnOk P w K mg base CX0 73 f fd ["_law_script"] (spLaw K):=by
 refine F.ok sc_law81 (fun vs H Q E h=>?_) (fun cdv A outer s H vs Q E hr h=>?_)
 ·obtain ⟨a,ns,rfl,_⟩:=h
  rfl
 ·obtain ⟨a,ns,rfl,hS,hlen,q⟩:=h
  have r1:Room 1 _:=hr.mono (by decide)
  have r2:Room 2 _:=hr.mono (by decide)
  have r36:Room 36 _:=hr.mono (by decide)
  refine ⟨_,(pss_cons (ps_set (i:=1) sc_law81.nd rfl (Or.inl rfl) (pe_callC cw r2 (by rfl) (pa_cons (pe_callC ce r1 (by rfl) (pa_cons (pv 0) (pa_cons pe_int pa_nil))) (pa_cons pe_int (pa_cons pe_int pa_nil)))))
   (pss_cutE (ps_asg (pe_callC cg r36 (by rfl) (pa_cons (pe_slice sl_list (pv 0) (po_some pe_int) (po_some pe_int)) (pa_cons (pv 1) pa_nil))) (pg_lst rfl (pgs_cons (pg_name (i:=2) sc_law81.nd rfl (Or.inl rfl)) (pgs_cons (pg_name (i:=3) sc_law81.nd rfl (Or.inl rfl)) pgs_nil))))
   (@pss_cutE _ _ _ _ _ (@ps_for _ _ _ _ _ _ _ _ PassesOwn.never rfl (@pi_list _ _ _ _ (@pe_op _ _ _ _ _ _ _ _ op_cat (pv 2) (@pe_lst _ _ _ _ (@pa_t8 _ _ _ _ _ _ _ (@pe_tup _ _ _ _ _ (@pa_k8 _ _ _ _ _ _ _ pe_str pa_nil)) (@pa_t8 _ _ _ _ _ _ _ (@pe_tup _ _ _ _ _ (@pa_k8 _ _ _ _ _ _ _ pe_str (@pa_k8 _ _ _ _ _ _ _ pe_str (@pa_t8 _ _ _ _ _ _ _ (@pe_tup _ _ _ _ _ (@pa_k8 _ _ _ _ _ _ _ pe_str (@pa_l8 _ _ _ _ _ _ (@pe_lst _ _ _ _ pa_nil) pa_nil))) (@pa_t8 _ _ _ _ _ _ _ (@pe_tup _ _ _ _ _ (@pa_k8 _ _ _ _ _ _ _ pe_str (@pa_k8 _ _ _ _ _ _ _ pe_str (@pa_k8 _ _ _ _ _ _ _ pe_str pa_nil)))) pa_nil))))) pa_nil))))) (pg_name (i:=4) sc_law81.nd rfl (Or.inl rfl))
     (pss_one (ps_if (pt_not (pt_val (pe_callC ct hr (by rfl) (pa_cons (pv 4) (pa_cons pe_bl pa_nil))))) (pss_one (ps_ret pe_bl)) pss_nil)) (fun _=>rfl))
   (@pss_cutE _ _ _ _ _ (@ps_for _ _ _ _ _ _ _ _ PassesOwn.never rfl (@pi_list _ _ _ _ (@pe_op _ _ _ _ _ _ _ _ op_cat (pv 3) (@pe_lst _ _ _ _ (@pa_t8 _ _ _ _ _ _ _ (@pe_tup _ _ _ _ _ (@pa_k8 _ _ _ _ _ _ _ pe_str (@pa_k8 _ _ _ _ _ _ _ pe_int pa_nil))) (@pa_t8 _ _ _ _ _ _ _ (@pe_tup _ _ _ _ _ (@pa_k8 _ _ _ _ _ _ _ pe_str (@pa_t8 _ _ _ _ _ _ _ (@pe_tup _ _ _ _ _ (@pa_k8 _ _ _ _ _ _ _ pe_str (@pa_k8 _ _ _ _ _ _ _ pe_str pa_nil))) (@pa_t8 _ _ _ _ _ _ _ (@pe_tup _ _ _ _ _ (@pa_k8 _ _ _ _ _ _ _ pe_str (@pa_k8 _ _ _ _ _ _ _ pe_str pa_nil))) pa_nil)))) pa_nil))))) (pg_name (i:=4) sc_law81.nd rfl (Or.inl rfl))
     (pss_one (ps_if (pt_not (pt_val (pe_callC ct hr (by rfl) (pa_cons (pv 4) (pa_cons pe_bl pa_nil))))) (pss_one (ps_ret pe_bl)) pss_nil)) (fun _=>rfl))
   (pss_one (ps_ret pe_bl)))))),?_⟩
  refine ⟨_,rfl,a,ns,0,rfl,hS,by decide,fun c0=>?_⟩
  refine ⟨c0,4,0,rfl,by decide,by decide,by decide,by decide,fun lw ws hlw wl wok _=>?_⟩
  have s1:Same H (upd H lw (.lst (ws.map V.str))):=Same.new hlw
  have e1:(upd H lw (.lst (ws.map V.str))) lw=some (.lst (ws.map V.str)):=upd_same
  generalize upd H lw (.lst (ws.map V.str))=H1 at s1 e1
  have wds:Wds ws:=⟨wl,fun x hx=>(wok x hx).1⟩
  refine ⟨fun σ' H'=>∃ p1 p2 xs ys,H' p1=some (.lst xs)∧H' p2=some (.lst ys)∧(∀ v ∈ xs,Trp false H' v)∧(∀ v ∈ ys,Trp true H' v)∧xs.length≤34∧ys.length≤34∧σ'=[some (.ref a),some (.ref lw),some (.ref p1),some (.ref p2),none],?_,?_⟩
  ·refine ⟨_,rfl,_,rfl,_,rfl,a,_,rfl,s1.seq hS,fun x1 h1=>?_⟩
   have clen:(cutV (ns.map V.int) (some 1) (some 35)).length≤35 - 1:=cut_len8 (ns.map V.int) (a:=1) (b:=35) (by decide)
   have cint:=cut_ints8 (ns:=ns) (a:=some 1) (b:=some 35)
   generalize cutV (ns.map V.int) (some 1) (some 35)=cells at clen cint
   obtain ⟨ms,rfl⟩:=ints_map cint
   rw [List.length_map] at clen
   have s2:Same H1 (upd H1 x1 (.lst (ms.map V.int))):=Same.new h1
   have e2:(upd H1 x1 (.lst (ms.map V.int))) x1=some (.lst (ms.map V.int)):=upd_same
   generalize upd H1 x1 (.lst (ms.map V.int))=H2 at s2 e2
   refine ⟨_,rfl,x1,lw,ms,ws,rfl,e2,clen,s2 _ _ e1,wds,fun r p1 p2 xs ys cs ts H3 s3 er ep1 ep2 pc pt lx ly=>?_⟩
   exact ⟨r,_,rfl,SqL.of er,rfl,_,_,rfl,_,_,rfl,rfl,p1,p2,xs,ys,ep1,ep2,gw_trp pc,gw_trp pt,lx,ly,rfl⟩
  clear s1 e1 H1
  rintro σ1 H1 ⟨p1,p2,xs,ys,ep1,ep2,tx1,ty1,lx,ly,rfl⟩
  refine ⟨fun σ' H'=>Same H1 H'∧∃ o,σ'=[some (.ref a),some (.ref lw),some (.ref p1),some (.ref p2),o],?_,?_⟩
  ·refine ⟨_,rfl,by show 1≤sizeLine; decide,fun t1 h1=>?_⟩
   have a1:Same H1 (upd H1 t1 (.tup [.str "ring"])):=Same.new h1
   have g1:(upd H1 t1 (.tup [.str "ring"])) t1=some (.tup [.str "ring"]):=upd_same
   generalize upd H1 t1 (.tup [.str "ring"])=H2 at a1 g1
   refine ⟨by decide,fun q0 hq0=>?_⟩
   have a2:Same H2 (upd H2 q0 (.lst [])):=Same.new hq0
   have g2:(upd H2 q0 (.lst [])) q0=some (.lst []):=upd_same
   generalize upd H2 q0 (.lst [])=H3 at a2 g2
   refine ⟨by show 2≤sizeLine; decide,fun t2 h2=>?_⟩
   have a3:Same H3 (upd H3 t2 (.tup [.str "these",.ref q0])):=Same.new h2
   have g3:(upd H3 t2 (.tup [.str "these",.ref q0])) t2=some (.tup [.str "these",.ref q0]):=upd_same
   generalize upd H3 t2 (.tup [.str "these",.ref q0])=H4 at a3 g3
   refine ⟨by show 3≤sizeLine; decide,fun t3 h3=>?_⟩
   have a4:Same H4 (upd H4 t3 (.tup [.str "way",.str "X",.str "from"])):=Same.new h3
   have g4:(upd H4 t3 (.tup [.str "way",.str "X",.str "from"])) t3=some (.tup [.str "way",.str "X",.str "from"]):=upd_same
   generalize upd H4 t3 (.tup [.str "way",.str "X",.str "from"])=H5 at a4 g4
   refine ⟨by show 4≤sizeLine; decide,fun t4 h4=>?_⟩
   have a5:Same H5 (upd H5 t4 (.tup [.str "each",.str "X",.ref t2,.ref t3])):=Same.new h4
   have g5:(upd H5 t4 (.tup [.str "each",.str "X",.ref t2,.ref t3])) t4=some (.tup [.str "each",.str "X",.ref t2,.ref t3]):=upd_same
   generalize upd H5 t4 (.tup [.str "each",.str "X",.ref t2,.ref t3])=H6 at a5 g5
   refine ⟨by show 2≤sizeLine; decide,fun l hl=>?_⟩
   have a6:Same H6 (upd H6 l (.lst [.ref t1,.ref t4])):=Same.new hl
   have g6:(upd H6 l (.lst [.ref t1,.ref t4])) l=some (.lst [.ref t1,.ref t4]):=upd_same
   generalize upd H6 l (.lst [.ref t1,.ref t4])=H7 at a6 g6
   have b47:=a5.trans a6
   have b37:=a4.trans b47
   have b27:=a3.trans b37
   have b17:=a2.trans b27
   have s7:=a1.trans b17
   have tr1:Trp false H7 (.ref t1):=⟨cRing8,3,by decide,PDF.pd (Z:=fun _=>True) (rel_nm (ns:=[]) (b17 _ _ g1) (by decide +kernel) (fun _ z=>nomatch z)),wf_ring8,by show decide (("ring" : Str) ∈ termWs)=false; decide +kernel,by decide,by decide +kernel⟩
   have tr4:Trp false H7 (.ref t4):=⟨cEach,4,by decide,PDF.pd (Z:=fun _=>True) (rel_ov (c:=.nm "way" ["X","from"]) (s:=.these []) (a6 _ _ g5) (by decide +kernel) (by decide +kernel) (pd_tup (n:=1) (b37 _ _ g3) (.cons (pd_str (by decide +kernel)) (.cons (.inl ⟨[],[],b27 _ _ g2,trivial,rfl,.nil⟩) .nil))) (rel_nm (ns:=["X","from"]) (b47 _ _ g4) (by decide +kernel) (by decide +kernel))),wf_each,by show decide (("each" : Str) ∈ termWs)=false; decide +kernel,by decide,by decide +kernel⟩
   refine ⟨p1,l,xs,_,rfl,rfl,s7 _ _ ep1,g6,?_,fun sc hsc=>?_⟩
   ·show xs.length + 2≤sizeLine
    exact Nat.le_trans (show xs.length + 2≤40 by omega) (by decide)
   have hall:∀ v ∈ xs++[.ref t1,.ref t4],Trp false H7 v:=fun v hv=>by
    rcases List.mem_append.mp hv with hv | hv
    ·exact (tx1 v hv).same s7
    ·simp only [List.mem_cons,List.not_mem_nil,or_false] at hv
     rcases hv with rfl | rfl
     ·exact tr1
     ·exact tr4
   generalize xs++[.ref t1,.ref t4]=all at hall hsc
   have a8:Same H7 (upd H7 sc (.lst all)):=Same.new hsc
   have g8:(upd H7 sc (.lst all)) sc=some (.lst all):=upd_same
   generalize upd H7 sc (.lst all)=H8 at a8 g8
   refine ⟨sc,rfl,⟨_,SqL.of g8⟩,for_list (K:=K) (xs:=all) (fun i σ' H'=>Same H8 H'∧∃ o,σ'=[some (.ref a),some (.ref lw),some (.ref p1),some (.ref p2),o]) ⟨Same.refl _,none,rfl⟩ (fun i σ' H' _ h=>SqL.of (h.1 _ _ g8)) (fun i v σ' H' hv h=>?_) (fun σ' H' h=>⟨(s7.trans a8).trans h.1,h.2⟩)⟩
   obtain ⟨s9,o,rfl⟩:=h
   obtain ⟨c,k,hk,pd,wc,ht,hd,hl⟩:=(hall v (List.mem_of_getElem? hv)).same (a8.trans s9)
   exact ⟨_,rfl,v,k,c,true,rfl,hk,pd,wc,ht,hd,hl,fun H10 s10=>⟨_,rfl,iteF ⟨s9.trans s10,_,rfl⟩⟩⟩
  ·rintro σ2 H2' ⟨s12,o,rfl⟩
   have ep2:=s12 _ _ ep2
   have ty2:∀ v ∈ ys,Trp true H2' v:=fun v hv=>(ty1 v hv).same s12
   clear s12 ty1 tx1 ep1
   refine ⟨fun σ' H'=>True,?_,fun σ' H' _=>q H'⟩
   refine ⟨_,rfl,by show 2≤sizeLine; decide,fun t1 h1=>?_⟩
   have a1:Same H2' (upd H2' t1 (.tup [.str "number",.int 0])):=Same.new h1
   have g1:(upd H2' t1 (.tup [.str "number",.int 0])) t1=some (.tup [.str "number",.int 0]):=upd_same
   generalize upd H2' t1 (.tup [.str "number",.int 0])=H2 at a1 g1
   refine ⟨by show 2≤sizeLine; decide,fun t2 h2=>?_⟩
   have a2:Same H2 (upd H2 t2 (.tup [.str "from",.str "from"])):=Same.new h2
   have g2:(upd H2 t2 (.tup [.str "from",.str "from"])) t2=some (.tup [.str "from",.str "from"]):=upd_same
   generalize upd H2 t2 (.tup [.str "from",.str "from"])=H3 at a2 g2
   refine ⟨by show 2≤sizeLine; decide,fun t3 h3=>?_⟩
   have a3:Same H3 (upd H3 t3 (.tup [.str "to",.str "to"])):=Same.new h3
   have g3:(upd H3 t3 (.tup [.str "to",.str "to"])) t3=some (.tup [.str "to",.str "to"]):=upd_same
   generalize upd H3 t3 (.tup [.str "to",.str "to"])=H4 at a3 g3
   refine ⟨by show 3≤sizeLine; decide,fun t4 h4=>?_⟩
   have a4:Same H4 (upd H4 t4 (.tup [.str "pairs",.ref t2,.ref t3])):=Same.new h4
   have g4:(upd H4 t4 (.tup [.str "pairs",.ref t2,.ref t3])) t4=some (.tup [.str "pairs",.ref t2,.ref t3]):=upd_same
   generalize upd H4 t4 (.tup [.str "pairs",.ref t2,.ref t3])=H5 at a4 g4
   refine ⟨by show 2≤sizeLine; decide,fun l hl=>?_⟩
   have a5:Same H5 (upd H5 l (.lst [.ref t1,.ref t4])):=Same.new hl
   have g5:(upd H5 l (.lst [.ref t1,.ref t4])) l=some (.lst [.ref t1,.ref t4]):=upd_same
   generalize upd H5 l (.lst [.ref t1,.ref t4])=H6 at a5 g5
   have b36:=a4.trans a5
   have b26:=a3.trans b36
   have b16:=a2.trans b26
   have s6:=a1.trans b16
   have tr1:Trp true H6 (.ref t1):=⟨cNum8,3,by decide,PDF.pd (Z:=fun _=>True) (pd_tup (n:=2) (b16 _ _ g1) (.cons (pd_str (by decide +kernel)) (.cons pd_int .nil))),wf_num8,by show decide (("number" : Str) ∈ termWs)=true; decide +kernel,by decide,by decide +kernel⟩
   have tr4:Trp true H6 (.ref t4):=⟨cPairs8,3,by decide,PDF.pd (Z:=fun _=>True) (pd_tup (n:=2) (a5 _ _ g4) (.cons (pd_str (by decide +kernel)) (.cons (pd_tup (n:=1) (b26 _ _ g2) (.cons (pd_str (by decide +kernel)) (.cons (pd_str (by decide +kernel)) .nil))) (.cons (pd_tup (n:=1) (b36 _ _ g3) (.cons (pd_str (by decide +kernel)) (.cons (pd_str (by decide +kernel)) .nil))) .nil)))),wf_pairs8,by show decide (("pairs" : Str) ∈ termWs)=true; decide +kernel,by decide,by decide +kernel⟩
   refine ⟨p2,l,ys,_,rfl,rfl,s6 _ _ ep2,g5,?_,fun sc hsc=>?_⟩
   ·show ys.length + 2≤sizeLine
    exact Nat.le_trans (show ys.length + 2≤40 by omega) (by decide)
   have hall:∀ v ∈ ys++[.ref t1,.ref t4],Trp true H6 v:=fun v hv=>by
    rcases List.mem_append.mp hv with hv | hv
    ·exact (ty2 v hv).same s6
    ·simp only [List.mem_cons,List.not_mem_nil,or_false] at hv
     rcases hv with rfl | rfl
     ·exact tr1
     ·exact tr4
   generalize ys++[.ref t1,.ref t4]=all at hall hsc
   have a8:Same H6 (upd H6 sc (.lst all)):=Same.new hsc
   have g8:(upd H6 sc (.lst all)) sc=some (.lst all):=upd_same
   generalize upd H6 sc (.lst all)=H8 at a8 g8
   refine ⟨sc,rfl,⟨_,SqL.of g8⟩,for_list (K:=K) (xs:=all) (fun i σ' H'=>Same H8 H'∧∃ o,σ'=[some (.ref a),some (.ref lw),some (.ref p1),some (.ref p2),o]) ⟨Same.refl _,_,rfl⟩ (fun i σ' H' _ h=>SqL.of (h.1 _ _ g8)) (fun i v σ' H' hv h=>?_) (fun σ' H' h=>trivial)⟩
   obtain ⟨s9,o,rfl⟩:=h
   obtain ⟨c,k,hk,pd,wc,ht,hd,hl⟩:=(hall v (List.mem_of_getElem? hv)).same (a8.trans s9)
   exact ⟨_,rfl,v,k,c,false,rfl,hk,pd,wc,ht,hd,hl,fun H10 s10=>⟨_,rfl,iteF ⟨s9.trans s10,_,rfl⟩⟩⟩
end
end Net
namespace Net
open PySem L2
theorem kib1 (K:PySem.W.Frag):PySem.W.kitOne K (.type "int") (.type "bool")=some false:=by
 first | rfl | kernel_rfl
structure Fn (K:PySem.W.Frag) (mg:Str→Option Value) (x:Str) (st:Stmt):Prop where
 ex:∃ f fd,Fun K x x st f fd∧mg x=some (.ref f)
structure Mt (K:PySem.W.Frag) (C:Addr) (x qual:Str) (st:Stmt):Prop where
 ex:∃ f fd,Fun K x qual st f fd∧Meth K C x f
theorem fn_mk {K:PySem.W.Frag} {h:Heap} {mg:Str→Option Value} {x:Str} {st:Stmt} {f:Addr} {oc:Value} {od an:Option Addr} {osl:Array (Option Value)} {kV doc pm cdv ct:Value} (X:K.In h) (G:h.Ns mainGlobals mg) (a:PySem.W.nsIn K mainGlobals x=some (some (.ref f)))
  (l:K.lookup f=some ⟨oc,od,.func (PySem.W.fnOf x x (defArgs st) (defBody st) (defScope st) .none kV doc pm an cdv ct),osl⟩) (c:PySem.W.codeIn K cdv x=true) (k:PySem.W.keepIn K (.ref f)=true):Fn K mg x st :=
 ⟨f,_,fun_mk l c k,PySem.W.mg_of X G a⟩
theorem mt_mk {K:PySem.W.Frag} {C:Addr} {x qual:Str} {st:Stmt} {f:Addr} {oc:Value} {od an:Option Addr} {osl:Array (Option Value)} {kV doc pm cdv ct:Value} (a:PySem.W.findIn K (.ref C) x=some (some (.ref f))) (i:PySem.W.isFn K (.ref f)=true)
  (l:K.lookup f=some ⟨oc,od,.func (PySem.W.fnOf x qual (defArgs st) (defBody st) (defScope st) .none kV doc pm an cdv ct),osl⟩) (c:PySem.W.codeIn K cdv qual=true) (k:PySem.W.keepIn K (.ref f)=true):Mt K C x qual st :=
 ⟨f,_,fun_mk l c k,a,i,k⟩
section
variable {P:Program} {w:World} {K:PySem.W.Frag} {mg:Str→Option Value} {base:Heap} {C:Addr} {k:Nat} {x qual:Str} {st:Stmt} {ps:List Str} {sp:Sp}
theorem Fn.can (F:Fn K mg x st) (ok:∀ f fd,Fun K x x st f fd→FnOk P w K mg base CX0 k f fd ps sp)
  (h:∀ (kV doc pm:Value) (an:Option Addr) (cdv ct:Value) (us:List Value),us.length=ps.length→bindArgs (PySem.W.fnOf x x (defArgs st) (defBody st) (defScope st) .none kV doc pm an cdv ct) ⟨us,[]⟩=pure (ps.zip us)):Can P w K mg base k x ps sp:=by
 obtain ⟨f,fd,G,m⟩:=F.ex
 exact ⟨f,fd,ok f fd G,m,G.kp,G.binds h⟩
theorem Mt.can (F:Mt K C x qual st) (ok:∀ f fd,Fun K x qual st f fd→FnOk P w K mg base CX0 k f fd ps sp)
  (h:∀ (kV doc pm:Value) (an:Option Addr) (cdv ct:Value) (us:List Value),us.length=ps.length→bindArgs (PySem.W.fnOf x qual (defArgs st) (defBody st) (defScope st) .none kV doc pm an cdv ct) ⟨us,[]⟩=pure (ps.zip us)):CanM P w K mg base k C x ps sp:=by
 obtain ⟨f,fd,G,m⟩:=F.ex
 exact ⟨f,fd,ok f fd G,m,G.binds h⟩
theorem Mt.canI (F:Mt K C "__init__" qual st) (mk:PySem.W.makesIn K C=true) (kc:PySem.W.keepIn K (.ref C)=true) (ok:∀ f fd,Fun K "__init__" qual st f fd→FnOk P w K mg base CX0 k f fd ps sp)
  (h:∀ (kV doc pm:Value) (an:Option Addr) (cdv ct:Value) (us:List Value),us.length=ps.length→bindArgs (PySem.W.fnOf "__init__" qual (defArgs st) (defBody st) (defScope st) .none kV doc pm an cdv ct) ⟨us,[]⟩=pure (ps.zip us)):CanI P w K mg base k C ps sp:=by
 obtain ⟨f,fd,G,m⟩:=F.ex
 exact ⟨f,fd,ok f fd G,⟨mk,m.at_,m.fn,kc⟩,G.binds h⟩
end
theorem Fn.canX {P:Program} {w:World} {K:PySem.W.Frag} {mg:Str→Option Value} {base:Heap} {k:Nat} {x:Str} {st:Stmt} {ps:List Str} {sp:Sp} (F:Fn K mg x st) (ok:∀ f fd,Fun K x x st f fd→FnOk P w K mg base (CXF P w) k f fd ps sp)
  (h:∀ (kV doc pm:Value) (an:Option Addr) (cdv ct:Value) (us:List Value),us.length=ps.length→bindArgs (PySem.W.fnOf x x (defArgs st) (defBody st) (defScope st) .none kV doc pm an cdv ct) ⟨us,[]⟩=pure (ps.zip us)):CanX P w K mg base k x ps sp:=by
 obtain ⟨f,fd,G,m⟩:=F.ex
 exact ⟨f,fd,ok f fd G,m,G.kp,G.binds h⟩
theorem Mt.canX {P:Program} {w:World} {K:PySem.W.Frag} {mg:Str→Option Value} {base:Heap} {C:Addr} {k:Nat} {x qual:Str} {st:Stmt} {ps:List Str} {sp:Sp} (F:Mt K C x qual st) (ok:∀ f fd,Fun K x qual st f fd→FnOk P w K mg base (CXF P w) k f fd ps sp)
  (h:∀ (kV doc pm:Value) (an:Option Addr) (cdv ct:Value) (us:List Value),us.length=ps.length→bindArgs (PySem.W.fnOf x qual (defArgs st) (defBody st) (defScope st) .none kV doc pm an cdv ct) ⟨us,[]⟩=pure (ps.zip us)):CanMX P w K mg base k C x ps sp:=by
 obtain ⟨f,fd,G,m⟩:=F.ex
 exact ⟨f,fd,ok f fd G,m,G.binds h⟩
theorem kd_of {P:Program} {w:World} {K:PySem.W.Frag} {a:Addr} {t0 u0 t1 u1 t2 u2 t3 u3 t4 u4 t5 u5 t6 u6:Tok} {ep:Nat} (hs:(a == sysModules)=false)
  (hl:K.lookup a=some { cls:=.type "dict",data:=.dict #[{ hash:=PyData.keyHash w.params (Str.ofString "way"),key:=.str (Str.ofString "way") t0,val:=.int 2 u0 },{ hash:=PyData.keyHash w.params (Str.ofString "ring"),key:=.str (Str.ofString "ring") t1,val:=.int 0 u1 },{ hash:=PyData.keyHash w.params (Str.ofString "round"),key:=.str (Str.ofString "round") t2,val:=.int 0 u2 },{ hash:=PyData.keyHash w.params (Str.ofString "must"),key:=.str (Str.ofString "must") t3,val:=.int 3 u3 },{ hash:=PyData.keyHash w.params (Str.ofString "flow"),key:=.str (Str.ofString "flow") t4,val:=.int 2 u4 },{ hash:=PyData.keyHash w.params (Str.ofString "apart"),key:=.str (Str.ofString "apart") t5,val:=.int 2 u5 },{ hash:=PyData.keyHash w.params (Str.ofString "bare"),key:=.str (Str.ofString "bare") t6,val:=.int 2 u6 }] ep }):KDict P w K a [(Sum.inr (Str.ofString "way"),.int 2 u0),(Sum.inr (Str.ofString "ring"),.int 0 u1),(Sum.inr (Str.ofString "round"),.int 0 u2),(Sum.inr (Str.ofString "must"),.int 3 u3),(Sum.inr (Str.ofString "flow"),.int 2 u4),(Sum.inr (Str.ofString "apart"),.int 2 u5),(Sum.inr (Str.ofString "bare"),.int 2 u6)]:=by
 refine ⟨hs,fun h X=>⟨_,_,_,X _ _ hl,⟨rfl,rfl,rfl⟩,rfl,fun e he=>?_,(.cons (mixKind_str _ _ _ _) rfl (.cons (mixKind_str _ _ _ _) rfl (.cons (mixKind_str _ _ _ _) rfl (.cons (mixKind_str _ _ _ _) rfl (.cons (mixKind_str _ _ _ _) rfl (.cons (mixKind_str _ _ _ _) rfl (.cons (mixKind_str _ _ _ _) rfl .nil))))))),?_⟩⟩
 ·simp only [List.mem_toArray,List.mem_cons,List.not_mem_nil,or_false] at he
  rcases he with rfl | rfl | rfl | rfl | rfl | rfl | rfl
  all_goals exact ⟨Sum.inr _,mixKind_str _ _ _ _,rfl⟩
 ·show ([Sum.inr (Str.ofString "way"),Sum.inr (Str.ofString "ring"),Sum.inr (Str.ofString "round"),Sum.inr (Str.ofString "must"),Sum.inr (Str.ofString "flow"),Sum.inr (Str.ofString "apart"),Sum.inr (Str.ofString "bare")]:List Key).Nodup
  decide +kernel
theorem va_ne {k x:Str} {v:Value} {l:List (Key × Value)} (h:x ≠ k):valueAt ((Sum.inr k,v) :: l) (Sum.inr x:Key)=valueAt l (Sum.inr x):=by
 unfold valueAt
 rw [List.find?_cons_of_neg (by simp only [decide_eq_true_eq]; intro z; injection z with z; exact h z.symm)]
theorem va_eq {k:Str} {v:Value} {l:List (Key × Value)}:valueAt ((Sum.inr k,v) :: l) (Sum.inr k:Key)=some v:=by
 unfold valueAt
 rw [List.find?_cons_of_pos (by simp)]
 rfl
theorem nb_vals {u0 u1 u2 u3 u4 u5 u6:Tok} (x:Str):(∃ n u,nb x=some n∧valueAt ([(Sum.inr (Str.ofString "way"),.int 2 u0),(Sum.inr (Str.ofString "ring"),.int 0 u1),(Sum.inr (Str.ofString "round"),.int 0 u2),(Sum.inr (Str.ofString "must"),.int 3 u3),(Sum.inr (Str.ofString "flow"),.int 2 u4),(Sum.inr (Str.ofString "apart"),.int 2 u5),(Sum.inr (Str.ofString "bare"),.int 2 u6)]:List (Key × Value)) (Sum.inr x)=some (.int (n:Int) u)) ∨ (nb x=none∧valueAt ([(Sum.inr (Str.ofString "way"),.int 2 u0),(Sum.inr (Str.ofString "ring"),.int 0 u1),(Sum.inr (Str.ofString "round"),.int 0 u2),(Sum.inr (Str.ofString "must"),.int 3 u3),(Sum.inr (Str.ofString "flow"),.int 2 u4),(Sum.inr (Str.ofString "apart"),.int 2 u5),(Sum.inr (Str.ofString "bare"),.int 2 u6)]:List (Key × Value)) (Sum.inr x)=none):=by
 by_cases h0:x = "way"
 ·subst h0
  exact .inl ⟨2,u0,by decide +kernel,by rw [va_eq]; rfl⟩
 by_cases h1:x = "ring"
 ·subst h1
  exact .inl ⟨0,u1,by decide +kernel,by rw [va_ne (by decide +kernel),va_eq]; rfl⟩
 by_cases h2:x = "round"
 ·subst h2
  exact .inl ⟨0,u2,by decide +kernel,by rw [va_ne (by decide +kernel),va_ne (by decide +kernel),va_eq]; rfl⟩
 by_cases h3:x = "must"
 ·subst h3
  exact .inl ⟨3,u3,by decide +kernel,by rw [va_ne (by decide +kernel),va_ne (by decide +kernel),va_ne (by decide +kernel),va_eq]; rfl⟩
 by_cases h4:x = "flow"
 ·subst h4
  exact .inl ⟨2,u4,by decide +kernel,by rw [va_ne (by decide +kernel),va_ne (by decide +kernel),va_ne (by decide +kernel),va_ne (by decide +kernel),va_eq]; rfl⟩
 by_cases h5:x = "apart"
 ·subst h5
  exact .inl ⟨2,u5,by decide +kernel,by rw [va_ne (by decide +kernel),va_ne (by decide +kernel),va_ne (by decide +kernel),va_ne (by decide +kernel),va_ne (by decide +kernel),va_eq]; rfl⟩
 by_cases h6:x = "bare"
 ·subst h6
  exact .inl ⟨2,u6,by decide +kernel,by rw [va_ne (by decide +kernel),va_ne (by decide +kernel),va_ne (by decide +kernel),va_ne (by decide +kernel),va_ne (by decide +kernel),va_ne (by decide +kernel),va_eq]; rfl⟩
 refine .inr ⟨?_,?_⟩
 ·unfold nb
  rw [if_neg h0,if_neg h1,if_neg h2,if_neg h3,if_neg h4,if_neg h5,if_neg h6]
 ·rw [va_ne h0,va_ne h1,va_ne h2,va_ne h3,va_ne h4,va_ne h5,va_ne h6]
  rfl
def strsOf:List Value→Option (List Str)
 | []=>some []
 | .str x _ :: r=>(strsOf r).map (x :: ·)
 | _=>none
theorem vals_lit:∀ {l:List Value} {xs:List Str},strsOf l=some xs→Vals (xs.map V.str) l
 | [],xs,h=>by cases h; exact .nil
 | v :: r,xs,h=>by
  cases v with
  | str x t =>
   have h':(strsOf r).map (x :: ·)=some xs:=h
   cases e:strsOf r with
   | none=>rw [e] at h'; cases h'
   | some ys =>
    rw [e] at h'
    cases h'
    exact .cons ⟨t,rfl⟩ (vals_lit e)
  | _=>cases h
theorem tup_at {K:PySem.W.Frag} {a:Addr} {its:Array Value} {n:Nat} {xs:List Str} (hl:K.lookup a=some { cls:=.type "tuple",data:=.seq its n }) (h1:its.size≤sizeLine) (h2:Vals (xs.map V.str) its.toList):∀ H,SqT K H a (xs.map V.str) :=
 fun _=>.inr ⟨_,its,n,hl,rfl,rfl,h1,h2⟩
structure All (P:Program) (w:World) (K:PySem.W.Frag) (mg:Str→Option Value) (C:Addr):Prop where
 T:Txt K mg
 cls:Cls K C
 mgC:mg "WordRow" = some (.ref C)
 nW:NoAttr K C "words"
 nT:NoAttr K C "taken"
 mks:PySem.W.makesIn K C=true
 kc:PySem.W.keepIn K (.ref C)=true
 errs:∃ ct:Addr,Ecs K mg ct∧PySem.W.exmOne K (.ref ct) (.ref ct)=some true
 setW:∃ a,mg "SET_WORDS" = some (.ref a)∧∀ H,SqT K H a (setWs.map V.str)
 termW:∃ a,mg "TERM_WORDS" = some (.ref a)∧∀ H,SqT K H a (termWs.map V.str)
 nbD:∃ a vs,mg "NAMES_BEHIND" = some (.ref a)∧KDict P w K a vs∧∀ x:Str,(∃ n u,nb x=some n∧valueAt vs (Sum.inr x)=some (.int (n:Int) u)) ∨ (nb x=none∧valueAt vs (Sum.inr x)=none)
 made:Fn K mg "is_made_of" s_is_made_of
 name:Fn K mg "is_name" s_is_name
 vari:Fn K mg "is_variable" s_is_variable
 rnum:Fn K mg "read_number" s_read_number
 shC:Fn K mg "show_claim" s_show_claim
 shT:Fn K mg "show_term" s_show_term
 shS:Fn K mg "show_set" s_show_set
 rdC:Fn K mg "read_claim" s_read_claim
 rdT:Fn K mg "read_term" s_read_term
 refu:Fn K mg "refuse_other_text" s_refuse_other_text
 splt:Fn K mg "split_text" s_split_text
 depo:Fn K mg "depth_of" s_depth_of
 init:Mt K C "__init__" "WordRow.__init__" s_WordRow_init
 comi:Mt K C "coming" "WordRow.coming" s_WordRow_coming
 take:Mt K C "take" "WordRow.take" s_WordRow_take
 pass:Mt K C "pass_over" "WordRow.pass_over" s_WordRow_pass_over
 rwc:Fn K mg "read_whole_claim" s_read_whole_claim
 rwt:Fn K mg "read_whole_term" s_read_whole_term
 ister:Fn K mg "is_term" s_is_term
 rwh:Fn K mg "read_whole" s_read_whole
 rfst:Fn K mg "read_first" s_read_first
 rnam:Fn K mg "read_name" s_read_name
 rcos:Fn K mg "read_cost" s_read_cost
 rove:Fn K mg "read_over_places" s_read_over_places
 rtwo:Fn K mg "read_of_two" s_read_of_two
 rbra:Fn K mg "read_bracket" s_read_bracket
 rfrn:Fn K mg "read_from_number" s_read_from_number
 rset:Fn K mg "read_set" s_read_set
 rnms:Fn K mg "read_names" s_read_names
 cell:Fn K mg "_law_cell_at" s_l_cell_at
 mixed:Fn K mg "_law_mixed" s_l_mixed
 words:Fn K mg "_law_words" s_l_words
 point:Fn K mg "_law_point" s_l_point
 setl:Fn K mg "_law_set" s_l_set
 longl:Fn K mg "_law_long" s_l_long
 leaf:Fn K mg "_law_leaf" s_l_leaf
 rcl:Fn K mg "_law_round_claim" s_l_round_claim
 rte:Fn K mg "_law_round_term" s_l_round_term
 ldep:Fn K mg "_law_depth" s_l_depth
 grown:Fn K mg "_law_grown" s_l_grown
 sxt:Fn K mg "_law_set_text" s_l_set_text
 ltx:Fn K mg "_law_text" s_l_text
 rfd:Fn K mg "_law_refused" s_l_refused
 told:Fn K mg "_law_told" s_l_told
 lread:Fn K mg "_law_read" s_l_read
 spoil:Fn K mg "_law_spoil" s_l_spoil
 trip:Fn K mg "_law_round_trip" s_l_round_trip
theorem law_ok {P:Program} {w:World} {K:PySem.W.Frag} {mg:Str→Option Value} {base:Heap} {C f:Addr} {fd:FuncData} (A:All P w K mg C) (F:Fun K "law" "law" s_law f fd):FnOk P w K mg base CX0 73 f fd ["_law_script"] (spLaw K):=by
 have T:=A.T
 obtain ⟨ct,R,xm⟩:=A.errs
 have W:Wrd P w K mg C:=by
  obtain ⟨a,vs,m1,kd,kv⟩:=A.nbD
  refine ⟨A.cls,A.mgC,A.nW,A.nT,A.setW,A.termW,a,vs,m1,kd,fun x=>?_,fun x n hn=>?_⟩
  ·rcases kv x with ⟨n,u,e1,e2⟩ | ⟨e1,e2⟩ <;> rw [e1,e2] <;> rfl
  ·rcases kv x with ⟨n',u,e1,e2⟩ | ⟨e1,e2⟩
   ·rw [e1] at hn
    cases hn
    exact ⟨_,e2,u,rfl⟩
   ·rw [e1] at hn
    cases hn
 have made:Can P w K mg base 1 _ _ _:=A.made.can (fun f fd F=>ok_made F T) fun _ _ _ _ _ _ us hl=>match us,hl with | [_,_],_=>rfl
 have name:Can P w K mg base 2 _ _ _:=A.name.can (fun f fd F=>ok_name F T made) fun _ _ _ _ _ _ us hl=>match us,hl with | [_],_=>rfl
 have vari:Can P w K mg base 2 _ _ _:=A.vari.can (fun f fd F=>ok_var F T made) fun _ _ _ _ _ _ us hl=>match us,hl with | [_],_=>rfl
 have rnum:CanX P w K mg base 2 _ _ _:=A.rnum.canX (fun f fd F=>ok_readNum F T R made) fun _ _ _ _ _ _ us hl=>match us,hl with | [_,_],_=>rfl
 have shS:Can P w K mg base 1 _ _ _:=A.shS.can (fun f fd F=>ok_shS F) fun _ _ _ _ _ _ us hl=>match us,hl with | [_],_=>rfl
 have splt:Can P w K mg base 1 _ _ _:=A.splt.can (fun f fd F=>ok_splitC F T) fun _ _ _ _ _ _ us hl=>match us,hl with | [_],_=>rfl
 have init:CanI P w K mg base 1 C _ _:=A.init.canI A.mks A.kc (fun f fd F=>ok_initR F W) fun _ _ _ _ _ _ us hl=>match us,hl with | [_,_],_=>rfl
 have comi:∀ Z:Addr→Prop,CanM P w K mg base 1 C "coming" ["self"] (spComing C Z):=fun Z=>A.comi.can (fun f fd F=>ok_coming F T W) fun _ _ _ _ _ _ us hl=>match us,hl with | [_],_=>rfl
 have take:∀ Z:Addr→Prop,CanM P w K mg base 2 C "take" ["self"] (spTake C Z):=fun Z=>A.take.can (fun f fd F=>ok_take F W (comi Z)) fun _ _ _ _ _ _ us hl=>match us,hl with | [_],_=>rfl
 have pass:∀ Z:Addr→Prop,CanMX P w K mg base 3 C "pass_over" ["self","word"] (spPass C ct Z):=fun Z=>A.pass.canX (fun f fd F=>ok_pass F W R (take Z)) fun _ _ _ _ _ _ us hl=>match us,hl with | [_,_],_=>rfl
 have ister:Can P w K mg base 1 _ _ _:=A.ister.can (fun f fd F=>ok_isT F W) fun _ _ _ _ _ _ us hl=>match us,hl with | [_],_=>rfl
 have rnam:∀ Z:Addr→Prop,CanX P w K mg base 3 "read_name" ["row"] (spRow C ct Z [] rName RelN):=fun Z=>A.rnam.canX (fun f fd F=>ok_rname F W R (take Z) name vari) fun _ _ _ _ _ _ us hl=>match us,hl with | [_],_=>rfl
 have rnms:∀ Z:Addr→Prop,CanX P w K mg base 4 "read_names" ["row"] (spRow C ct Z [] rNames (RelL Z)):=fun Z=>A.rnms.canX (fun f fd F=>ok_rnames F W (take Z) (comi Z) (pass Z) (rnam Z)) fun _ _ _ _ _ _ us hl=>match us,hl with | [_],_=>rfl
 have rset:∀ Z:Addr→Prop,CanX P w K mg base 5 "read_set" ["row"] (spRow C ct Z [] rSet (RelK Z)):=fun Z=>A.rset.canX (fun f fd F=>ok_rset F W R (take Z) (rnam Z) (rnms Z)) fun _ _ _ _ _ _ us hl=>match us,hl with | [_],_=>rfl
 have rcos:∀ Z:Addr→Prop,CanX P w K mg base 4 "read_cost" ["row"] (spRow C ct Z [] rCost (RelF Z)):=fun Z=>A.rcos.canX (fun f fd F=>ok_rcost F T W (take Z) (pass Z) (rnam Z) rnum) fun _ _ _ _ _ _ us hl=>match us,hl with | [_],_=>rfl
 have fst:∀ (Z:Addr→Prop) (m:Nat),CanX P w K mg base (5 * m + 6) "read_first" ["row","room"] (spFst C ct Z m)∧CanX P w K mg base (5 * m + 7) "read_whole_term" ["row","room"] (spWt C ct Z m)∧CanX P w K mg base (5 * m + 9) "read_whole_claim" ["row","room"] (spWc C ct Z m)∧CanX P w K mg base (5 * m + 8) "read_whole" ["row","room"] (spWh C ct Z m):=fun Z m=>by
  have mk:∀ m:Nat,CanX P w K mg base (5 * m + 6) "read_first" ["row","room"] (spFst C ct Z m)→CanX P w K mg base (5 * m + 6) "read_first" ["row","room"] (spFst C ct Z m)∧CanX P w K mg base (5 * m + 7) "read_whole_term" ["row","room"] (spWt C ct Z m)∧CanX P w K mg base (5 * m + 9) "read_whole_claim" ["row","room"] (spWc C ct Z m)∧CanX P w K mg base (5 * m + 8) "read_whole" ["row","room"] (spWh C ct Z m):=fun m c=>by
   have wt:CanX P w K mg base (5 * m + 7) "read_whole_term" ["row","room"] (spWt C ct Z m):=A.rwt.canX (fun f fd F=>ok_rwt F R (by omega) c ister) fun _ _ _ _ _ _ us hl=>match us,hl with | [_,_],_=>rfl
   have wh:CanX P w K mg base (5 * m + 8) "read_whole" ["row","room"] (spWh C ct Z m):=A.rwh.canX (fun f fd F=>ok_rwh F W (by omega) (c.mono (by omega)) wt ister (comi Z) (take Z)) fun _ _ _ _ _ _ us hl=>match us,hl with | [_,_],_=>rfl
   have wc:CanX P w K mg base (5 * m + 9) "read_whole_claim" ["row","room"] (spWc C ct Z m):=A.rwc.canX (fun f fd F=>ok_rwc F R (by omega) wh ister) fun _ _ _ _ _ _ us hl=>match us,hl with | [_,_],_=>rfl
   exact ⟨c,wt,wc,wh⟩
  induction m with
  | zero=>exact mk 0 (A.rfst.canX (fun f fd F=>ok_rf0 F T R) fun _ _ _ _ _ _ us hl=>match us,hl with | [_,_],_=>rfl)
  | succ m ih =>
   obtain ⟨c,wt,wc,wh⟩:=ih
   have ov:CanX P w K mg base (5 * m + 10) "read_over_places" ["row","room","word"] (spOver C ct Z m):=A.rove.canX (fun f fd F=>ok_rov F W R (by omega) (take Z) vari (pass Z) (rset Z) wc) fun _ _ _ _ _ _ us hl=>match us,hl with | [_,_,_],_=>rfl
   have tw:CanX P w K mg base (5 * m + 10) "read_of_two" ["row","room","word"] (spTwo C ct Z m):=A.rtwo.canX (fun f fd F=>ok_rtwo F W (by omega) (pass Z) (wt.mono (by omega))) fun _ _ _ _ _ _ us hl=>match us,hl with | [_,_,_],_=>rfl
   have br:CanX P w K mg base (5 * m + 10) "read_bracket" ["row","room"] (spBr C ct Z m):=A.rbra.canX (fun f fd F=>ok_rbr F W R (by omega) (take Z) ister (pass Z) (wh.mono (by omega))) fun _ _ _ _ _ _ us hl=>match us,hl with | [_,_],_=>rfl
   have fn:CanX P w K mg base (5 * m + 10) "read_from_number" ["row","room","word"] (spFN C ct Z m):=A.rfrn.canX (fun f fd F=>ok_rfn F T W R (by omega) (take Z) (comi Z) rnum (wt.mono (by omega))) fun _ _ _ _ _ _ us hl=>match us,hl with | [_,_,_],_=>rfl
   exact mk (m + 1) (A.rfst.canX (fun f fd F=>ok_rf F T W R (by omega) (take Z) (rnam Z) (rcos Z) (rset Z) (wc.mono (by omega)) ov tw br fn) fun _ _ _ _ _ _ us hl=>match us,hl with | [_,_],_=>rfl)
 have wt12:=fun Z=>(fst Z 12).2.1
 have wc12:=fun Z=>(fst Z 12).2.2.1
 have shT:∀ n:Nat,Can P w K mg base (n + 2) "show_term" ["term"] (spShT n):=fun n=>by
  induction n with
  | zero=>exact A.shT.can (fun f fd F=>ok_shT0 F) fun _ _ _ _ _ _ us hl=>match us,hl with | [_],_=>rfl
  | succ n ih=>exact A.shT.can (fun f fd F=>ok_shT F T W shS ih) fun _ _ _ _ _ _ us hl=>match us,hl with | [_],_=>rfl
 have shC:∀ n:Nat,Can P w K mg base (n + 28) "show_claim" ["claim"] (spShC n):=fun n=>by
  induction n with
  | zero=>exact A.shC.can (fun f fd F=>ok_shC0 F) fun _ _ _ _ _ _ us hl=>match us,hl with | [_],_=>rfl
  | succ n ih=>exact A.shC.can (fun f fd F=>ok_shC F T W (by omega) shS ((shT n).mono (by omega)) ih) fun _ _ _ _ _ _ us hl=>match us,hl with | [_],_=>rfl
 have dpt:∀ n:Nat,Can P w K mg base (n + 1) "depth_of" ["whole"] (spDep n):=fun n=>by
  induction n with
  | zero=>exact A.depo.can (fun f fd F=>ok_dep0 F) fun _ _ _ _ _ _ us hl=>match us,hl with | [_],_=>rfl
  | succ n ih=>exact A.depo.can (fun f fd F=>ok_dep F T W ih) fun _ _ _ _ _ _ us hl=>match us,hl with | [_],_=>rfl
 have refu:CanX P w K mg base 27 _ _ _:=A.refu.canX (fun f fd F=>ok_refuse F T R (dpt 25)) fun _ _ _ _ _ _ us hl=>match us,hl with | [_,_,_],_=>rfl
 have rdC:CanX P w K mg base 70 _ _ _:=A.rdC.canX (fun f fd F=>ok_readC F T W splt init wc12 (shC 25) refu) fun _ _ _ _ _ _ us hl=>match us,hl with | [_],_=>rfl
 have rdT:CanX P w K mg base 70 _ _ _:=A.rdT.canX (fun f fd F=>ok_readT F T W splt init (fun Z=>(wt12 Z).mono (by decide)) (shT 25) refu) fun _ _ _ _ _ _ us hl=>match us,hl with | [_],_=>rfl
 have cell:Can P w K mg base 1 _ _ _:=A.cell.can (fun f fd F=>ok_cell F T) fun _ _ _ _ _ _ us hl=>match us,hl with | [_,_],_=>rfl
 have mixed:Can P w K mg base 1 _ _ _:=A.mixed.can (fun f fd F=>ok_mixed F T) fun _ _ _ _ _ _ us hl=>match us,hl with | [_,_],_=>rfl
 have words:Can P w K mg base 2 _ _ _:=A.words.can (fun f fd F=>ok_words F T mixed) fun _ _ _ _ _ _ us hl=>match us,hl with | [_,_,_],_=>rfl
 have point:Can P w K mg base 1 _ _ _:=A.point.can (fun f fd F=>ok_point F T) fun _ _ _ _ _ _ us hl=>match us,hl with | [_,_],_=>rfl
 have setl:Can P w K mg base 2 _ _ _:=A.setl.can (fun f fd F=>ok_setL F T point) fun _ _ _ _ _ _ us hl=>match us,hl with | [_,_],_=>rfl
 have longl:Can P w K mg base 1 _ _ _:=A.longl.can (fun f fd F=>ok_longL F) fun _ _ _ _ _ _ us hl=>match us,hl with | [_,_],_=>rfl
 have leaf:Can P w K mg base 3 _ _ _:=A.leaf.can (fun f fd F=>ok_leaf F mixed point setl longl) fun _ _ _ _ _ _ us hl=>match us,hl with | [_,_,_],_=>rfl
 have rcl:Can P w K mg base 3 _ _ _:=A.rcl.can (fun f fd F=>ok_rc81 F mixed setl) fun _ _ _ _ _ _ us hl=>match us,hl with | [_,_,_,_],_=>rfl
 have rte:Can P w K mg base 2 _ _ _:=A.rte.can (fun f fd F=>ok_rt81 F mixed) fun _ _ _ _ _ _ us hl=>match us,hl with | [_,_,_],_=>rfl
 have ldep:∀ n:Nat,n≤50→Can P w K mg base (n + 1) "_law_depth" ["_law_thing"] (spLDep n):=fun n=>by
  induction n with
  | zero=>exact fun _=>A.ldep.can (fun f fd F=>ok_ldep0 F) fun _ _ _ _ _ _ us hl=>match us,hl with | [_],_=>rfl
  | succ n ih=>exact fun h=>A.ldep.can (fun f fd F=>ok_ldep (by omega) F T (ih (by omega))) fun _ _ _ _ _ _ us hl=>match us,hl with | [_],_=>rfl
 have grown:Can P w K mg base 36 _ _ _:=A.grown.can (fun f fd F=>ok_grown F T mixed leaf rcl rte (ldep 34 (by decide))) fun _ _ _ _ _ _ us hl=>match us,hl with | [_,_],_=>rfl
 have sxt:Can P w K mg base 1 _ _ _:=A.sxt.can (fun f fd F=>ok_sxt F) fun _ _ _ _ _ _ us hl=>match us,hl with | [_],_=>rfl
 have ltx:∀ n:Nat,Can P w K mg base (n + 2) "_law_text" ["_law_thing"] (spTxL n):=fun n=>by
  induction n with
  | zero=>exact A.ltx.can (fun f fd F=>ok_ltx0 F) fun _ _ _ _ _ _ us hl=>match us,hl with | [_],_=>rfl
  | succ n ih=>exact A.ltx.can (fun f fd F=>ok_ltx F T sxt ih) fun _ _ _ _ _ _ us hl=>match us,hl with | [_],_=>rfl
 have rfd:Can P w K mg base 71 _ _ _:=A.rfd.can (fun f fd F=>ok_rfd8 F R.mt xm rdC rdT) fun _ _ _ _ _ _ us hl=>match us,hl with | [_,_],_=>rfl
 have told:Can P w K mg base 54 _ _ _:=A.told.can (fun f fd F=>ok_told8 F (shC 25) (shT 25)) fun _ _ _ _ _ _ us hl=>match us,hl with | [_,_],_=>rfl
 have lread:Can P w K mg base 71 _ _ _:=A.lread.can (fun f fd F=>ok_read8 F rdC rdT) fun _ _ _ _ _ _ us hl=>match us,hl with | [_,_],_=>rfl
 have spoil:∀ n:Nat,Can P w K mg base (n + 1) "_law_spoil" ["_law_thing"] (spSpl n):=fun n=>by
  induction n with
  | zero=>exact A.spoil.can (fun f fd F=>ok_spl0 F) fun _ _ _ _ _ _ us hl=>match us,hl with | [_],_=>rfl
  | succ n ih=>exact A.spoil.can (fun f fd F=>ok_spl F T ih) fun _ _ _ _ _ _ us hl=>match us,hl with | [_],_=>rfl
 have trip:Can P w K mg base 72 _ _ _:=A.trip.can (fun f fd F=>ok_trip F T (ltx 12) told rfd lread (spoil 14)) fun _ _ _ _ _ _ us hl=>match us,hl with | [_,_],_=>rfl
 exact ok_law81 F words cell grown trip
end Net
namespace Net
open PySem L2
theorem all_mk {l:PySem.W.OpenLaw} {w:World} {K:PySem.W.Frag} {h:Heap} {mg:Str→Option Value} {fa C:Addr} {f0:Addr} {od0 an0:Option Addr} {sl0:Array (Option Value)} {oc0 kV0 dc0 pm0 cd0 ct0:Value} {f1:Addr} {od1 an1:Option Addr} {sl1:Array (Option Value)} {oc1 kV1 dc1 pm1 cd1 ct1:Value} {f2:Addr} {od2 an2:Option Addr} {sl2:Array (Option Value)} {oc2 kV2 dc2 pm2 cd2 ct2:Value} {f3:Addr} {od3 an3:Option Addr} {sl3:Array (Option Value)} {oc3 kV3 dc3 pm3 cd3 ct3:Value} {f4:Addr} {od4 an4:Option Addr} {sl4:Array (Option Value)} {oc4 kV4 dc4 pm4 cd4 ct4:Value} {f5:Addr} {od5 an5:Option Addr} {sl5:Array (Option Value)} {oc5 kV5 dc5 pm5 cd5 ct5:Value} {f6:Addr} {od6 an6:Option Addr} {sl6:Array (Option Value)} {oc6 kV6 dc6 pm6 cd6 ct6:Value} {f7:Addr} {od7 an7:Option Addr} {sl7:Array (Option Value)} {oc7 kV7 dc7 pm7 cd7 ct7:Value} {f8:Addr} {od8 an8:Option Addr} {sl8:Array (Option Value)} {oc8 kV8 dc8 pm8 cd8 ct8:Value} {f9:Addr} {od9 an9:Option Addr} {sl9:Array (Option Value)} {oc9 kV9 dc9 pm9 cd9 ct9:Value} {f10:Addr} {od10 an10:Option Addr} {sl10:Array (Option Value)} {oc10 kV10 dc10 pm10 cd10 ct10:Value} {f11:Addr} {od11 an11:Option Addr} {sl11:Array (Option Value)} {oc11 kV11 dc11 pm11 cd11 ct11:Value} {f12:Addr} {od12 an12:Option Addr} {sl12:Array (Option Value)} {oc12 kV12 dc12 pm12 cd12 ct12:Value} {f13:Addr} {od13 an13:Option Addr} {sl13:Array (Option Value)} {oc13 kV13 dc13 pm13 cd13 ct13:Value} {f14:Addr} {od14 an14:Option Addr} {sl14:Array (Option Value)} {oc14 kV14 dc14 pm14 cd14 ct14:Value} {f15:Addr} {od15 an15:Option Addr} {sl15:Array (Option Value)} {oc15 kV15 dc15 pm15 cd15 ct15:Value} {f16:Addr} {od16 an16:Option Addr} {sl16:Array (Option Value)} {oc16 kV16 dc16 pm16 cd16 ct16:Value} {f17:Addr} {od17 an17:Option Addr} {sl17:Array (Option Value)} {oc17 kV17 dc17 pm17 cd17 ct17:Value} {f18:Addr} {od18 an18:Option Addr} {sl18:Array (Option Value)} {oc18 kV18 dc18 pm18 cd18 ct18:Value} {f19:Addr} {od19 an19:Option Addr} {sl19:Array (Option Value)} {oc19 kV19 dc19 pm19 cd19 ct19:Value} {f20:Addr} {od20 an20:Option Addr} {sl20:Array (Option Value)} {oc20 kV20 dc20 pm20 cd20 ct20:Value} {f21:Addr} {od21 an21:Option Addr} {sl21:Array (Option Value)} {oc21 kV21 dc21 pm21 cd21 ct21:Value} {f22:Addr} {od22 an22:Option Addr} {sl22:Array (Option Value)} {oc22 kV22 dc22 pm22 cd22 ct22:Value} {f23:Addr} {od23 an23:Option Addr} {sl23:Array (Option Value)} {oc23 kV23 dc23 pm23 cd23 ct23:Value} {f24:Addr} {od24 an24:Option Addr} {sl24:Array (Option Value)} {oc24 kV24 dc24 pm24 cd24 ct24:Value} {f25:Addr} {od25 an25:Option Addr} {sl25:Array (Option Value)} {oc25 kV25 dc25 pm25 cd25 ct25:Value} {f26:Addr} {od26 an26:Option Addr} {sl26:Array (Option Value)} {oc26 kV26 dc26 pm26 cd26 ct26:Value} {f27:Addr} {od27 an27:Option Addr} {sl27:Array (Option Value)} {oc27 kV27 dc27 pm27 cd27 ct27:Value} {f28:Addr} {od28 an28:Option Addr} {sl28:Array (Option Value)} {oc28 kV28 dc28 pm28 cd28 ct28:Value} {f29:Addr} {od29 an29:Option Addr} {sl29:Array (Option Value)} {oc29 kV29 dc29 pm29 cd29 ct29:Value} {f30:Addr} {od30 an30:Option Addr} {sl30:Array (Option Value)} {oc30 kV30 dc30 pm30 cd30 ct30:Value} {f31:Addr} {od31 an31:Option Addr} {sl31:Array (Option Value)} {oc31 kV31 dc31 pm31 cd31 ct31:Value} {f32:Addr} {od32 an32:Option Addr} {sl32:Array (Option Value)} {oc32 kV32 dc32 pm32 cd32 ct32:Value} {f33:Addr} {od33 an33:Option Addr} {sl33:Array (Option Value)} {oc33 kV33 dc33 pm33 cd33 ct33:Value} {f34:Addr} {od34 an34:Option Addr} {sl34:Array (Option Value)} {oc34 kV34 dc34 pm34 cd34 ct34:Value} {f35:Addr} {od35 an35:Option Addr} {sl35:Array (Option Value)} {oc35 kV35 dc35 pm35 cd35 ct35:Value} {f36:Addr} {od36 an36:Option Addr} {sl36:Array (Option Value)} {oc36 kV36 dc36 pm36 cd36 ct36:Value} {f37:Addr} {od37 an37:Option Addr} {sl37:Array (Option Value)} {oc37 kV37 dc37 pm37 cd37 ct37:Value} {f38:Addr} {od38 an38:Option Addr} {sl38:Array (Option Value)} {oc38 kV38 dc38 pm38 cd38 ct38:Value} {f39:Addr} {od39 an39:Option Addr} {sl39:Array (Option Value)} {oc39 kV39 dc39 pm39 cd39 ct39:Value} {f40:Addr} {od40 an40:Option Addr} {sl40:Array (Option Value)} {oc40 kV40 dc40 pm40 cd40 ct40:Value} {f41:Addr} {od41 an41:Option Addr} {sl41:Array (Option Value)} {oc41 kV41 dc41 pm41 cd41 ct41:Value} {f42:Addr} {od42 an42:Option Addr} {sl42:Array (Option Value)} {oc42 kV42 dc42 pm42 cd42 ct42:Value} {f43:Addr} {od43 an43:Option Addr} {sl43:Array (Option Value)} {oc43 kV43 dc43 pm43 cd43 ct43:Value} {f44:Addr} {od44 an44:Option Addr} {sl44:Array (Option Value)} {oc44 kV44 dc44 pm44 cd44 ct44:Value} {f45:Addr} {od45 an45:Option Addr} {sl45:Array (Option Value)} {oc45 kV45 dc45 pm45 cd45 ct45:Value} {f46:Addr} {od46 an46:Option Addr} {sl46:Array (Option Value)} {oc46 kV46 dc46 pm46 cd46 ct46:Value} {fL:Addr} {odL anL:Option Addr} {slL:Array (Option Value)} {ocL kVL dcL pmL cdL ctL:Value} {e0 sw tw nbA:Addr} {swI twI:Array Value} {swN twN nbE:Nat} {t0 u0 t1 u1 t2 u2 t3 u3 t4 u4 t5 u5 t6 u6:Tok} {vS:Value} {vN:Value} {vP:Value} {vM:Value} {vD:Value} {vG:Value} {vV:Value} {vL:Value}
  (X:K.In h) (G:h.Ns mainGlobals mg) (hfa:mg "law" = some (.ref fa))
  (aC:PySem.W.nsIn K mainGlobals "WordRow" = some (some (.ref C)))
  (a0:PySem.W.nsIn K mainGlobals "is_made_of" = some (some (.ref f0)))
  (l0:K.lookup f0=some ⟨oc0,od0,.func (PySem.W.fnOf "is_made_of" "is_made_of" (defArgs s_is_made_of) (defBody s_is_made_of) (defScope s_is_made_of) .none kV0 dc0 pm0 an0 cd0 ct0),sl0⟩) (c0:PySem.W.codeIn K cd0 "is_made_of" = true) (k0:PySem.W.keepIn K (.ref f0)=true)
  (a1:PySem.W.nsIn K mainGlobals "is_name" = some (some (.ref f1)))
  (l1:K.lookup f1=some ⟨oc1,od1,.func (PySem.W.fnOf "is_name" "is_name" (defArgs s_is_name) (defBody s_is_name) (defScope s_is_name) .none kV1 dc1 pm1 an1 cd1 ct1),sl1⟩) (c1:PySem.W.codeIn K cd1 "is_name" = true) (k1:PySem.W.keepIn K (.ref f1)=true)
  (a2:PySem.W.nsIn K mainGlobals "is_variable" = some (some (.ref f2)))
  (l2:K.lookup f2=some ⟨oc2,od2,.func (PySem.W.fnOf "is_variable" "is_variable" (defArgs s_is_variable) (defBody s_is_variable) (defScope s_is_variable) .none kV2 dc2 pm2 an2 cd2 ct2),sl2⟩) (c2:PySem.W.codeIn K cd2 "is_variable" = true) (k2:PySem.W.keepIn K (.ref f2)=true)
  (a3:PySem.W.nsIn K mainGlobals "read_number" = some (some (.ref f3)))
  (l3:K.lookup f3=some ⟨oc3,od3,.func (PySem.W.fnOf "read_number" "read_number" (defArgs s_read_number) (defBody s_read_number) (defScope s_read_number) .none kV3 dc3 pm3 an3 cd3 ct3),sl3⟩) (c3:PySem.W.codeIn K cd3 "read_number" = true) (k3:PySem.W.keepIn K (.ref f3)=true)
  (a4:PySem.W.nsIn K mainGlobals "show_claim" = some (some (.ref f4)))
  (l4:K.lookup f4=some ⟨oc4,od4,.func (PySem.W.fnOf "show_claim" "show_claim" (defArgs s_show_claim) (defBody s_show_claim) (defScope s_show_claim) .none kV4 dc4 pm4 an4 cd4 ct4),sl4⟩) (c4:PySem.W.codeIn K cd4 "show_claim" = true) (k4:PySem.W.keepIn K (.ref f4)=true)
  (a5:PySem.W.nsIn K mainGlobals "show_term" = some (some (.ref f5)))
  (l5:K.lookup f5=some ⟨oc5,od5,.func (PySem.W.fnOf "show_term" "show_term" (defArgs s_show_term) (defBody s_show_term) (defScope s_show_term) .none kV5 dc5 pm5 an5 cd5 ct5),sl5⟩) (c5:PySem.W.codeIn K cd5 "show_term" = true) (k5:PySem.W.keepIn K (.ref f5)=true)
  (a6:PySem.W.nsIn K mainGlobals "show_set" = some (some (.ref f6)))
  (l6:K.lookup f6=some ⟨oc6,od6,.func (PySem.W.fnOf "show_set" "show_set" (defArgs s_show_set) (defBody s_show_set) (defScope s_show_set) .none kV6 dc6 pm6 an6 cd6 ct6),sl6⟩) (c6:PySem.W.codeIn K cd6 "show_set" = true) (k6:PySem.W.keepIn K (.ref f6)=true)
  (a7:PySem.W.nsIn K mainGlobals "read_claim" = some (some (.ref f7)))
  (l7:K.lookup f7=some ⟨oc7,od7,.func (PySem.W.fnOf "read_claim" "read_claim" (defArgs s_read_claim) (defBody s_read_claim) (defScope s_read_claim) .none kV7 dc7 pm7 an7 cd7 ct7),sl7⟩) (c7:PySem.W.codeIn K cd7 "read_claim" = true) (k7:PySem.W.keepIn K (.ref f7)=true)
  (a8:PySem.W.nsIn K mainGlobals "read_term" = some (some (.ref f8)))
  (l8:K.lookup f8=some ⟨oc8,od8,.func (PySem.W.fnOf "read_term" "read_term" (defArgs s_read_term) (defBody s_read_term) (defScope s_read_term) .none kV8 dc8 pm8 an8 cd8 ct8),sl8⟩) (c8:PySem.W.codeIn K cd8 "read_term" = true) (k8:PySem.W.keepIn K (.ref f8)=true)
  (a9:PySem.W.nsIn K mainGlobals "refuse_other_text" = some (some (.ref f9)))
  (l9:K.lookup f9=some ⟨oc9,od9,.func (PySem.W.fnOf "refuse_other_text" "refuse_other_text" (defArgs s_refuse_other_text) (defBody s_refuse_other_text) (defScope s_refuse_other_text) .none kV9 dc9 pm9 an9 cd9 ct9),sl9⟩) (c9:PySem.W.codeIn K cd9 "refuse_other_text" = true) (k9:PySem.W.keepIn K (.ref f9)=true)
  (a10:PySem.W.nsIn K mainGlobals "split_text" = some (some (.ref f10)))
  (l10:K.lookup f10=some ⟨oc10,od10,.func (PySem.W.fnOf "split_text" "split_text" (defArgs s_split_text) (defBody s_split_text) (defScope s_split_text) .none kV10 dc10 pm10 an10 cd10 ct10),sl10⟩) (c10:PySem.W.codeIn K cd10 "split_text" = true) (k10:PySem.W.keepIn K (.ref f10)=true)
  (a11:PySem.W.nsIn K mainGlobals "depth_of" = some (some (.ref f11)))
  (l11:K.lookup f11=some ⟨oc11,od11,.func (PySem.W.fnOf "depth_of" "depth_of" (defArgs s_depth_of) (defBody s_depth_of) (defScope s_depth_of) .none kV11 dc11 pm11 an11 cd11 ct11),sl11⟩) (c11:PySem.W.codeIn K cd11 "depth_of" = true) (k11:PySem.W.keepIn K (.ref f11)=true)
  (a12:PySem.W.findIn K (.ref C) "__init__" = some (some (.ref f12))) (i12:PySem.W.isFn K (.ref f12)=true)
  (l12:K.lookup f12=some ⟨oc12,od12,.func (PySem.W.fnOf "__init__" "WordRow.__init__" (defArgs s_WordRow_init) (defBody s_WordRow_init) (defScope s_WordRow_init) .none kV12 dc12 pm12 an12 cd12 ct12),sl12⟩) (c12:PySem.W.codeIn K cd12 "WordRow.__init__" = true) (k12:PySem.W.keepIn K (.ref f12)=true)
  (a13:PySem.W.findIn K (.ref C) "coming" = some (some (.ref f13))) (i13:PySem.W.isFn K (.ref f13)=true)
  (l13:K.lookup f13=some ⟨oc13,od13,.func (PySem.W.fnOf "coming" "WordRow.coming" (defArgs s_WordRow_coming) (defBody s_WordRow_coming) (defScope s_WordRow_coming) .none kV13 dc13 pm13 an13 cd13 ct13),sl13⟩) (c13:PySem.W.codeIn K cd13 "WordRow.coming" = true) (k13:PySem.W.keepIn K (.ref f13)=true)
  (a14:PySem.W.findIn K (.ref C) "take" = some (some (.ref f14))) (i14:PySem.W.isFn K (.ref f14)=true)
  (l14:K.lookup f14=some ⟨oc14,od14,.func (PySem.W.fnOf "take" "WordRow.take" (defArgs s_WordRow_take) (defBody s_WordRow_take) (defScope s_WordRow_take) .none kV14 dc14 pm14 an14 cd14 ct14),sl14⟩) (c14:PySem.W.codeIn K cd14 "WordRow.take" = true) (k14:PySem.W.keepIn K (.ref f14)=true)
  (a15:PySem.W.findIn K (.ref C) "pass_over" = some (some (.ref f15))) (i15:PySem.W.isFn K (.ref f15)=true)
  (l15:K.lookup f15=some ⟨oc15,od15,.func (PySem.W.fnOf "pass_over" "WordRow.pass_over" (defArgs s_WordRow_pass_over) (defBody s_WordRow_pass_over) (defScope s_WordRow_pass_over) .none kV15 dc15 pm15 an15 cd15 ct15),sl15⟩) (c15:PySem.W.codeIn K cd15 "WordRow.pass_over" = true) (k15:PySem.W.keepIn K (.ref f15)=true)
  (a16:PySem.W.nsIn K mainGlobals "read_whole_claim" = some (some (.ref f16)))
  (l16:K.lookup f16=some ⟨oc16,od16,.func (PySem.W.fnOf "read_whole_claim" "read_whole_claim" (defArgs s_read_whole_claim) (defBody s_read_whole_claim) (defScope s_read_whole_claim) .none kV16 dc16 pm16 an16 cd16 ct16),sl16⟩) (c16:PySem.W.codeIn K cd16 "read_whole_claim" = true) (k16:PySem.W.keepIn K (.ref f16)=true)
  (a17:PySem.W.nsIn K mainGlobals "read_whole_term" = some (some (.ref f17)))
  (l17:K.lookup f17=some ⟨oc17,od17,.func (PySem.W.fnOf "read_whole_term" "read_whole_term" (defArgs s_read_whole_term) (defBody s_read_whole_term) (defScope s_read_whole_term) .none kV17 dc17 pm17 an17 cd17 ct17),sl17⟩) (c17:PySem.W.codeIn K cd17 "read_whole_term" = true) (k17:PySem.W.keepIn K (.ref f17)=true)
  (a18:PySem.W.nsIn K mainGlobals "is_term" = some (some (.ref f18)))
  (l18:K.lookup f18=some ⟨oc18,od18,.func (PySem.W.fnOf "is_term" "is_term" (defArgs s_is_term) (defBody s_is_term) (defScope s_is_term) .none kV18 dc18 pm18 an18 cd18 ct18),sl18⟩) (c18:PySem.W.codeIn K cd18 "is_term" = true) (k18:PySem.W.keepIn K (.ref f18)=true)
  (a19:PySem.W.nsIn K mainGlobals "read_whole" = some (some (.ref f19)))
  (l19:K.lookup f19=some ⟨oc19,od19,.func (PySem.W.fnOf "read_whole" "read_whole" (defArgs s_read_whole) (defBody s_read_whole) (defScope s_read_whole) .none kV19 dc19 pm19 an19 cd19 ct19),sl19⟩) (c19:PySem.W.codeIn K cd19 "read_whole" = true) (k19:PySem.W.keepIn K (.ref f19)=true)
  (a20:PySem.W.nsIn K mainGlobals "read_first" = some (some (.ref f20)))
  (l20:K.lookup f20=some ⟨oc20,od20,.func (PySem.W.fnOf "read_first" "read_first" (defArgs s_read_first) (defBody s_read_first) (defScope s_read_first) .none kV20 dc20 pm20 an20 cd20 ct20),sl20⟩) (c20:PySem.W.codeIn K cd20 "read_first" = true) (k20:PySem.W.keepIn K (.ref f20)=true)
  (a21:PySem.W.nsIn K mainGlobals "read_name" = some (some (.ref f21)))
  (l21:K.lookup f21=some ⟨oc21,od21,.func (PySem.W.fnOf "read_name" "read_name" (defArgs s_read_name) (defBody s_read_name) (defScope s_read_name) .none kV21 dc21 pm21 an21 cd21 ct21),sl21⟩) (c21:PySem.W.codeIn K cd21 "read_name" = true) (k21:PySem.W.keepIn K (.ref f21)=true)
  (a22:PySem.W.nsIn K mainGlobals "read_cost" = some (some (.ref f22)))
  (l22:K.lookup f22=some ⟨oc22,od22,.func (PySem.W.fnOf "read_cost" "read_cost" (defArgs s_read_cost) (defBody s_read_cost) (defScope s_read_cost) .none kV22 dc22 pm22 an22 cd22 ct22),sl22⟩) (c22:PySem.W.codeIn K cd22 "read_cost" = true) (k22:PySem.W.keepIn K (.ref f22)=true)
  (a23:PySem.W.nsIn K mainGlobals "read_over_places" = some (some (.ref f23)))
  (l23:K.lookup f23=some ⟨oc23,od23,.func (PySem.W.fnOf "read_over_places" "read_over_places" (defArgs s_read_over_places) (defBody s_read_over_places) (defScope s_read_over_places) .none kV23 dc23 pm23 an23 cd23 ct23),sl23⟩) (c23:PySem.W.codeIn K cd23 "read_over_places" = true) (k23:PySem.W.keepIn K (.ref f23)=true)
  (a24:PySem.W.nsIn K mainGlobals "read_of_two" = some (some (.ref f24)))
  (l24:K.lookup f24=some ⟨oc24,od24,.func (PySem.W.fnOf "read_of_two" "read_of_two" (defArgs s_read_of_two) (defBody s_read_of_two) (defScope s_read_of_two) .none kV24 dc24 pm24 an24 cd24 ct24),sl24⟩) (c24:PySem.W.codeIn K cd24 "read_of_two" = true) (k24:PySem.W.keepIn K (.ref f24)=true)
  (a25:PySem.W.nsIn K mainGlobals "read_bracket" = some (some (.ref f25)))
  (l25:K.lookup f25=some ⟨oc25,od25,.func (PySem.W.fnOf "read_bracket" "read_bracket" (defArgs s_read_bracket) (defBody s_read_bracket) (defScope s_read_bracket) .none kV25 dc25 pm25 an25 cd25 ct25),sl25⟩) (c25:PySem.W.codeIn K cd25 "read_bracket" = true) (k25:PySem.W.keepIn K (.ref f25)=true)
  (a26:PySem.W.nsIn K mainGlobals "read_from_number" = some (some (.ref f26)))
  (l26:K.lookup f26=some ⟨oc26,od26,.func (PySem.W.fnOf "read_from_number" "read_from_number" (defArgs s_read_from_number) (defBody s_read_from_number) (defScope s_read_from_number) .none kV26 dc26 pm26 an26 cd26 ct26),sl26⟩) (c26:PySem.W.codeIn K cd26 "read_from_number" = true) (k26:PySem.W.keepIn K (.ref f26)=true)
  (a27:PySem.W.nsIn K mainGlobals "read_set" = some (some (.ref f27)))
  (l27:K.lookup f27=some ⟨oc27,od27,.func (PySem.W.fnOf "read_set" "read_set" (defArgs s_read_set) (defBody s_read_set) (defScope s_read_set) .none kV27 dc27 pm27 an27 cd27 ct27),sl27⟩) (c27:PySem.W.codeIn K cd27 "read_set" = true) (k27:PySem.W.keepIn K (.ref f27)=true)
  (a28:PySem.W.nsIn K mainGlobals "read_names" = some (some (.ref f28)))
  (l28:K.lookup f28=some ⟨oc28,od28,.func (PySem.W.fnOf "read_names" "read_names" (defArgs s_read_names) (defBody s_read_names) (defScope s_read_names) .none kV28 dc28 pm28 an28 cd28 ct28),sl28⟩) (c28:PySem.W.codeIn K cd28 "read_names" = true) (k28:PySem.W.keepIn K (.ref f28)=true)
  (a29:PySem.W.nsIn K mainGlobals "_law_cell_at" = some (some (.ref f29)))
  (l29:K.lookup f29=some ⟨oc29,od29,.func (PySem.W.fnOf "_law_cell_at" "_law_cell_at" (defArgs s_l_cell_at) (defBody s_l_cell_at) (defScope s_l_cell_at) .none kV29 dc29 pm29 an29 cd29 ct29),sl29⟩) (c29:PySem.W.codeIn K cd29 "_law_cell_at" = true) (k29:PySem.W.keepIn K (.ref f29)=true)
  (a30:PySem.W.nsIn K mainGlobals "_law_mixed" = some (some (.ref f30)))
  (l30:K.lookup f30=some ⟨oc30,od30,.func (PySem.W.fnOf "_law_mixed" "_law_mixed" (defArgs s_l_mixed) (defBody s_l_mixed) (defScope s_l_mixed) .none kV30 dc30 pm30 an30 cd30 ct30),sl30⟩) (c30:PySem.W.codeIn K cd30 "_law_mixed" = true) (k30:PySem.W.keepIn K (.ref f30)=true)
  (a31:PySem.W.nsIn K mainGlobals "_law_words" = some (some (.ref f31)))
  (l31:K.lookup f31=some ⟨oc31,od31,.func (PySem.W.fnOf "_law_words" "_law_words" (defArgs s_l_words) (defBody s_l_words) (defScope s_l_words) .none kV31 dc31 pm31 an31 cd31 ct31),sl31⟩) (c31:PySem.W.codeIn K cd31 "_law_words" = true) (k31:PySem.W.keepIn K (.ref f31)=true)
  (a32:PySem.W.nsIn K mainGlobals "_law_point" = some (some (.ref f32)))
  (l32:K.lookup f32=some ⟨oc32,od32,.func (PySem.W.fnOf "_law_point" "_law_point" (defArgs s_l_point) (defBody s_l_point) (defScope s_l_point) .none kV32 dc32 pm32 an32 cd32 ct32),sl32⟩) (c32:PySem.W.codeIn K cd32 "_law_point" = true) (k32:PySem.W.keepIn K (.ref f32)=true)
  (a33:PySem.W.nsIn K mainGlobals "_law_set" = some (some (.ref f33)))
  (l33:K.lookup f33=some ⟨oc33,od33,.func (PySem.W.fnOf "_law_set" "_law_set" (defArgs s_l_set) (defBody s_l_set) (defScope s_l_set) .none kV33 dc33 pm33 an33 cd33 ct33),sl33⟩) (c33:PySem.W.codeIn K cd33 "_law_set" = true) (k33:PySem.W.keepIn K (.ref f33)=true)
  (a34:PySem.W.nsIn K mainGlobals "_law_long" = some (some (.ref f34)))
  (l34:K.lookup f34=some ⟨oc34,od34,.func (PySem.W.fnOf "_law_long" "_law_long" (defArgs s_l_long) (defBody s_l_long) (defScope s_l_long) .none kV34 dc34 pm34 an34 cd34 ct34),sl34⟩) (c34:PySem.W.codeIn K cd34 "_law_long" = true) (k34:PySem.W.keepIn K (.ref f34)=true)
  (a35:PySem.W.nsIn K mainGlobals "_law_leaf" = some (some (.ref f35)))
  (l35:K.lookup f35=some ⟨oc35,od35,.func (PySem.W.fnOf "_law_leaf" "_law_leaf" (defArgs s_l_leaf) (defBody s_l_leaf) (defScope s_l_leaf) .none kV35 dc35 pm35 an35 cd35 ct35),sl35⟩) (c35:PySem.W.codeIn K cd35 "_law_leaf" = true) (k35:PySem.W.keepIn K (.ref f35)=true)
  (a36:PySem.W.nsIn K mainGlobals "_law_round_claim" = some (some (.ref f36)))
  (l36:K.lookup f36=some ⟨oc36,od36,.func (PySem.W.fnOf "_law_round_claim" "_law_round_claim" (defArgs s_l_round_claim) (defBody s_l_round_claim) (defScope s_l_round_claim) .none kV36 dc36 pm36 an36 cd36 ct36),sl36⟩) (c36:PySem.W.codeIn K cd36 "_law_round_claim" = true) (k36:PySem.W.keepIn K (.ref f36)=true)
  (a37:PySem.W.nsIn K mainGlobals "_law_round_term" = some (some (.ref f37)))
  (l37:K.lookup f37=some ⟨oc37,od37,.func (PySem.W.fnOf "_law_round_term" "_law_round_term" (defArgs s_l_round_term) (defBody s_l_round_term) (defScope s_l_round_term) .none kV37 dc37 pm37 an37 cd37 ct37),sl37⟩) (c37:PySem.W.codeIn K cd37 "_law_round_term" = true) (k37:PySem.W.keepIn K (.ref f37)=true)
  (a38:PySem.W.nsIn K mainGlobals "_law_depth" = some (some (.ref f38)))
  (l38:K.lookup f38=some ⟨oc38,od38,.func (PySem.W.fnOf "_law_depth" "_law_depth" (defArgs s_l_depth) (defBody s_l_depth) (defScope s_l_depth) .none kV38 dc38 pm38 an38 cd38 ct38),sl38⟩) (c38:PySem.W.codeIn K cd38 "_law_depth" = true) (k38:PySem.W.keepIn K (.ref f38)=true)
  (a39:PySem.W.nsIn K mainGlobals "_law_grown" = some (some (.ref f39)))
  (l39:K.lookup f39=some ⟨oc39,od39,.func (PySem.W.fnOf "_law_grown" "_law_grown" (defArgs s_l_grown) (defBody s_l_grown) (defScope s_l_grown) .none kV39 dc39 pm39 an39 cd39 ct39),sl39⟩) (c39:PySem.W.codeIn K cd39 "_law_grown" = true) (k39:PySem.W.keepIn K (.ref f39)=true)
  (a40:PySem.W.nsIn K mainGlobals "_law_set_text" = some (some (.ref f40)))
  (l40:K.lookup f40=some ⟨oc40,od40,.func (PySem.W.fnOf "_law_set_text" "_law_set_text" (defArgs s_l_set_text) (defBody s_l_set_text) (defScope s_l_set_text) .none kV40 dc40 pm40 an40 cd40 ct40),sl40⟩) (c40:PySem.W.codeIn K cd40 "_law_set_text" = true) (k40:PySem.W.keepIn K (.ref f40)=true)
  (a41:PySem.W.nsIn K mainGlobals "_law_text" = some (some (.ref f41)))
  (l41:K.lookup f41=some ⟨oc41,od41,.func (PySem.W.fnOf "_law_text" "_law_text" (defArgs s_l_text) (defBody s_l_text) (defScope s_l_text) .none kV41 dc41 pm41 an41 cd41 ct41),sl41⟩) (c41:PySem.W.codeIn K cd41 "_law_text" = true) (k41:PySem.W.keepIn K (.ref f41)=true)
  (a42:PySem.W.nsIn K mainGlobals "_law_refused" = some (some (.ref f42)))
  (l42:K.lookup f42=some ⟨oc42,od42,.func (PySem.W.fnOf "_law_refused" "_law_refused" (defArgs s_l_refused) (defBody s_l_refused) (defScope s_l_refused) .none kV42 dc42 pm42 an42 cd42 ct42),sl42⟩) (c42:PySem.W.codeIn K cd42 "_law_refused" = true) (k42:PySem.W.keepIn K (.ref f42)=true)
  (a43:PySem.W.nsIn K mainGlobals "_law_told" = some (some (.ref f43)))
  (l43:K.lookup f43=some ⟨oc43,od43,.func (PySem.W.fnOf "_law_told" "_law_told" (defArgs s_l_told) (defBody s_l_told) (defScope s_l_told) .none kV43 dc43 pm43 an43 cd43 ct43),sl43⟩) (c43:PySem.W.codeIn K cd43 "_law_told" = true) (k43:PySem.W.keepIn K (.ref f43)=true)
  (a44:PySem.W.nsIn K mainGlobals "_law_read" = some (some (.ref f44)))
  (l44:K.lookup f44=some ⟨oc44,od44,.func (PySem.W.fnOf "_law_read" "_law_read" (defArgs s_l_read) (defBody s_l_read) (defScope s_l_read) .none kV44 dc44 pm44 an44 cd44 ct44),sl44⟩) (c44:PySem.W.codeIn K cd44 "_law_read" = true) (k44:PySem.W.keepIn K (.ref f44)=true)
  (a45:PySem.W.nsIn K mainGlobals "_law_spoil" = some (some (.ref f45)))
  (l45:K.lookup f45=some ⟨oc45,od45,.func (PySem.W.fnOf "_law_spoil" "_law_spoil" (defArgs s_l_spoil) (defBody s_l_spoil) (defScope s_l_spoil) .none kV45 dc45 pm45 an45 cd45 ct45),sl45⟩) (c45:PySem.W.codeIn K cd45 "_law_spoil" = true) (k45:PySem.W.keepIn K (.ref f45)=true)
  (a46:PySem.W.nsIn K mainGlobals "_law_round_trip" = some (some (.ref f46)))
  (l46:K.lookup f46=some ⟨oc46,od46,.func (PySem.W.fnOf "_law_round_trip" "_law_round_trip" (defArgs s_l_round_trip) (defBody s_l_round_trip) (defScope s_l_round_trip) .none kV46 dc46 pm46 an46 cd46 ct46),sl46⟩) (c46:PySem.W.codeIn K cd46 "_law_round_trip" = true) (k46:PySem.W.keepIn K (.ref f46)=true)
  (aL:PySem.W.nsIn K mainGlobals "law" = some (some (.ref fL))) (lL:K.lookup fL=some ⟨ocL,odL,.func (PySem.W.fnOf "law" "law" (defArgs s_law) (defBody s_law) (defScope s_law) .none kVL dcL pmL anL cdL ctL),slL⟩) (cL:PySem.W.codeIn K cdL "law" = true) (kL:PySem.W.keepIn K (.ref fL)=true)
  (pg:PySem.W.plainGet K C Str.empty=true) (hd:PySem.W.hasDictIn K C=true) (po:PySem.W.plainOver K C=true) (sa:PySem.W.findIn K (.ref C) "__setattr__" = some (some (.builtin "object.__setattr__"))) (mk:PySem.W.makesIn K C=true) (kc:PySem.W.keepIn K (.ref C)=true)
  (nS:PySem.W.findIn K (.ref C) "words" = some none) (nL:PySem.W.findIn K (.ref C) "taken" = some none)
  (z_all:PySem.W.nsIn K mainGlobals "all" = some none)
  (z_isinstance:PySem.W.nsIn K mainGlobals "isinstance" = some none)
  (z_str:PySem.W.nsIn K mainGlobals "str" = some none)
  (z_int:PySem.W.nsIn K mainGlobals "int" = some none)
  (z_bool:PySem.W.nsIn K mainGlobals "bool" = some none)
  (z_list:PySem.W.nsIn K mainGlobals "list" = some none)
  (z_tuple:PySem.W.nsIn K mainGlobals "tuple" = some none)
  (z_len:PySem.W.nsIn K mainGlobals "len" = some none)
  (z_range:PySem.W.nsIn K mainGlobals "range" = some none)
  (z_abs:PySem.W.nsIn K mainGlobals "abs" = some none)
  (z_max:PySem.W.nsIn K mainGlobals "max" = some none)
  (m0:PySem.W.nsIn K mainGlobals "NoText" = some (some (.ref e0)))
  (x0:PySem.W.excIn K e0 [.type "ValueError",.type "Exception",.type "BaseException",.type "object"] "ValueError.__new__" = true)
  (xm0:PySem.W.exmOne K (.ref e0) (.ref e0)=some true)
  (aSW:PySem.W.nsIn K mainGlobals "SET_WORDS" = some (some (.ref sw)))
  (lSW:K.lookup sw=some { cls:=.type "tuple",data:=.seq swI swN })
  (zSW:swI.size≤sizeLine)
  (vSW:Vals (setWs.map V.str) swI.toList)
  (aTW:PySem.W.nsIn K mainGlobals "TERM_WORDS" = some (some (.ref tw)))
  (lTW:K.lookup tw=some { cls:=.type "tuple",data:=.seq twI twN })
  (zTW:twI.size≤sizeLine)
  (vTW:Vals (termWs.map V.str) twI.toList)
  (aNB:PySem.W.nsIn K mainGlobals "NAMES_BEHIND" = some (some (.ref nbA)))
  (sNB:(nbA == sysModules)=false)
  (lNB:K.lookup nbA=some { cls:=.type "dict",data:=.dict #[{ hash:=PyData.keyHash w.params (Str.ofString "way"),key:=.str (Str.ofString "way") t0,val:=.int 2 u0 },{ hash:=PyData.keyHash w.params (Str.ofString "ring"),key:=.str (Str.ofString "ring") t1,val:=.int 0 u1 },{ hash:=PyData.keyHash w.params (Str.ofString "round"),key:=.str (Str.ofString "round") t2,val:=.int 0 u2 },{ hash:=PyData.keyHash w.params (Str.ofString "must"),key:=.str (Str.ofString "must") t3,val:=.int 3 u3 },{ hash:=PyData.keyHash w.params (Str.ofString "flow"),key:=.str (Str.ofString "flow") t4,val:=.int 2 u4 },{ hash:=PyData.keyHash w.params (Str.ofString "apart"),key:=.str (Str.ofString "apart") t5,val:=.int 2 u5 },{ hash:=PyData.keyHash w.params (Str.ofString "bare"),key:=.str (Str.ofString "bare") t6,val:=.int 2 u6 }] nbE })
  (gS:PySem.W.nsIn K mainGlobals "SMALL_LETTERS" = some (some vS)) (rS:RelV (.str abc) vS)
  (gN:PySem.W.nsIn K mainGlobals "LONGEST_NAME" = some (some vN)) (rN:RelV (.int 12) vN)
  (gP:PySem.W.nsIn K mainGlobals "FIGURES" = some (some vP)) (rP:RelV (.str "0123456789") vP)
  (gM:PySem.W.nsIn K mainGlobals "MOST_FIGURES" = some (some vM)) (rM:RelV (.int 60) vM)
  (gD:PySem.W.nsIn K mainGlobals "MOST_DEEP" = some (some vD)) (rD:RelV (.int 12) vD)
  (gG:PySem.W.nsIn K mainGlobals "GREAT_LETTERS" = some (some vG)) (rG:RelV (.str "ABCDEFGHIJKLMNOPQRSTUVWXYZ") vG)
  (gV:PySem.W.nsIn K mainGlobals "LONGEST_VARIABLE" = some (some vV)) (rV:RelV (.int 3) vV)
  (gL:PySem.W.nsIn K mainGlobals "LONE_SIGNS" = some (some vL)) (rL:RelV (.str "(){},:") vL) :
  ∃ fd:FuncData,(∀ (s:Shared) (v:Value),BindsTo s fd ⟨[v],[]⟩ [("_law_script",v)])∧∀ base:Heap,K.In base→base.Ns mainGlobals mg→FnOk l.prog w K mg base CX0 73 fa fd ["_law_script"] (spLaw K):=by
 have e:=hfa.symm.trans (PySem.W.mg_of X G aL)
 cases e
 have T:Txt K mg:={ all:=PySem.W.mg_none_of X G z_all,isi:=PySem.W.mg_none_of X G z_isinstance,str:=PySem.W.mg_none_of X G z_str,int:=PySem.W.mg_none_of X G z_int,bool:=PySem.W.mg_none_of X G z_bool,list:=PySem.W.mg_none_of X G z_list,tuple:=PySem.W.mg_none_of X G z_tuple,len:=PySem.W.mg_none_of X G z_len,range:=PySem.W.mg_none_of X G z_range,abs:=PySem.W.mg_none_of X G z_abs,max:=PySem.W.mg_none_of X G z_max,small:=⟨vS,PySem.W.mg_of X G gS,rS⟩,longest:=⟨vN,PySem.W.mg_of X G gN,rN⟩,figs:=⟨vP,PySem.W.mg_of X G gP,rP⟩,mostF:=⟨vM,PySem.W.mg_of X G gM,rM⟩,deep:=⟨vD,PySem.W.mg_of X G gD,rD⟩,great:=⟨vG,PySem.W.mg_of X G gG,rG⟩,longV:=⟨vV,PySem.W.mg_of X G gV,rV⟩,signs:=⟨vL,PySem.W.mg_of X G gL,rL⟩,kIB:=kib1 K }
 have A:All l.prog w K mg C:={ T:=T,cls:=⟨pg,hd,po,sa⟩,mgC:=PySem.W.mg_of X G aC,nW:=nS,nT:=nL,mks:=mk,kc:=kc,errs:=⟨e0,⟨PySem.W.mg_of X G m0,x0⟩,xm0⟩,setW:=⟨sw,PySem.W.mg_of X G aSW,tup_at lSW zSW vSW⟩,termW:=⟨tw,PySem.W.mg_of X G aTW,tup_at lTW zTW vTW⟩,nbD:=⟨nbA,_,PySem.W.mg_of X G aNB,kd_of sNB lNB,nb_vals⟩,made:=fn_mk X G a0 l0 c0 k0,name:=fn_mk X G a1 l1 c1 k1,vari:=fn_mk X G a2 l2 c2 k2,rnum:=fn_mk X G a3 l3 c3 k3,shC:=fn_mk X G a4 l4 c4 k4,shT:=fn_mk X G a5 l5 c5 k5,shS:=fn_mk X G a6 l6 c6 k6,rdC:=fn_mk X G a7 l7 c7 k7,rdT:=fn_mk X G a8 l8 c8 k8,refu:=fn_mk X G a9 l9 c9 k9,splt:=fn_mk X G a10 l10 c10 k10,depo:=fn_mk X G a11 l11 c11 k11,init:=mt_mk a12 i12 l12 c12 k12,comi:=mt_mk a13 i13 l13 c13 k13,take:=mt_mk a14 i14 l14 c14 k14,pass:=mt_mk a15 i15 l15 c15 k15,rwc:=fn_mk X G a16 l16 c16 k16,rwt:=fn_mk X G a17 l17 c17 k17,ister:=fn_mk X G a18 l18 c18 k18,rwh:=fn_mk X G a19 l19 c19 k19,rfst:=fn_mk X G a20 l20 c20 k20,rnam:=fn_mk X G a21 l21 c21 k21,rcos:=fn_mk X G a22 l22 c22 k22,rove:=fn_mk X G a23 l23 c23 k23,rtwo:=fn_mk X G a24 l24 c24 k24,rbra:=fn_mk X G a25 l25 c25 k25,rfrn:=fn_mk X G a26 l26 c26 k26,rset:=fn_mk X G a27 l27 c27 k27,rnms:=fn_mk X G a28 l28 c28 k28,cell:=fn_mk X G a29 l29 c29 k29,mixed:=fn_mk X G a30 l30 c30 k30,words:=fn_mk X G a31 l31 c31 k31,point:=fn_mk X G a32 l32 c32 k32,setl:=fn_mk X G a33 l33 c33 k33,longl:=fn_mk X G a34 l34 c34 k34,leaf:=fn_mk X G a35 l35 c35 k35,rcl:=fn_mk X G a36 l36 c36 k36,rte:=fn_mk X G a37 l37 c37 k37,ldep:=fn_mk X G a38 l38 c38 k38,grown:=fn_mk X G a39 l39 c39 k39,sxt:=fn_mk X G a40 l40 c40 k40,ltx:=fn_mk X G a41 l41 c41 k41,rfd:=fn_mk X G a42 l42 c42 k42,told:=fn_mk X G a43 l43 c43 k43,lread:=fn_mk X G a44 l44 c44 k44,spoil:=fn_mk X G a45 l45 c45 k45,trip:=fn_mk X G a46 l46 c46 k46 }
 exact ⟨PySem.W.fnOf "law" "law" (defArgs s_law) (defBody s_law) (defScope s_law) .none kVL dcL pmL anL cdL ctL,fun s v=>.of_eq rfl,fun base _ _=>law_ok A (fun_mk lL cL kL)⟩
theorem walk {l:PySem.W.OpenLaw} {q:Program} {loose:List Str} {XP:(Str→Option Value)→Heap→Prop} {YP:World→Heap→Prop} {d:DefRec} {K:Params→PySem.W.Frag} (hn:l.most=some 63) (hdf:d.params.defaults=[])
  (hY:∀ (w:World) (h:Heap),YP w h→(K w.params).In h)
  (F:∀ (w:World) (mg:Str→Option Value) (fa:Addr) (h:Heap),(K w.params).In h→h.Ns mainGlobals mg→mg d.name=some (.ref fa) →
   ∃ fd:FuncData,(∀ (s:Shared) (u:Value),BindsTo s fd ⟨[u],[]⟩ [("_law_script",u)])∧∀ base:Heap,(K w.params).In base→base.Ns mainGlobals mg→FnOk l.prog w (K w.params) mg base CX0 73 fa fd ["_law_script"] (spLaw (K w.params))) :
  PySem.W.WalkO q loose XP YP l.row.toRowW d [] (fun f vs=>PySem.call f vs) :=
 L2.walk_of (n:=63) (k:=73) (x := "_law_script") (CX:=fun _=>CX0) (sp:=fun w=>spLaw (K w.params)) hn (by decide) hdf ⟨rfl,by decide,by decide,rfl⟩ hY F (fun _ _ a ns hl _ hS=>⟨a,ns,rfl,hS,hl,fun _=>rfl⟩) fun _ _ _ _ _ z=>z
end Net
def PySem.W.Fast.tw11861025392959743815:Nat:=0
def PySem.W.Fast.tw14780864038558254930:Nat:=0
def PySem.W.Fast.tw11992860855735916035:Nat:=0
def PySem.W.Fast.tw10884649076139545515:Nat:=0
def PySem.W.Fast.tw8106386731966258743:Nat:=0
def PySem.W.Fast.tw1772814786183989569:Nat:=0
def PySem.W.Fast.tw8122848352060472996:Nat:=0
def PySem.W.Fast.tw12514545108435389643:Nat:=0
def PySem.W.Fast.tw1213920664398664202:Nat:=0
def PySem.W.Fast.tw8065772842060673920:Nat:=0
def PySem.W.Fast.tw9844519415688291774:Nat:=0
def PySem.W.Fast.tw17739028992553541819:Nat:=0
def PySem.W.Fast.tw13548302636370120570:Nat:=0
def PySem.W.Fast.tw8980636969996584468:Nat:=0
def PySem.W.Fast.tw3527479755742971317:Nat:=0
def PySem.W.Fast.tw3877197663729473495:Nat:=0
def PySem.W.Fast.tw16903114815515786482:Nat:=0
def PySem.W.Fast.tw9676278804379600411:Nat:=0
def PySem.W.Fast.tw8457434347932372061:Nat:=0
def PySem.W.Fast.tw18191407043971840047:Nat:=0
def PySem.W.Fast.tw102550468618892814:Nat:=0
def PySem.W.Fast.tw3157287098134460555:Nat:=0
def PySem.W.Fast.tw11816358163819331720:Nat:=0
def PySem.W.Fast.tw17871247294229770498:Nat:=0
def PySem.W.Fast.tw16772392893034497055:Nat:=0
def PySem.W.Fast.tw2605804725005618248:Nat:=0
def PySem.W.Fast.tw3443635589479410614:Nat:=0
def PySem.W.Fast.tw2166461682437646925:Nat:=0
def PySem.W.Fast.tw2813023646293762362:Nat:=0
def PySem.W.Fast.tw12211560354561581033:Nat:=0
def PySem.W.Fast.tw15928329185063940546:Nat:=0
def PySem.W.Fast.tw10882558645275192412:Nat:=0
def PySem.W.Fast.tw8222787259045945285:Nat:=0
def PySem.W.Fast.tw12997240327974593349:Nat:=0
def PySem.W.Fast.tw7042582021118090908:Nat:=0
def PySem.W.Fast.tw8791445701605490009:Nat:=0
def PySem.W.Fast.tw5476928053013179043:Nat:=0
def PySem.W.Fast.tw13917755383631243541:Nat:=0
def PySem.W.Fast.tw16330662445117325358:Nat:=0
def PySem.W.Fast.tw4125924622519155019:Nat:=0
def PySem.W.Fast.tw814996465181948840:Nat:=0
def PySem.W.Fast.tw12218342030284555650:Nat:=0
def PySem.W.Fast.tw4880759042612337348:Nat:=0
def PySem.W.Fast.tw6165365535956320712:Nat:=0
def PySem.W.Fast.tw14287544293328022194:Nat:=0
def PySem.W.Fast.tw4019570605457362200:Nat:=0
def PySem.W.Fast.tw17530176299273939786:Nat:=0
def PySem.W.Fast.tw485365614306014011:Nat:=0
def PySem.W.Fast.tw9660345333920590622:Nat:=0
def PySem.W.Fast.tw16135014711617855812:Nat:=0
def PySem.W.Fast.tw6619251198969249923:Nat:=0
def PySem.W.Fast.tw12323608052591484276:Nat:=0
def PySem.W.Fast.tw14025966560445835315:Nat:=0
def PySem.W.Fast.tw1293202552254646479:Nat:=0
def PySem.W.Fast.tw4644104794699043839:Nat:=0
def PySem.W.Fast.tw9200429806272288107:Nat:=0
def PySem.W.Fast.tw607998991121672443:Nat:=0
def PySem.W.Fast.tw17692681651272370347:Nat:=0
def PySem.W.Fast.tw13933641563122238766:Nat:=0
def PySem.W.Fast.tw12457196526910137951:Nat:=0
def PySem.W.Fast.tw9793748034834920984:Nat:=0
def PySem.W.Fast.tw1870202388232002840:Nat:=0
def PySem.W.Fast.tw17483259448478294531:Nat:=0
def PySem.W.Fast.tw5513241455885588669:Nat:=0
def PySem.W.Fast.tw10469187978501468698:Nat:=0
def PySem.W.Fast.tw1069507102855022017:Nat:=0
def PySem.W.Fast.tw17211249559576987704:Nat:=0
def PySem.W.Fast.tw9402077806970404407:Nat:=0
def PySem.W.Fast.tw14351173466958948720:Nat:=0
def PySem.W.Fast.tw3284436244500219506:Nat:=0
def PySem.W.Fast.tw9675400586650418960:Nat:=0
def PySem.W.Fast.tw1471781870273958780:Nat:=0
def PySem.W.Fast.tw16111016231282886236:Nat:=0
def PySem.W.Fast.tw307525707651629794:Nat:=0
def PySem.W.Fast.tw12532246223764294753:Nat:=0
def PySem.W.Fast.tw17473519545756135860:Nat:=0
def PySem.W.Fast.tw4233457351613145568:Nat:=0
def PySem.W.Fast.tw106631899978423348:Nat:=0
def PySem.W.Fast.tw100764378653768180:Nat:=0
def PySem.W.Fast.tw12749944354863273963:Nat:=0
def PySem.W.Fast.tw11266885291231970370:Nat:=0
def PySem.W.Fast.tw14529872611960901693:Nat:=0
def PySem.W.Fast.tw7894964435470542762:Nat:=0
def PySem.W.Fast.tw17631246508500435987:Nat:=0
def PySem.W.Fast.tw7906106437617307928:Nat:=0
def PySem.W.Fast.tw13898883615308286016:Nat:=0
def PySem.W.Fast.tw15235738793318733298:Nat:=0
def PySem.W.Fast.tw7021407368070507741:Nat:=0
def PySem.W.Fast.tw8927926737187223413:Nat:=0
def PySem.W.Fast.tw17866483202161761318:Nat:=0
def PySem.W.Fast.tw10417751235066991163:Nat:=0
def PySem.W.Fast.tw12832206357247680770:Nat:=0
def PySem.W.Fast.tw16784227280165827040:Nat:=0
def PySem.W.Fast.tw9471413540913682905:Nat:=0
def PySem.W.Fast.tw3631327391285944653:Nat:=0
def PySem.W.Fast.tw15215059002985748036:Nat:=0
def PySem.W.Fast.tw10461769526554907763:Nat:=0
def PySem.W.Fast.tw10491735144967170859:Nat:=0
def PySem.W.Fast.tw17143091791047063052:Nat:=0
def PySem.W.Fast.tw4492448066246458036:Nat:=0
def PySem.W.Fast.tw1725870878721751579:Nat:=0
def PySem.W.Fast.tw2421733557404425612:Nat:=0
def PySem.W.Fast.tw1783084244752853771:Nat:=0
def PySem.W.Fast.tw17359369592361639541:Nat:=0
def PySem.W.Fast.tw13241899482715513600:Nat:=0
def PySem.W.Fast.tw159005678970283151:Nat:=0
def PySem.W.Fast.tw13561337040330488243:Nat:=0
def PySem.W.Fast.tw11832956461842387185:Nat:=0
def PySem.W.Fast.tw16428794724334678336:Nat:=0
def PySem.W.Fast.tw11622586189368419881:Nat:=0
def PySem.W.Fast.tw4216500782528264162:Nat:=0
def PySem.W.Fast.tw15953051613829851060:Nat:=0
def PySem.W.Fast.tw12952199617848794160:Nat:=0
def PySem.W.Fast.tw14022571481884605426:Nat:=0
def PySem.W.Fast.tw12048263638815013135:Nat:=0
def PySem.W.Fast.tw16957228921023401626:Nat:=0
def PySem.W.Fast.tw7468153483601180916:Nat:=0
def PySem.W.Fast.tw14086364823806044890:Nat:=0
def PySem.W.Fast.tw5774345661515369947:Nat:=0
def PySem.W.Fast.tw15016203827072642874:Nat:=0
def PySem.W.Fast.tw17596625932026399009:Nat:=0
def PySem.W.Fast.tw3854558574274324732:Nat:=0
def PySem.W.Fast.tw442651366313088602:Nat:=0
def PySem.W.Fast.tw16295974961278088168:Nat:=0
def PySem.W.Fast.tw2379208272136150554:Nat:=0
def PySem.W.Fast.tw4071413100488503790:Nat:=0
def PySem.W.Fast.tw3368594382130928109:Nat:=0
def PySem.W.Fast.tw3968335223556345593:Nat:=0
def PySem.W.Fast.tw8731688929884258912:Nat:=0
def PySem.W.Fast.tw5989114379820599804:Nat:=0
def PySem.W.Fast.tw2860367388200181603:Nat:=0
def PySem.W.Fast.tw17013541251238577440:Nat:=0
def PySem.W.Fast.tw3897218306608629804:Nat:=0
def PySem.W.Fast.tw8334319937599875512:Nat:=0
def PySem.W.Fast.tw4629180676543444743:Nat:=0
def PySem.W.Fast.tw4571250310811392323:Nat:=0
def PySem.W.Fast.tw200342206914073734:Nat:=0
def PySem.W.Fast.tw4400876964284587161:Nat:=0
def PySem.W.Fast.tw13075225253100886350:Nat:=0
def PySem.W.Fast.tw2951483112980790915:Nat:=0
def PySem.W.Fast.tw460514176902740516:Nat:=0
def PySem.W.Fast.tw17058573081353377484:Nat:=0
def PySem.W.Fast.tw5427388365872707659:Nat:=0
def PySem.W.Fast.tw673880257473064585:Nat:=0
def PySem.W.Fast.tw10507682982959562766:Nat:=0
def PySem.W.Fast.tw5881109307655766682:Nat:=0
def PySem.W.Fast.tw13861507774214262997:Nat:=0
def PySem.W.Fast.tw7448984735674226090:Nat:=0
def PySem.W.Fast.tw2054291758839162888:Nat:=0
def PySem.W.Fast.tw4602759877737557763:Nat:=0
def PySem.W.Fast.tw6971374343251809178:Nat:=0
def PySem.W.Fast.tw10492140811660146727:Nat:=0
def PySem.W.Fast.tw16693604771414714704:Nat:=0
def PySem.W.Fast.tw2694053238369976730:Nat:=0
def PySem.W.Fast.tw5514815308972171938:Nat:=0
def PySem.W.Fast.tw5083568052239823333:Nat:=0
def PySem.W.Fast.tw9719016441169955312:Nat:=0
def PySem.W.Fast.tw10412942533210218003:Nat:=0
def PySem.W.Fast.tw9498691802567951810:Nat:=0
def PySem.W.Fast.tw14972353783001139773:Nat:=0
def PySem.W.Fast.tw12281075802827526928:Nat:=0
def PySem.W.Fast.tw4512681710636774809:Nat:=0
def PySem.W.Fast.tw8531432414439595425:Nat:=0
def PySem.W.Fast.tw5940830817425428682:Nat:=0
def PySem.W.Fast.tw3110733411776926101:Nat:=0
def PySem.W.Fast.tw2461792633531724835:Nat:=0
def PySem.W.Fast.tw15188512119312235938:Nat:=0
def PySem.W.Fast.tw6233162964739529849:Nat:=0
def PySem.W.Fast.tw5924797152037613460:Nat:=0
def PySem.W.Fast.tw15639171642082975390:Nat:=0
def PySem.W.Fast.tw15939694652521072513:Nat:=0
def PySem.W.Fast.tw17222912476308715847:Nat:=0
def PySem.W.Fast.tw4990899035088989361:Nat:=0
def PySem.W.Fast.tw5980816353987014920:Nat:=0
def PySem.W.Fast.tw17640997054771273716:Nat:=0
def PySem.W.Fast.tw9483618861299909096:Nat:=0
def PySem.W.Fast.tw803607497661435379:Nat:=0
def PySem.W.Fast.tw11439195324346354829:Nat:=0
def PySem.W.Fast.tw11727892051421238950:Nat:=0
def PySem.W.Fast.tw9257417191339384679:Nat:=0
def PySem.W.Fast.tw5152673295108253358:Nat:=0
def PySem.W.Fast.tw8384127087503747326:Nat:=0
def PySem.W.Fast.tw17331022709576289284:Nat:=0
def PySem.W.Fast.tw14128653150329800627:Nat:=0
def PySem.W.Fast.tw6603229311399951988:Nat:=0
def PySem.W.Fast.tw4512958954160835543:Nat:=0
def PySem.W.Fast.tw11554783265312232895:Nat:=0
def PySem.W.Fast.tw17627066184768446141:Nat:=0
def PySem.W.Fast.tw5300280653524358269:Nat:=0
def PySem.W.Fast.tw12626432629083190849:Nat:=0
def PySem.W.Fast.tw15573508169942368222:Nat:=0
def PySem.W.Fast.tw7554831523100194329:Nat:=0
def PySem.W.Fast.tw7132084842488460344:Nat:=0
def PySem.W.Fast.tw7228617857611189626:Nat:=0
def PySem.W.Fast.tw14642793016340355687:Nat:=0
def PySem.W.Fast.tw15993338782325001880:Nat:=0
def PySem.W.Fast.tw9841945948426750028:Nat:=0
def PySem.W.Fast.tw17352321322198824872:Nat:=0
def PySem.W.Fast.tw17441503046671287861:Nat:=0
def PySem.W.Fast.tw10889875597396922493:Nat:=0
def PySem.W.Fast.tw5426389781034020793:Nat:=0
def PySem.W.Fast.tw10760941535626160070:Nat:=0
def PySem.W.Fast.tw11184335989324439324:Nat:=0
def PySem.W.Fast.tw10991576393507417933:Nat:=0
def PySem.W.Fast.tw14843875217182262514:Nat:=0
def PySem.W.Fast.tw3608852543904962554:Nat:=0
def PySem.W.Fast.tw18375330253042024917:Nat:=0
def PySem.W.Fast.tw6247323179978676315:Nat:=0
def PySem.W.Fast.tw11713302186132784541:Nat:=0
def PySem.W.Fast.tw4256084098730835503:Nat:=0
def PySem.W.Fast.tw6080638843628775516:Nat:=0
def PySem.W.Fast.tw8151493221795342703:Nat:=0
def PySem.W.Fast.tw9181606352925792501:Nat:=0
def PySem.W.Fast.tw16020427731126892451:Nat:=0
def PySem.W.Fast.tw6671287499532356404:Nat:=0
def PySem.W.Fast.tw11189746191245712470:Nat:=0
def PySem.W.Fast.tw9440534974970787086:Nat:=0
def PySem.W.Fast.tw5313681605127802063:Nat:=0
def PySem.W.Fast.tw3912345326967691729:Nat:=0
def PySem.W.Fast.tw3375375909190149055:Nat:=0
def PySem.W.Fast.tw9704589503002941102:Nat:=0
def PySem.W.Fast.tw11898400191467738585:Nat:=0
def PySem.W.Fast.tw4039802801544764206:Nat:=0
def PySem.W.Fast.tw12416470899951562902:Nat:=0
def PySem.W.Fast.tw17171835720265659417:Nat:=0
def PySem.W.Fast.tw7456924456357424914:Nat:=0
def PySem.W.Fast.tw17502811238669719080:Nat:=0
def PySem.W.Fast.tw7867526792622715500:Nat:=0
def PySem.W.Fast.tw14931966567022626664:Nat:=0
def PySem.W.Fast.tw11707742459641343762:Nat:=0
def PySem.W.Fast.tw15883605421391197457:Nat:=0
def PySem.W.Fast.tw15894972280348613937:Nat:=0
def PySem.W.Fast.tw16901523561057865786:Nat:=0
def PySem.W.Fast.tw252288169958129344:Nat:=0
def PySem.W.Fast.tw18261989546852533277:Nat:=0
def PySem.W.Fast.tw7922024543359277742:Nat:=0
def PySem.W.Fast.tw15682326896410333160:Nat:=0
def PySem.W.Fast.tw10521076031139449706:Nat:=0
def PySem.W.Fast.tw174328278623344879:Nat:=0
def PySem.W.Fast.tw14270014574345029783:Nat:=0
def PySem.W.Fast.tw4164613867391335479:Nat:=0
def PySem.W.Fast.tw977670189678157743:Nat:=0
def PySem.W.Fast.tw3606349726368289350:Nat:=0
def PySem.W.Fast.tw1763442571125972516:Nat:=0
def PySem.W.Fast.tw14574254699742265894:Nat:=0
def PySem.W.Fast.tw5436233904202410010:Nat:=0
def PySem.W.Fast.tw17122024610063830715:Nat:=0
def PySem.W.Fast.tw18343893554702872348:Nat:=0
def PySem.W.Fast.tw14064312954119924441:Nat:=0
def PySem.W.Fast.tw17959224740480049811:Nat:=0
def PySem.W.Fast.tw1190646111536639874:Nat:=0
def PySem.W.Fast.tw7493855293274687395:Nat:=0
def PySem.W.Fast.tw6512164260248037965:Nat:=0
def PySem.W.Fast.tw3810911460898233746:Nat:=0
def PySem.W.Fast.tw6628107791107479480:Nat:=0
def PySem.W.Fast.tw4858098674122866937:Nat:=0
def PySem.W.Fast.tw16161088159612995137:Nat:=0
def PySem.W.Fast.tw13084320958606338866:Nat:=0
def PySem.W.Fast.tw7363885375103890443:Nat:=0
def PySem.W.Fast.tw9447356086560359929:Nat:=0
def PySem.W.Fast.tw12237629339866579922:Nat:=0
def PySem.W.Fast.tw13261673558082640463:Nat:=0
def PySem.W.Fast.tw17986101433597202804:Nat:=0
def PySem.W.Fast.tw11387572298584430906:Nat:=0
def PySem.W.Fast.tw16958842214619956941:Nat:=0
def PySem.W.Fast.tw10102929815052684451:Nat:=0
def PySem.W.Fast.tw10086180021008725181:Nat:=0
def PySem.W.Fast.tw5787762968236546044:Nat:=0
def PySem.W.Fast.tw16203217755445874034:Nat:=0
def PySem.W.Fast.tw4291191008818041129:Nat:=0
def PySem.W.Fast.tw10146149920050031697:Nat:=0
def PySem.W.Fast.tw7612385050053579570:Nat:=0
def PySem.W.Fast.tw18150012510313189211:Nat:=0
def PySem.W.Fast.tw17716061981833795124:Nat:=0
def PySem.W.Fast.tw2102379574272173501:Nat:=0
def PySem.W.Fast.tw3788105671952927322:Nat:=0
def PySem.W.Fast.tw4240555266474955451:Nat:=0
def PySem.W.Fast.tw16417285447175033747:Nat:=0
def PySem.W.Fast.tw13271497833408417723:Nat:=0
def PySem.W.Fast.tw1385894245402457187:Nat:=0
def PySem.W.Fast.tw17696161905229248354:Nat:=0
def PySem.W.Fast.tw18108816642616336540:Nat:=0
def PySem.W.Fast.tw5195899219110222508:Nat:=0
def PySem.W.Fast.tw15249515321971320687:Nat:=0
def PySem.W.Fast.tw2428721020599256852:Nat:=0
def PySem.W.Fast.tw5180426026869845311:Nat:=0
def PySem.W.Fast.tw14118770793613166259:Nat:=0
def PySem.W.Fast.tw7900637752881713921:Nat:=0
def PySem.W.Fast.tw4926905986946973539:Nat:=0
def PySem.W.Fast.tw2482777439884534138:Nat:=0
def PySem.W.Fast.tw11742262440632616227:Nat:=0
def PySem.W.Fast.tw11440173516114133347:Nat:=0
def PySem.W.Fast.tw832744704611738036:Nat:=0
def PySem.W.Fast.tw13433596988973889024:Nat:=0
def PySem.W.Fast.tw12647383002676238183:Nat:=0
def PySem.W.Fast.tw12266423393821303303:Nat:=0
def PySem.W.Fast.tw5089790626997314167:Nat:=0
def PySem.W.Fast.tw3086640533803281072:Nat:=0
def PySem.W.Fast.tw6072553572954596488:Nat:=0
def PySem.W.Fast.tw11608742528013913710:Nat:=0
def PySem.W.Fast.tw6501785489251039748:Nat:=0
def PySem.W.Fast.tw12815389187521379865:Nat:=0
def PySem.W.Fast.tw10534532928962623919:Nat:=0
def PySem.W.Fast.tw12773591479773122341:Nat:=0
def PySem.W.Fast.tw3530925205663097450:Nat:=0
def PySem.W.Fast.tw903790117237684886:Nat:=0
def PySem.W.Fast.tw13705416727461132779:Nat:=0
def PySem.W.Fast.tw2722239678314848540:Nat:=0
def PySem.W.Fast.tw12467852319376969848:Nat:=0
def PySem.W.Fast.tw15094185443216425924:Nat:=0
def PySem.W.Fast.tw11897552423842555791:Nat:=0
def PySem.W.Fast.tw9393931164956875439:Nat:=0
def PySem.W.Fast.tw11068013355679561722:Nat:=0
def PySem.W.Fast.tw14714193548626665252:Nat:=0
def PySem.W.Fast.tw6877164194462036650:Nat:=0
def PySem.W.Fast.tw9140572472161168352:Nat:=0
def PySem.W.Fast.tw7218179242993786267:Nat:=0
def PySem.W.Fast.tw14982068418076729327:Nat:=0
def PySem.W.Fast.tw1226331772903822003:Nat:=0
def PySem.W.Fast.tw15385520055019756554:Nat:=0
def PySem.W.Fast.tw3067221788651615817:Nat:=0
def PySem.W.Fast.tw991750671803588886:Nat:=0
def PySem.W.Fast.tw15074576760191721332:Nat:=0
def PySem.W.Fast.tw4362199108813970431:Nat:=0
def PySem.W.Fast.tw5362828343364611551:Nat:=0
def PySem.W.Fast.tw16753597155388438947:Nat:=0
def PySem.W.Fast.tw5781024826607961313:Nat:=0
def PySem.W.Fast.tw1726677481001064380:Nat:=0
def PySem.W.Fast.tw5157669050499283246:Nat:=0
def PySem.W.Fast.tw10791051531584208877:Nat:=0
def PySem.W.Fast.tw18059665294533465375:Nat:=0
def PySem.W.Fast.tw8046351404229171274:Nat:=0
def PySem.W.Fast.tw12727542957427927534:Nat:=0
def PySem.W.Fast.tw14698874799170256139:Nat:=0
def PySem.W.Fast.tw13002624071593816263:Nat:=0
def PySem.W.Fast.tw10866997154669124917:Nat:=0
def PySem.W.Fast.tw12630037222455571391:Nat:=0
def PySem.W.Fast.tw3217918069074414178:Nat:=0
def PySem.W.Fast.tw6499362589175439193:Nat:=0
def PySem.W.Fast.tw9019294489830015240:Nat:=0
def PySem.W.Fast.tw7017369174886575536:Nat:=0
def PySem.W.Fast.tw2389719521327353469:Nat:=0
open PySem PySem.W PyProof.Rows
set_option maxRecDepth 100000 in
set_option maxHeartbeats 0 in
theorem PySem.Challenge.cw_netcourt_k81_claims_as_texts_holds : PySem.Challenge.rw_netcourt_k81_claims_as_texts.Holds := by
 w_on; o_law; k_head; (case hw=>w_witness2)
 k_fill
 first | refine Net.walk (l:=PySem.Challenge.rw_netcourt_k81_claims_as_texts) rfl rfl (fun w h Y=>PySem.W.kIn_of Y) ?F | refine Net.walk (l:=PySem.Challenge.rw_netcourt_k81_claims_as_texts) rfl rfl (fun w h Y=>PySem.W.km_in_of Y) ?F
 case F =>
  intro w mg fa h KX G hmg
  refine' Net.all_mk KX G hmg ?aC ?a0 ?l0 ?c0 ?k0 ?a1 ?l1 ?c1 ?k1 ?a2 ?l2 ?c2 ?k2 ?a3 ?l3 ?c3 ?k3 ?a4 ?l4 ?c4 ?k4 ?a5 ?l5 ?c5 ?k5 ?a6 ?l6 ?c6 ?k6 ?a7 ?l7 ?c7 ?k7 ?a8 ?l8 ?c8 ?k8 ?a9 ?l9 ?c9 ?k9 ?a10 ?l10 ?c10 ?k10 ?a11 ?l11 ?c11 ?k11 ?a12 ?i12 ?l12 ?c12 ?k12 ?a13 ?i13 ?l13 ?c13 ?k13 ?a14 ?i14 ?l14 ?c14 ?k14 ?a15 ?i15 ?l15 ?c15 ?k15 ?a16 ?l16 ?c16 ?k16 ?a17 ?l17 ?c17 ?k17 ?a18 ?l18 ?c18 ?k18 ?a19 ?l19 ?c19 ?k19 ?a20 ?l20 ?c20 ?k20 ?a21 ?l21 ?c21 ?k21 ?a22 ?l22 ?c22 ?k22 ?a23 ?l23 ?c23 ?k23 ?a24 ?l24 ?c24 ?k24 ?a25 ?l25 ?c25 ?k25 ?a26 ?l26 ?c26 ?k26 ?a27 ?l27 ?c27 ?k27 ?a28 ?l28 ?c28 ?k28 ?a29 ?l29 ?c29 ?k29 ?a30 ?l30 ?c30 ?k30 ?a31 ?l31 ?c31 ?k31 ?a32 ?l32 ?c32 ?k32 ?a33 ?l33 ?c33 ?k33 ?a34 ?l34 ?c34 ?k34 ?a35 ?l35 ?c35 ?k35 ?a36 ?l36 ?c36 ?k36 ?a37 ?l37 ?c37 ?k37 ?a38 ?l38 ?c38 ?k38 ?a39 ?l39 ?c39 ?k39 ?a40 ?l40 ?c40 ?k40 ?a41 ?l41 ?c41 ?k41 ?a42 ?l42 ?c42 ?k42 ?a43 ?l43 ?c43 ?k43 ?a44 ?l44 ?c44 ?k44 ?a45 ?l45 ?c45 ?k45 ?a46 ?l46 ?c46 ?k46 ?aL ?lL ?cL ?kL ?pg ?hd ?po ?sa ?mk ?kc ?nS ?nL ?z_all ?z_isinstance ?z_str ?z_int ?z_bool ?z_list ?z_tuple ?z_len ?z_range ?z_abs ?z_max ?m0 ?x0 ?xm0 ?aSW ?lSW ?zSW ?vSW ?aTW ?lTW ?zTW ?vTW ?aNB ?sNB ?lNB ?gS ?rS ?gN ?rN ?gP ?rP ?gM ?rM ?gD ?rD ?gG ?rG ?gV ?rV ?gL ?rL
  (case aC=>k_is)
  (case a0=>k_is)
  (case l0=>k_is)
  (case c0=>k_is)
  (case k0=>k_is)
  (case a1=>k_is)
  (case l1=>k_is)
  (case c1=>k_is)
  (case k1=>k_is)
  (case a2=>k_is)
  (case l2=>k_is)
  (case c2=>k_is)
  (case k2=>k_is)
  (case a3=>k_is)
  (case l3=>k_is)
  (case c3=>k_is)
  (case k3=>k_is)
  (case a4=>k_is)
  (case l4=>k_is)
  (case c4=>k_is)
  (case k4=>k_is)
  (case a5=>k_is)
  (case l5=>k_is)
  (case c5=>k_is)
  (case k5=>k_is)
  (case a6=>k_is)
  (case l6=>k_is)
  (case c6=>k_is)
  (case k6=>k_is)
  (case a7=>k_is)
  (case l7=>k_is)
  (case c7=>k_is)
  (case k7=>k_is)
  (case a8=>k_is)
  (case l8=>k_is)
  (case c8=>k_is)
  (case k8=>k_is)
  (case a9=>k_is)
  (case l9=>k_is)
  (case c9=>k_is)
  (case k9=>k_is)
  (case a10=>k_is)
  (case l10=>k_is)
  (case c10=>k_is)
  (case k10=>k_is)
  (case a11=>k_is)
  (case l11=>k_is)
  (case c11=>k_is)
  (case k11=>k_is)
  (case a12=>k_is)
  (case i12=>k_is)
  (case l12=>k_is)
  (case c12=>k_is)
  (case k12=>k_is)
  (case a13=>k_is)
  (case i13=>k_is)
  (case l13=>k_is)
  (case c13=>k_is)
  (case k13=>k_is)
  (case a14=>k_is)
  (case i14=>k_is)
  (case l14=>k_is)
  (case c14=>k_is)
  (case k14=>k_is)
  (case a15=>k_is)
  (case i15=>k_is)
  (case l15=>k_is)
  (case c15=>k_is)
  (case k15=>k_is)
  (case a16=>k_is)
  (case l16=>k_is)
  (case c16=>k_is)
  (case k16=>k_is)
  (case a17=>k_is)
  (case l17=>k_is)
  (case c17=>k_is)
  (case k17=>k_is)
  (case a18=>k_is)
  (case l18=>k_is)
  (case c18=>k_is)
  (case k18=>k_is)
  (case a19=>k_is)
  (case l19=>k_is)
  (case c19=>k_is)
  (case k19=>k_is)
  (case a20=>k_is)
  (case l20=>k_is)
  (case c20=>k_is)
  (case k20=>k_is)
  (case a21=>k_is)
  (case l21=>k_is)
  (case c21=>k_is)
  (case k21=>k_is)
  (case a22=>k_is)
  (case l22=>k_is)
  (case c22=>k_is)
  (case k22=>k_is)
  (case a23=>k_is)
  (case l23=>k_is)
  (case c23=>k_is)
  (case k23=>k_is)
  (case a24=>k_is)
  (case l24=>k_is)
  (case c24=>k_is)
  (case k24=>k_is)
  (case a25=>k_is)
  (case l25=>k_is)
  (case c25=>k_is)
  (case k25=>k_is)
  (case a26=>k_is)
  (case l26=>k_is)
  (case c26=>k_is)
  (case k26=>k_is)
  (case a27=>k_is)
  (case l27=>k_is)
  (case c27=>k_is)
  (case k27=>k_is)
  (case a28=>k_is)
  (case l28=>k_is)
  (case c28=>k_is)
  (case k28=>k_is)
  (case a29=>k_is)
  (case l29=>k_is)
  (case c29=>k_is)
  (case k29=>k_is)
  (case a30=>k_is)
  (case l30=>k_is)
  (case c30=>k_is)
  (case k30=>k_is)
  (case a31=>k_is)
  (case l31=>k_is)
  (case c31=>k_is)
  (case k31=>k_is)
  (case a32=>k_is)
  (case l32=>k_is)
  (case c32=>k_is)
  (case k32=>k_is)
  (case a33=>k_is)
  (case l33=>k_is)
  (case c33=>k_is)
  (case k33=>k_is)
  (case a34=>k_is)
  (case l34=>k_is)
  (case c34=>k_is)
  (case k34=>k_is)
  (case a35=>k_is)
  (case l35=>k_is)
  (case c35=>k_is)
  (case k35=>k_is)
  (case a36=>k_is)
  (case l36=>k_is)
  (case c36=>k_is)
  (case k36=>k_is)
  (case a37=>k_is)
  (case l37=>k_is)
  (case c37=>k_is)
  (case k37=>k_is)
  (case a38=>k_is)
  (case l38=>k_is)
  (case c38=>k_is)
  (case k38=>k_is)
  (case a39=>k_is)
  (case l39=>k_is)
  (case c39=>k_is)
  (case k39=>k_is)
  (case a40=>k_is)
  (case l40=>k_is)
  (case c40=>k_is)
  (case k40=>k_is)
  (case a41=>k_is)
  (case l41=>k_is)
  (case c41=>k_is)
  (case k41=>k_is)
  (case a42=>k_is)
  (case l42=>k_is)
  (case c42=>k_is)
  (case k42=>k_is)
  (case a43=>k_is)
  (case l43=>k_is)
  (case c43=>k_is)
  (case k43=>k_is)
  (case a44=>k_is)
  (case l44=>k_is)
  (case c44=>k_is)
  (case k44=>k_is)
  (case a45=>k_is)
  (case l45=>k_is)
  (case c45=>k_is)
  (case k45=>k_is)
  (case a46=>k_is)
  (case l46=>k_is)
  (case c46=>k_is)
  (case k46=>k_is)
  (case aL=>k_is)
  (case lL=>k_is)
  (case cL=>k_is)
  (case kL=>k_is)
  (case pg=>k_is)
  (case hd=>k_is)
  (case po=>k_is)
  (case sa=>k_is)
  (case mk=>k_is)
  (case kc=>k_is)
  (case nS=>k_is)
  (case nL=>k_is)
  (case z_all=>k_is)
  (case z_isinstance=>k_is)
  (case z_str=>k_is)
  (case z_int=>k_is)
  (case z_bool=>k_is)
  (case z_list=>k_is)
  (case z_tuple=>k_is)
  (case z_len=>k_is)
  (case z_range=>k_is)
  (case z_abs=>k_is)
  (case z_max=>k_is)
  (case m0=>k_is)
  (case x0=>k_exc)
  (case xm0=>kts_exm)
  (case aSW=>k_is)
  (case lSW=>k_is)
  (case zSW=>decide)
  (case vSW=>exact Net.vals_lit rfl)
  (case aTW=>k_is)
  (case lTW=>k_is)
  (case zTW=>decide)
  (case vTW=>exact Net.vals_lit rfl)
  (case aNB=>k_is)
  (case sNB=>decide)
  (case lNB=>k_is)
  (case gS=>k_is)
  (case rS=>exact ⟨_,rfl⟩)
  (case gN=>k_is)
  (case rN=>exact ⟨_,rfl⟩)
  (case gP=>k_is)
  (case rP=>exact ⟨_,rfl⟩)
  (case gM=>k_is)
  (case rM=>exact ⟨_,rfl⟩)
  (case gD=>k_is)
  (case rD=>exact ⟨_,rfl⟩)
  (case gG=>k_is)
  (case rG=>exact ⟨_,rfl⟩)
  (case gV=>k_is)
  (case rV=>exact ⟨_,rfl⟩)
  (case gL=>k_is)
  (case rL=>exact ⟨_,rfl⟩)
