import PyProof.Rows.All
import Wide.All
import OpenK.AllK
import Wide.FinOn
import Lean
import PyProof.EqAt
import PyProof.EqKinds
import PyProof.TupleCall
import PyProof.ZipIter
import PyProof.DictIter
import PyProof.DictWalks
import PyProof.CollectWalk
import PyProof.Rows.SetFrom
import PyProof.FactsAll.set_1
import PyProof.Rows.SortStr
import PyProof.DictItems
import KE.KDictList
import PyProof.AttrMissHeap
import PyProof.DictList
import KE.KDictOf
import PyProof.MeetsStr
import PyProof.StrOps2
import PySem.Challenge.RW_beatwright_k55_gates_put
set_option Elab.async false
set_option linter.all false
set_option maxRecDepth 100000
set_option compiler.extract_closed false
noncomputable section
namespace L2
open PySem PySem.Spec PyProof.Rows
abbrev Key:=Sum Int Str
def keyIs:Key->Value->Bool
 | .inl k,v=>Value.isInt k v
 | .inr x,v=>Value.isStrOf x v
def keyH (w:World):Key->Int
 | .inl k=>hashInt k
 | .inr x=>hashStr w x
theorem keyIs_shape:∀ {k:Key}{v:Value},keyIs k v=true->(∃ i t,k=Sum.inl i/\v=Value.int i t)\/(∃ x t,k=Sum.inr x/\v=Value.str x t)
 | .inl i,v,h=>by
  obtain ⟨t,e⟩:=Value.isInt_shape (k:=i) (v:=v) h
  exact .inl ⟨i,t,rfl,e⟩
 | .inr x,v,h=>by
  obtain ⟨t,e⟩:=Value.isStrOf_shape (x:=x) (v:=v) h
  exact .inr ⟨x,t,rfl,e⟩
theorem keyIs_int (i:Int) (t:Tok):keyIs (.inl i) (.int i t)=true:=by simp [keyIs,Value.isInt]
theorem keyIs_str (x:Str) (t:Tok):keyIs (.inr x) (.str x t)=true:=by simp [keyIs,Value.isStrOf]
theorem key_ll (a b:Int):decide ((Sum.inl a:Key)=Sum.inl b)=(a == b):=by
 by_cases e:a=b
 ·subst e;simp
 ·have h:¬ (Sum.inl a:Key)=Sum.inl b:=fun q=>e (Sum.inl.inj q)
  rw [decide_eq_false h]
  exact (beq_eq_false_iff_ne.mpr e).symm
theorem key_rr (a b:Str):decide ((Sum.inr a:Key)=Sum.inr b)=decide (a=b):=by
 by_cases e:a=b
 ·subst e;simp
 ·have h:¬ (Sum.inr a:Key)=Sum.inr b:=fun q=>e (Sum.inr.inj q)
  rw [decide_eq_false h,decide_eq_false e]
theorem key_lr (a:Int) (b:Str):decide ((Sum.inl a:Key)=Sum.inr b)=false:=decide_eq_false (fun q=>nomatch q)
theorem key_rl (a:Str) (b:Int):decide ((Sum.inr a:Key)=Sum.inl b)=false:=decide_eq_false (fun q=>nomatch q)
def mixKind (prog:Program) (w:World):PySem.KeyKind prog w Key where
 is:=keyIs
 hash:=keyH w
 inj:=fun v a b ha hb=>by
  rcases keyIs_shape ha with ⟨i,t,rfl,rfl⟩|⟨x,t,rfl,rfl⟩
  ·rcases keyIs_shape hb with ⟨j,u,rfl,e⟩|⟨y,u,rfl,e⟩
   ·injection e with e1 _;rw [e1]
   ·exact nomatch e
  ·rcases keyIs_shape hb with ⟨j,u,rfl,e⟩|⟨y,u,rfl,e⟩
   ·exact nomatch e
   ·injection e with e1 _;rw [e1]
 byValue:=fun k v h=>by
  rcases keyIs_shape h with ⟨i,t,rfl,rfl⟩|⟨x,t,rfl,rfl⟩<;>rfl
 pyHash:=fun hv h=>by
  rcases keyIs_shape hv with ⟨i,t,rfl,rfl⟩|⟨x,t,rfl,rfl⟩
  ·exact wpAny_pyHash_int h
  ·exact wpAny_pyHash_str h
 eqBool:=fun hu hv h=>by
  rcases keyIs_shape hu with ⟨i,t,rfl,rfl⟩|⟨x,t,rfl,rfl⟩
  ·rcases keyIs_shape hv with ⟨j,u,rfl,rfl⟩|⟨y,u,rfl,rfl⟩
   ·rw [key_ll] at h;exact wpAny_eqBool_int h
   ·rw [key_lr] at h;exact SeqAt.EqAt.int_str i t y u _ _ _ _ h
  ·rcases keyIs_shape hv with ⟨j,u,rfl,rfl⟩|⟨y,u,rfl,rfl⟩
   ·rw [key_rl] at h;exact SeqAt.EqAt.str_int x t j u _ _ _ _ h
   ·rw [key_rr] at h;exact wpAny_eqBool_str h
 «strs»:=fun k x t v h=>by
  rcases keyIs_shape h with ⟨i,u,rfl,e⟩|⟨y,u,rfl,e⟩
  ·exact nomatch e
  ·injection e with e1 _
   subst e1
   cases v<;>rfl
theorem mixKind_int (prog:Program) (w:World) (i:Int) (t:Tok):(mixKind prog w).is (.inl i) (.int i t)=true:=keyIs_int i t
theorem mixKind_str (prog:Program) (w:World) (x:Str) (t:Tok):(mixKind prog w).is (.inr x) (.str x t)=true:=keyIs_str x t
inductive V where
 | non | bl (b:Bool) | int (i:Int) | str (x:Str) | byt (b:Array UInt8) | flt (b:UInt64) | ref (a:Addr) | ty (n:String)
 deriving DecidableEq
def RelV:V->Value->Prop
 | .non,u=>u=Value.none
 | .bl b,u=>u=Value.bool b
 | .int i,u=>∃ t,u=Value.int i t
 | .str x,u=>∃ t,u=Value.str x t
 | .byt b,u=>∃ t,u=Value.bytes b t
 | .flt b,u=>∃ t,u=Value.float b t
 | .ref a,u=>u=Value.ref a
 | .ty n,u=>u=Value.type n
abbrev Vals:List V->List Value->Prop:=Paired RelV
theorem Vals.length {xs:List V}{us:List Value}(r:Vals xs us):xs.length=us.length:=Paired.length r
theorem Vals.get:∀ {xs:List V}{us:List Value}{i:Nat}{x:V},Vals xs us->xs[i]? = some x->∃ u,us[i]? = some u/\RelV x u
 | _,_,_,_,.nil,e=>by simp at e
 | _,_,0,_,.cons r _,e=>by simp at e;subst e;exact ⟨_,rfl,r⟩
 | _,_,i+1,x,.cons _ t,e=>by
  obtain ⟨u,h1,h2⟩:=Vals.get (i:=i) (x:=x) t (by simpa using e)
  exact ⟨u,by simpa using h1,h2⟩
theorem Vals.set {x:V}{u:Value}(r:RelV x u):∀ {xs:List V}{us:List Value}(i:Nat),Vals xs us->Vals (xs.set i x) (us.set i u)
 | _,_,_,.nil=>.nil
 | _,_,0,.cons _ t=>.cons r t
 | _,_,i+1,.cons q t=>.cons q (Vals.set r i t)
theorem Vals.append:∀ {xs ys:List V}{us ws:List Value},Vals xs us->Vals ys ws->Vals (xs++ys) (us++ws)
 | _,_,_,_,.nil,s=>s
 | _,_,_,_,.cons r t,s=>.cons r (Vals.append t s)
theorem Vals.take:∀ {xs:List V}{us:List Value}(n:Nat),Vals xs us->Vals (xs.take n) (us.take n)
 | _,_,0,_=>.nil
 | _,_,_+1,.nil=>.nil
 | _,_,n+1,.cons r t=>.cons r (Vals.take n t)
theorem Vals.drop:∀ {xs:List V}{us:List Value}(n:Nat),Vals xs us->Vals (xs.drop n) (us.drop n)
 | _,_,0,r=>r
 | _,_,_+1,.nil=>.nil
 | _,_,n+1,.cons _ t=>Vals.drop n t
theorem Vals.none_of:∀ {xs:List V}{us:List Value}{i:Nat},Vals xs us->xs[i]? = none->us[i]? = none:=fun {xs us i} r e=>by
 have h1:=r.length
 have h2:xs.length<=i:=List.getElem?_eq_none_iff.mp e
 exact List.getElem?_eq_none_iff.mpr (by omega)
def RelO:Option V->Option Value->Prop
 | some v,some u=>RelV v u
 | none,none=>True
 | _,_=>False
def KV {κ:Type}:List (κ×V)->List (κ×Value)->Prop:=Paired fun (p:κ×V) (q:κ×Value)=>p.1=q.1/\RelV p.2 q.2
def kV:Key->V
 | .inl i=>.int i
 | .inr x=>.str x
inductive HO where
  | lst (xs:List V)
  | tup (xs:List V)
  | dK (kvs:List (Key×V)) | dT (kvs:List (List Key×V))
  | set (S:Int->Bool) (n:Nat)
  | ins (C dx:Addr) (fs:List (Str×V))
  | own (x:Addr)
  | xd (fs:List (Str×V))
  | met (f x:Addr)
  | rng (lo hi:Int)
  | frz (o:Obj) (u:HO)
  | tbl (ps:Array Value)
  | ext (φ:Heap->Prop)
abbrev Hp:=Addr->Option HO
def upd (H:Hp) (a:Addr) (o:HO):Hp:=fun b=>if b=a then some o else H b
theorem upd_same {H:Hp}{a:Addr}{o:HO}:upd H a o a=some o:=by unfold upd;rw [if_pos rfl]
theorem upd_ne {H:Hp}{a b:Addr}{o:HO}(h:b≠a):upd H a o b=H b:=by unfold upd;rw [if_neg h]
theorem ne_of {H:Hp}{a b:Addr}{o u:HO}(h:H a=some o) (h':H b=some u) (d:o≠u):a≠b:=by
 intro e;subst e;rw [h] at h';exact d (Option.some.inj h')
theorem ne_of_none {H:Hp}{a b:Addr}{o:HO}(h:H a=some o) (h':H b=none):a≠b:=by
 intro e;subst e;rw [h] at h';cases h'
section
variable (P:Program) (w:World)
def ObjOk (H:Hp) (h:Heap) (a:Addr):HO->Prop
 | .lst xs=>xs.length<=sizeLine/\∃ (its:List Value) (n:Nat),Vals xs its/\h.get? a=some { cls:=.type "list",data:=.seq its.toArray n }
 | .tup xs=>xs.length<=sizeLine/\∃ its:List Value,Vals xs its/\IsTup h a its.toArray
 | .dK kvs=>kvs.length<=sizeLine/\(a == sysModules)=false/\∃ vs,KV kvs vs/\h.DictOf (mixKind P w) a vs
 | .dT kvs=>kvs.length<=sizeLine/\(a == sysModules)=false/\∃ xs:List (List Key×Addr×Value),
   Paired (fun (p:List Key×V) (q:List Key×Addr×Value)=>p.1=q.1/\H q.2.1=some (.tup (p.1.map kV))/\RelV p.2 q.2.2) kvs xs /\
   ∃ o es ep,h.get? a=some o/\o.ExactDict/\o.data=.dict es ep/\es.toList=xs.map (entryOfKey (tupleKind (mixKind P w)))/\(xs.map (·.1)).Nodup
 | .set S n=>h.SetOf (intKind P w) a S n
 | .ins C dx fs=>H dx=some (.own a)/\fs.length<=1000/\dx≠a/\h.get? a=some (PySem.W.instObj C dx) /\
   ∃ mA,h.Ns1 dx mA/\(∀ f,RelO (fs.lookup f) (mA f))/\PySem.Within mA (fs.map (·.1))
 | .own _=>∃ o,h.get? a=some o
 | .xd fs=>∃ mA,h.Ns1 a mA/\∀ f,RelO (fs.lookup f) (mA f)
 | .rng lo hi=>∃ t u v,h.get? a=some { cls:=.type "range",data:=.fields #[.int lo t,.int hi u,.int 1 v] }
 | .frz o u=>h.get? a=some o/\ObjOk H h a u
 | .tbl ps=>h.get? a=some { cls:=.none,data:=.fields ps }
 | .met f x=>h.get? a=some (PySem.W.methodObj (.ref f) (.ref x))
 | .ext φ=>φ h/\(∃ o,h.get? a=some o)/\∀ h1 h2:Heap,φ h1->(∀ o,h1.get? a=some o->h2.get? a=some o)->φ h2
def HOk (H:Hp) (h:Heap):Prop:=∀ a o,H a=some o->ObjOk P w H h a o
end
section
variable {P:Program}{w:World}{H H':Hp}{h h':Heap}{a:Addr}{o:HO}
theorem ObjOk.lt (x:ObjOk P w H h a o):a<h.objs.size:=by
 cases o with
 | lst xs=>obtain ⟨_,_,_,_,e⟩:=x;exact Heap.lt_size e
 | tup xs=>obtain ⟨_,_,_,p⟩:=x;exact p.lt
 | dK kvs=>obtain ⟨_,_,_,_,o,_,_,e,_⟩:=x;exact Heap.lt_size e
 | dT kvs=>obtain ⟨_,_,_,_,o,_,_,e,_⟩:=x;exact Heap.lt_size e
 | set S n=>obtain ⟨o,_,_,_,e,_⟩:=x;exact Heap.lt_size e
 | ins C dx fs=>obtain ⟨_,_,_,e,_⟩:=x;exact Heap.lt_size e
 | own y=>obtain ⟨_,e⟩:=x;exact Heap.lt_size e
 | xd fs=>obtain ⟨_,⟨_,_,_,e,_⟩,_⟩:=x;exact Heap.lt_size e
 | rng lo hi=>obtain ⟨_,_,_,e⟩:=x;exact Heap.lt_size e
 | frz ob u=>obtain ⟨e,_⟩:=x;exact Heap.lt_size e
 | tbl ps=>exact Heap.lt_size (show h.get? a=some _ from x)
 | met f y=>exact Heap.lt_size (show h.get? a=some _ from x)
 | ext φ=>obtain ⟨_,⟨_,e⟩,_⟩:=x;exact Heap.lt_size e
theorem Paired.mapP {α β:Type}{F G:α->β->Prop}:∀ {l₁:List α}{l₂:List β},Paired F l₁ l₂->(∀ a b,F a b->G a b)->Paired G l₁ l₂
 | _,_,.nil,_=>.nil
 | _,_,.cons r t,f=>.cons (f _ _ r) (Paired.mapP t f)
theorem ObjOk.stay (x:ObjOk P w H h a o) (k:∀ b u,(b=a\/H b=some (.own a))->h.get? b=some u->h'.get? b=some u)
  (ho:∀ b,H b=some (.own a)->H' b=some (.own a)) (ht:∀ b xs,H b=some (.tup xs)->H' b=some (.tup xs)):ObjOk P w H' h' a o:=by
 induction o with
 | lst xs=>obtain ⟨z,its,n,r,e⟩:=x;exact ⟨z,its,n,r,k _ _ (.inl rfl) e⟩
 | tup xs=>obtain ⟨z,its,r,ob,e,c⟩:=x;exact ⟨z,its,r,ob,k _ _ (.inl rfl) e,c⟩
 | dK kvs=>obtain ⟨z,y,vs,r,ob,es,ep,e,c⟩:=x;exact ⟨z,y,vs,r,ob,es,ep,k _ _ (.inl rfl) e,c⟩
 | dT kvs =>
  obtain ⟨z,y,xs,r,ob,es,ep,e,c⟩:=x
  exact ⟨z,y,xs,Paired.mapP r fun p q z=>⟨z.1,ht _ _ z.2.1,z.2.2⟩,ob,es,ep,k _ _ (.inl rfl) e,c⟩
 | set S n=>obtain ⟨ob,es,ep,t,e,c⟩:=x;exact ⟨ob,es,ep,t,k _ _ (.inl rfl) e,c⟩
 | ins C dx fs =>
  obtain ⟨d,z,ne,e,mA,⟨od,es,ep,e2,c⟩,r⟩:=x
  exact ⟨ho _ d,z,ne,k _ _ (.inl rfl) e,mA,⟨od,es,ep,k _ _ (.inr d) e2,c⟩,r⟩
 | own y=>obtain ⟨ob,e⟩:=x;exact ⟨ob,k _ _ (.inl rfl) e⟩
 | xd fs=>obtain ⟨mA,⟨od,es,ep,e,c⟩,r⟩:=x;exact ⟨mA,⟨od,es,ep,k _ _ (.inl rfl) e,c⟩,r⟩
 | rng lo hi=>obtain ⟨t,u,v,e⟩:=x;exact ⟨t,u,v,k _ _ (.inl rfl) e⟩
 | frz ob u ih=>obtain ⟨e,q⟩:=x;exact ⟨k _ _ (.inl rfl) e,ih q⟩
 | tbl ps =>
  have e:h.get? a=some { cls:=.none,data:=.fields ps }:=x
  show h'.get? a=some { cls:=.none,data:=.fields ps }
  exact k a _ (.inl rfl) e
 | met f y =>
  have e:h.get? a=some (PySem.W.methodObj (.ref f) (.ref y)):=x
  show h'.get? a=some (PySem.W.methodObj (.ref f) (.ref y))
  exact k a _ (.inl rfl) e
 | ext φ=>obtain ⟨p,⟨o,e⟩,st⟩:=x;exact ⟨st _ _ p fun o q=>k _ _ (.inl rfl) q,⟨o,k _ _ (.inl rfl) e⟩,st⟩
theorem HOk.lt (x:HOk P w H h) (e:H a=some o):a<h.objs.size:=(x a o e).lt
theorem HOk.fresh (x:HOk P w H h) (e:h.objs.size<=a):H a=none:=by
 cases q:H a with
 | none=>rfl
 | some u=>exact absurd (Nat.lt_of_lt_of_le (x.lt q) e) (Nat.lt_irrefl _)
theorem HOk.kept (x:HOk P w H h) (k:∀ b u,h.get? b=some u->h'.get? b=some u):HOk P w H h':=fun a o e =>
 (x a o e).stay (fun b u _ q=>k b u q) (fun _ q=>q) fun _ _ q=>q
theorem HOk.laid (x:HOk P w H h) (k:∀ b u,h.get? b=some u->h'.get? b=some u) (hp:h.objs.size<=a) (new:ObjOk P w (upd H a o) h' a o):HOk P w (upd H a o) h':=fun b u e=>by
 have hn:=x.fresh hp
 by_cases hb:b=a
 ·subst hb;rw [upd_same] at e;cases e;exact new
 ·rw [upd_ne hb] at e
  exact (x b u e).stay (fun c v _ q=>k c v q) (fun c q=>by rw [upd_ne (ne_of_none q hn)];exact q) fun c xs q=>by rw [upd_ne (ne_of_none q hn)];exact q
end
def Rd (H:Hp) (a:Addr) (u:HO):Prop:=H a=some u\/∃ o,H a=some (.frz o u)
theorem Rd.of {H:Hp}{a:Addr}{u:HO}(h:H a=some u):Rd H a u:=.inl h
theorem Rd.ok {P:Program}{w:World}{H:Hp}{h:Heap}{a:Addr}{u:HO}(r:Rd H a u) (x:HOk P w H h):ObjOk P w H h a u:=by
 rcases r with r|⟨o,r⟩
 ·exact x a u r
 ·obtain ⟨_,q⟩:=x a _ r
  exact q
def Mut:Option HO->Prop
 | some (.lst _)=>True
 | some (.dK _)=>True
 | some (.dT _)=>True
 | some (.set _ _)=>True
 | some (.ins _ _ _)=>True
 | some (.ext _)=>True
 | _=>False
section
variable {P:Program}{w:World}{H:Hp}{h h':Heap}{x e:Addr}{o':HO}
theorem HOk.write (ok:HOk P w H h) (mu:Mut (H x)) (he:e=x\/H e=some (.own x)) (k:∀ b u,b≠e->h.get? b=some u->h'.get? b=some u) (heo:∃ u,h'.get? e=some u)
  (new:ObjOk P w (upd H x o') h' x o'):HOk P w (upd H x o') h':=fun b u q=>by
 have nown:∀ c y,H c=some (.own y)->c≠x:=fun c y r z=>by subst z;rw [r] at mu;exact mu
 have ntup:∀ c xs,H c=some (.tup xs)->c≠x:=fun c xs r z=>by subst z;rw [r] at mu;exact mu
 by_cases hb:b=x
 ·subst hb;rw [upd_same] at q;cases q;exact new
 ·rw [upd_ne hb] at q
  by_cases hbe:b=e
  ·have q':H b=some (.own x):=by
    rcases he with z|z
    ·exact absurd (hbe.trans z) hb
    ·rw [hbe];exact z
   rw [q] at q';cases q'
   obtain ⟨v,hv⟩:=heo
   exact ⟨v,by rw [hbe];exact hv⟩
  ·refine (ok b u q).stay (fun c v hc r=>k c v ?_ r) (fun c r=>by rw [upd_ne (nown c b r)];exact r) fun c xs r=>by rw [upd_ne (ntup c xs r)];exact r
   rcases hc with rfl|hc
   ·exact hbe
   ·rintro rfl
    rcases he with z|z
    ·exact nown c b hc z
    ·rw [hc] at z;cases z;exact hb rfl
end
structure Un (fs ex:List Addr) (H H':Hp) (h h':Heap):Prop where
 keep:∀ b o,h.get? b=some o->H b=none->b∉fs->b∉ex->h'.get? b=some o
 slot:∀ b o,h.get? b=some o->H b=none->b∈fs->b∉ex->∃ sl,h'.get? b=some { o with slots:=sl }
 free:∀ b o,h.get? b=some o->H b=none->b∉ex->H' b=none
 there:∀ b o,h.get? b=some o->b∉ex->∃ o',h'.get? b=some o'
 tups:∀ b xs,H b=some (.tup xs)->H' b=some (.tup xs)
 frzs:∀ b o u,H b=some (.frz o u)->H' b=some (.frz o u)
 tbls:∀ b ps,H b=some (.tbl ps)->∃ more,H' b=some (.tbl (ps++more))
section
variable {fs fs' ex ex':List Addr}{H H1 H2:Hp}{h h1 h2 h':Heap}{a x e:Addr}{o:HO}
theorem Un.any (u:Un fs ex H H1 h h1) {b:Addr}{ob:Obj}(q:h.get? b=some ob) (n:H b=none) (hx:b∉ex):∃ sl,h1.get? b=some { ob with slots:=sl }:=by
 by_cases hb:b∈fs
 ·exact u.slot b ob q n hb hx
 ·exact ⟨ob.slots,u.keep b ob q n hb hx⟩
theorem Un.trans (a:Un fs ex H H1 h h1) (b:Un fs ex H1 H2 h1 h2):Un fs ex H H2 h h2 where
 keep:=fun c ob q n hc hx=>b.keep c ob (a.keep c ob q n hc hx) (a.free c ob q n hx) hc hx
 slot:=fun c ob q n hc hx=>by
  obtain ⟨sl,e1⟩:=a.slot c ob q n hc hx
  obtain ⟨sl',e2⟩:=b.slot c _ e1 (a.free c ob q n hx) hc hx
  exact ⟨sl',e2⟩
 free:=fun c ob q n hx=>by
  obtain ⟨o',e1⟩:=a.there c ob q hx
  exact b.free c o' e1 (a.free c ob q n hx) hx
 there:=fun c ob q hx=>by
  obtain ⟨o',e1⟩:=a.there c ob q hx
  exact b.there c o' e1 hx
 tups:=fun c xs q=>b.tups c xs (a.tups c xs q)
 frzs:=fun c ob xs q=>b.frzs c ob xs (a.frzs c ob xs q)
 tbls:=fun c ps q=>by
  obtain ⟨m1,e1⟩:=a.tbls c ps q
  obtain ⟨m2,e2⟩:=b.tbls c _ e1
  exact ⟨m1++m2,by rw [e2,Array.append_assoc]⟩
theorem Un.kept (k:∀ b u,h.get? b=some u->h'.get? b=some u):Un fs ex H H h h' :=
 ⟨fun b ob q _ _ _=>k b ob q,fun b ob q _ _ _=>⟨ob.slots,k b ob q⟩,fun _ _ _ n _=>n,fun b ob q _=>⟨ob,k b ob q⟩,fun _ _ q=>q,fun _ _ _ q=>q,fun _ ps q=>⟨#[],by rw [q];simp⟩⟩
theorem Un.refl:Un fs ex H H h h:=Un.kept fun _ _ q=>q
theorem Un.laid (k:∀ b u,h.get? b=some u->h'.get? b=some u) (hp:h.objs.size<=a) (hn:H a=none):Un fs ex H (upd H a o) h h' where
 keep:=fun b u q _ _ _=>k b u q
 slot:=fun b u q _ _ _=>⟨u.slots,k b u q⟩
 free:=fun b u q n _=>by rw [upd_ne (Nat.ne_of_lt (Nat.lt_of_lt_of_le (Heap.lt_size q) hp))];exact n
 there:=fun b u q _=>⟨u,k b u q⟩
 tups:=fun b xs q=>by rw [upd_ne (ne_of_none q hn)];exact q
 frzs:=fun b u xs q=>by rw [upd_ne (ne_of_none q hn)];exact q
 tbls:=fun b ps q=>⟨#[],by rw [upd_ne (ne_of_none q hn),q];simp⟩
theorem Un.write (mu:Mut (H x)) (he:e=x\/H e=some (.own x)) (k:∀ b u,b≠e->h.get? b=some u->h'.get? b=some u) (heo:∃ u,h'.get? e=some u):Un fs ex H (upd H x o) h h':=by
 have hx:∀ b,H b=none->b≠x:=fun b n z=>by subst z;rw [n] at mu;exact mu
 have hb:∀ b,H b=none->b≠e:=fun b n z=>by
  subst z
  rcases he with r|r
  ·exact hx b n r
  ·rw [n] at r;cases r
 have hm:∀ b u,H b=some u->¬ Mut (some u)->b≠x:=fun b u q nm z=>by subst z;rw [q] at mu;exact nm mu
 refine ⟨fun b u q n _ _=>k b u (hb b n) q,fun b u q n _ _=>⟨u.slots,k b u (hb b n) q⟩,fun b u q n _=>by rw [upd_ne (hx b n)];exact n,fun b u q _=>?_,
  fun b xs q=>by rw [upd_ne (hm b _ q fun z=>z)];exact q,fun b u xs q=>by rw [upd_ne (hm b _ q fun z=>z)];exact q,fun b ps q=>⟨#[],by rw [upd_ne (hm b _ q fun z=>z),q];simp⟩⟩
 by_cases hbe:b=e
 ·subst hbe;exact heo
 ·exact ⟨u,k b u hbe q⟩
theorem Un.mono (u:Un fs ex H H1 h h1) (hs:∀ b∈fs,b∈fs') (hx:∀ b∈ex,b∈ex'):Un fs' ex' H H1 h h1 :=
 ⟨fun b ob q n hb he=>u.keep b ob q n (fun z=>hb (hs b z)) fun z=>he (hx b z),fun _ _ q n _ he=>u.any q n fun z=>he (hx _ z),fun b ob q n he=>u.free b ob q n fun z=>he (hx b z),fun b ob q he=>u.there b ob q fun z=>he (hx b z),u.tups,u.frzs,u.tbls⟩
end
def trk (h:Heap) (H:Hp):List Addr:=(List.range h.objs.size).filter fun a=>(H a).isSome
def hidT (h:Heap) (H:Hp):Heap:=PySem.W.hideAll h (trk h H)
theorem hidT_size (h:Heap) (H:Hp):(hidT h H).objs.size=h.objs.size:=PySem.W.hideAll_size _ _
theorem hidT_get {h:Heap}{H:Hp}{b:Addr}{o:Obj}(e:h.get? b=some o) (n:H b=none):(hidT h H).get? b=some o :=
 PySem.W.hideAll_get _ e fun hm=>by
  have q:(H b).isSome=true:=(List.mem_filter.mp hm).2
  rw [n] at q;simp at q
theorem of_hidT {h:Heap}{H:Hp}{b:Addr}{o:Obj}(e:(hidT h H).get? b=some o):h.get? b=some o/\H b=none:=by
 have e':h.get? b=some o:=PySem.W.of_hideAll (trk h H) e
 refine ⟨e',?_⟩
 cases q:H b with
 | none=>rfl
 | some x =>
  have hm:b∈trk h H:=List.mem_filter.mpr ⟨List.mem_range.mpr (Heap.lt_size e'),by simp [q]⟩
  have z:(hidT h H).get? b=none:=PySem.W.hideAll_none (trk h H) hm
  rw [z] at e;cases e
def allNews (g h:Heap) (L:Addr):List (Addr×Obj):=(List.range h.objs.size).filterMap fun a=>if a=L\/(g.get? a).isSome=true then none else (h.get? a).map fun o=>(a,o)
def rest (g h:Heap) (L d:Addr):List (Addr×Obj):=(allNews g h L).filter fun p=>decide (p.1≠d)
structure Mod (K:PySem.W.Frag) (mg:Str->Option Value) (base:Heap):Prop where
 kin:K.In base
 glob:base.Ns mainGlobals mg
 blt:∃ mb,base.Ns builtinsNs mb/\∀ x:Str,x≠"__name__"->mb x=bootBuiltins x
 nolimit:base.NoLimit
structure Cx where
 prog:Program
 w:World
 K:PySem.W.Frag
 mg:Str->Option Value
 base:Heap
 A:Around
 N:List Str
 s₀:Shared
 H₀:Hp
 env:Env
 outer:List Env
 stack:List Env
 ex:List Addr
 fn:Str->Bool
 calm:Bool
 pn:List (Addr×Obj)
 xe:Value->Shared->Prop
 fz:List (Addr×Obj×HO):=[]
def frs (l:List Env):List Addr:=l.filterMap (·.frame)
abbrev Cx.fs (X:Cx):List Addr:=frs X.outer
def Vis (sc:Scope) (x:Str):Prop:=sc.names.lookup x=some .local\/sc.names.lookup x=some .cell\/sc.names.lookup x=some .free
def Loc (sc:Scope) (x:Str):Prop:=sc.names.lookup x=some .local\/sc.names.lookup x=some .cell
def Look (env:Env) (h:Heap) (m:Str->Option Value) (x:Str) (u:Value):Prop :=
 (env.kindOf x=some .local/\m x=some u)\/((env.kindOf x=some .cell\/env.kindOf x=some .free)/\∃ c,env.cells.lookup x=some c/\h.IsCell c (some u))
structure Cx.Ok (X:Cx):Prop where
 mod:Mod X.K X.mg X.base
 kind:X.env.scope.kind=.function
 glob:X.env.globals=mainGlobals
 blt:X.env.builtins=builtinsNs
 above:X.s₀.heap.objs.size<=X.env.locals
 inj:∀ x y c,X.env.cells.lookup x=some c->X.env.cells.lookup y=some c->x=y
 has:∀ x,(X.env.kindOf x=some .cell\/X.env.kindOf x=some .free)->∃ c,X.env.cells.lookup x=some c
 cab:∀ x c,X.fn x=true->X.env.cells.lookup x=some c->X.s₀.heap.objs.size<=c
 hd:X.calm=true->X.A.handled=none
 frames:X.A.frames=some X.stack
 stk:X.stack=X.outer\/(X.stack=X.env::X.outer/\X.env.frame=some X.env.locals)
 exf:∀ b∈X.ex,b≠X.env.locals/\∀ x c,X.env.cells.lookup x=some c->c≠b
 bs:∀ b o,X.base.get? b=some o->X.s₀.heap.get? b=some o/\X.H₀ b=none
 bsz:X.base.objs.size<=X.s₀.heap.objs.size
 noex:∀ b o,X.base.get? b=some o->b∉X.ex
 exfs:∀ b∈X.ex,b∉X.fs
 funs:X.s₀.heap.FunFrames X.base X.outer
 frf:∀ b∈X.fs,X.H₀ b=none
structure Inv (X:Cx) (pins:List (Addr×Obj)) (σ:List (Option V)) (H:Hp) (s:Shared):Prop where
 ok:X.Ok
 os:s.os=X.s₀.os
 bare:AllBare s.gens
 base:Un X.fs X.ex X.H₀ H X.s₀.heap s.heap
 loc:∃ m,s.heap.Ns X.env.locals m/\∀ (i:Nat) (x:Str) (v:V),X.N[i]? = some x->σ[i]? = some (some v)->Vis X.env.scope x->∃ u,RelV v u/\Look X.env s.heap m x u
 cell:∀ x c,X.env.cells.lookup x=some c->∃ v,s.heap.IsCell c v
 free:H X.env.locals=none
 freeC:∀ x c,X.env.cells.lookup x=some c->H c=none
 pin:∀ p∈X.pn++pins,s.heap.get? p.1=some p.2/\H p.1=none/\p.1≠X.env.locals/\p.1∉X.fs/\∀ v,p.2.data≠.cell v
 hok:HOk X.prog X.w H s.heap
 len:σ.length=X.N.length
 fzd:∀ f∈X.fz,H f.1=some (.frz f.2.1 f.2.2)
section
variable {X:Cx}{pins:List (Addr×Obj)}{σ:List (Option V)}{H H':Hp}{s:Shared}{h':Heap}
theorem Cx.Ok.nofr (ok:X.Ok) {b:Addr}{o:Obj}(e:X.base.get? b=some o):b∉X.fs:=fun hb=>by
 have:=(ok.funs.mem hb).1
 rw [e] at this;cases this
theorem Inv.bs (I:Inv X pins σ H s):∀ b o,X.base.get? b=some o->s.heap.get? b=some o/\H b=none:=fun b o e =>
 ⟨I.base.keep b o (I.ok.bs b o e).1 (I.ok.bs b o e).2 (I.ok.nofr e) (I.ok.noex b o e),I.base.free b o (I.ok.bs b o e).1 (I.ok.bs b o e).2 (I.ok.noex b o e)⟩
theorem Inv.bk (I:Inv X pins σ H s):∀ b o,X.base.get? b=some o->s.heap.get? b=some o:=fun b o e=>(I.bs b o e).1
theorem Inv.mod (I:Inv X pins σ H s):Mod X.K X.mg X.base:=I.ok.mod
theorem Inv.kIn (I:Inv X pins σ H s):X.K.In s.heap:=I.ok.mod.kin.keeps I.bk
theorem Inv.nolimit (I:Inv X pins σ H s):s.heap.NoLimit:=I.ok.mod.nolimit.keeps I.bk
theorem Inv.fr (I:Inv X pins σ H s):∃ m,Fr X.base X.env.locals s.heap m :=
 let ⟨m,hn,_⟩:=I.loc
 ⟨m,hn,I.bk,Nat.le_trans I.ok.bsz I.ok.above⟩
theorem Inv.lt (I:Inv X pins σ H s):X.env.locals<s.heap.objs.size:=let ⟨_,hn,_⟩:=I.loc;hn.lt
theorem Inv.sz (I:Inv X pins σ H s):X.s₀.heap.objs.size<=s.heap.objs.size:=Nat.le_trans I.ok.above (Nat.le_of_lt I.lt)
theorem Inv.nofs (I:Inv X pins σ H s) {a:Addr}(h:s.heap.objs.size<=a):a∉X.fs:=fun hb=>by
 obtain ⟨_,o,ho,_⟩:=I.ok.funs.mem hb
 exact absurd (Nat.lt_of_lt_of_le (Heap.lt_size ho) (Nat.le_trans I.sz h)) (Nat.lt_irrefl _)
theorem Inv.cne (I:Inv X pins σ H s):∀ x c,X.env.cells.lookup x=some c->c≠X.env.locals:=fun x c e z=>by
 obtain ⟨v,o,ho,hd⟩:=I.cell x c e
 obtain ⟨m,⟨o',es,ep,ho',hd',_⟩,_⟩:=I.loc
 rw [z,ho'] at ho;cases ho;rw [hd'] at hd;cases hd
theorem Inv.funs (I:Inv X pins σ H s):s.heap.FunFrames X.base X.outer:=by
 have all:∀ (l:List Env),(∀ b∈frs l,b∈X.fs)->X.s₀.heap.FunFrames X.base l->s.heap.FunFrames X.base l:=by
  intro l
  induction l with
  | nil=>intro _ _;trivial
  | cons env r ih =>
   intro hs hl
   obtain ⟨hk,⟨L,o,hf,hn,ho,hd⟩,hr⟩:=hl
   have hL:L∈X.fs:=hs L (by unfold frs;rw [List.filterMap_cons,hf];exact List.mem_cons_self)
   obtain ⟨sl,e⟩:=I.base.slot L o ho (I.ok.frf L hL) hL fun z=>I.ok.exfs L z hL
   exact ⟨hk,⟨L,_,hf,hn,e,hd⟩,ih (fun b hb=>hs b (by unfold frs;rw [List.filterMap_cons,hf];exact List.mem_cons_of_mem _ hb)) hr⟩
 exact all X.outer (fun _ hb=>hb) I.ok.funs
theorem Inv.stack (I:Inv X pins σ H s):s.heap.FunFrames X.base X.stack:=by
 rcases I.ok.stk with e|⟨e,hf⟩
 ·rw [e];exact I.funs
 ·rw [e]
  obtain ⟨m,hn,_⟩:=I.loc
  refine .cons (by rw [I.ok.kind];decide) hf hn ?_ I.funs
  exact Heap.get?_none_of_le (Nat.le_trans I.ok.bsz I.ok.above)
theorem Inv.stkSub (I:Inv X pins σ H s):∀ b∈frs X.stack,b∈X.env.locals::X.fs:=fun b hb=>by
 rcases I.ok.stk with e|⟨e,hf⟩
 ·rw [e] at hb;exact List.mem_cons_of_mem _ hb
 ·rw [e] at hb
  unfold frs at hb
  rw [List.filterMap_cons,hf] at hb
  exact hb
theorem Inv.stkFree (I:Inv X pins σ H s):∀ b∈frs X.stack,H b=none:=fun b hb=>by
 rcases List.mem_cons.mp (I.stkSub b hb) with e|hb
 ·rw [e];exact I.free
 ·obtain ⟨_,o,ho,_⟩:=I.ok.funs.mem hb
  exact I.base.free b o ho (I.ok.frf b hb) fun z=>I.ok.exfs b z hb
theorem Inv.step {g':Array GenState}{t':Nat}{d':Drawn}{ch:List Addr}(I:Inv X pins σ H s)
  (hch:∀ b∈ch,(b∈X.ex\/X.s₀.heap.objs.size<=b)/\b≠X.env.locals/\(∀ x c,X.env.cells.lookup x=some c->c≠b)/\∀ p∈X.pn++pins,p.1≠b)
  (keep:∀ b o,b≠X.env.locals->b∉X.fs->b∉ch->s.heap.get? b=some o->H b=none->h'.get? b=some o)
  (slot:∀ b o,b≠X.env.locals->b∈X.fs->b∉ch->s.heap.get? b=some o->H b=none->∃ sl,h'.get? b=some { o with slots:=sl }) (free:∀ b o,b∉ch->s.heap.get? b=some o->H b=none->H' b=none)
  (there:∀ b o,b∉ch->s.heap.get? b=some o->∃ o',h'.get? b=some o')
  (tups:∀ b xs,H b=some (.tup xs)->H' b=some (.tup xs)) (frzs:∀ b o u,H b=some (.frz o u)->H' b=some (.frz o u)) (tbls:∀ b ps,H b=some (.tbl ps)->∃ more,H' b=some (.tbl (ps++more)))
  (ns:∀ m,s.heap.Ns X.env.locals m->h'.Ns X.env.locals m) (hok:HOk X.prog X.w H' h') (hg:AllBare g') :
  Inv X pins σ H' { s with heap:=h',gens:=g',drawn:=d',toks:=t' }:=by
 have neL:∀ b o,X.s₀.heap.get? b=some o->b≠X.env.locals:=fun b o e=>Nat.ne_of_lt (Nat.lt_of_lt_of_le (Heap.lt_size e) I.ok.above)
 have neC:∀ b o,X.s₀.heap.get? b=some o->b∉X.ex->b∉ch:=fun b o e hx hb=>by
  rcases (hch b hb).1 with z|z
  ·exact hx z
  ·exact absurd (Nat.lt_of_lt_of_le (Heap.lt_size e) z) (Nat.lt_irrefl _)
 have cellK:∀ x c,X.env.cells.lookup x=some c->∀ v,s.heap.IsCell c v->h'.IsCell c v:=fun x c e v ⟨o,ho,hd⟩=>by
  have nch:c∉ch:=fun z=>(hch c z).2.2.1 x c e rfl
  by_cases hc:c∈X.fs
  ·obtain ⟨sl,q⟩:=slot c o (I.cne x c e) hc nch ho (I.freeC x c e)
   exact ⟨_,q,hd⟩
  ·exact ⟨o,keep c o (I.cne x c e) hc nch ho (I.freeC x c e),hd⟩
 refine ⟨I.ok,I.os,hg,⟨fun b o e n hb hx=>?_,fun b o e n hb hx=>?_,fun b o e n hx=>?_,fun b o e hx=>?_,fun b xs e=>tups b xs (I.base.tups b xs e),fun b o xs e=>frzs b o xs (I.base.frzs b o xs e),fun b ps e=>?_⟩,?_,fun x c e=>?_,?_,fun x c e=>?_,fun p hp=>?_,hok,I.len,fun f hf=>frzs f.1 f.2.1 f.2.2 (I.fzd f hf)⟩
 ·exact keep b o (neL b o e) hb (neC b o e hx) (I.base.keep b o e n hb hx) (I.base.free b o e n hx)
 ·obtain ⟨sl,e1⟩:=I.base.slot b o e n hb hx
  obtain ⟨sl',e2⟩:=slot b _ (neL b o e) hb (neC b o e hx) e1 (I.base.free b o e n hx)
  exact ⟨sl',e2⟩
 ·obtain ⟨o',e1⟩:=I.base.there b o e hx
  exact free b o' (neC b o e hx) e1 (I.base.free b o e n hx)
 ·obtain ⟨o',e1⟩:=I.base.there b o e hx
  exact there b o' (neC b o e hx) e1
 ·obtain ⟨m1,e1⟩:=I.base.tbls b ps e
  obtain ⟨m2,e2⟩:=tbls b _ e1
  exact ⟨m1++m2,by rw [e2,Array.append_assoc]⟩
 ·obtain ⟨m,hn,hl⟩:=I.loc
  refine ⟨m,ns m hn,fun i x v e1 e2 e3=>?_⟩
  obtain ⟨u,r,l⟩:=hl i x v e1 e2 e3
  refine ⟨u,r,?_⟩
  rcases l with l|⟨k,c,e,z⟩
  ·exact .inl l
  ·exact .inr ⟨k,c,e,cellK x c e _ z⟩
 ·obtain ⟨v,z⟩:=I.cell x c e
  exact ⟨v,cellK x c e v z⟩
 ·obtain ⟨m,⟨o,_,_,ho,_⟩,_⟩:=I.loc
  exact free _ o (fun z=>(hch _ z).2.1 rfl) ho I.free
 ·obtain ⟨v,o,ho,hd⟩:=I.cell x c e
  exact free c o (fun z=>(hch c z).2.2.1 x c e rfl) ho (I.freeC x c e)
 ·obtain ⟨e,n,ne,nf,d⟩:=I.pin p hp
  have nch:p.1∉ch:=fun z=>(hch p.1 z).2.2.2 p hp rfl
  exact ⟨keep p.1 p.2 ne nf nch e n,free p.1 p.2 nch e n,ne,nf,d⟩
theorem Inv.un {t':Nat}(I:Inv X pins σ H s) (u:Un X.fs [] H H' s.heap h') (hok:HOk X.prog X.w H' h'):Inv X pins σ H' { s with heap:=h',toks:=t' }:=by
 obtain ⟨m,⟨o,es,ep,ho,r⟩,_⟩:=id I.loc
 obtain ⟨sl,hL⟩:=u.any ho I.free (by simp)
 exact I.step (g':=s.gens) (d':=s.drawn) (ch:=[]) (fun _ z=>nomatch z) (fun b o _ hb _ e n=>u.keep b o e n hb (by simp)) (fun b o _ hb _ e n=>u.slot b o e n hb (by simp)) (fun b o _ e n=>u.free b o e n (by simp)) (fun b o _ e=>u.there b o e (by simp)) u.tups u.frzs u.tbls (fun m' hm=>by
  obtain ⟨o',es',ep',ho',r'⟩:=hm
  rw [ho] at ho';cases ho'
  exact ⟨_,es',ep',hL,r'⟩) hok I.bare
theorem Inv.call {g':Array GenState}{t':Nat}{d':Drawn}{ch:List Addr}(I:Inv X pins σ H s) (u:Un (frs X.stack) ch H H' s.heap h') (hok:HOk X.prog X.w H' h') (hg:AllBare g')
  (hch:∀ b∈ch,(b∈X.ex\/X.s₀.heap.objs.size<=b)/\b≠X.env.locals/\(∀ x c,X.env.cells.lookup x=some c->c≠b)/\∀ p∈X.pn++pins,p.1≠b) :
  Inv X pins σ H' { s with heap:=h',gens:=g',drawn:=d',toks:=t' }:=by
 obtain ⟨m,⟨o,es,ep,ho,r⟩,_⟩:=id I.loc
 obtain ⟨sl,hL⟩:=u.any ho I.free fun z=>(hch _ z).2.1 rfl
 exact I.step (ch:=ch) hch (fun b o hL hb hc e n=>u.keep b o e n (fun z=>(List.mem_cons.mp (I.stkSub b z)).elim hL hb) hc) (fun b o _ _ hc e n=>u.any e n hc) (fun b o hc e n=>u.free b o e n hc) (fun b o hc e=>u.there b o e hc) u.tups u.frzs u.tbls (fun m' hm=>by
  obtain ⟨o',es',ep',ho',r'⟩:=hm
  rw [ho] at ho';cases ho'
  exact ⟨_,es',ep',hL,r'⟩) hok hg
theorem Inv.turned {t':Nat}{it:Addr}(I:Inv X pins σ H s) (k:∀ b o,b≠it->s.heap.get? b=some o->h'.get? b=some o) (hn:H it=none) (hL:it≠X.env.locals)
  (h1:it∈X.ex\/X.s₀.heap.objs.size<=it) (h2:∀ x c,X.env.cells.lookup x=some c->c≠it) (h3:∀ p∈X.pn++pins,p.1≠it):Inv X pins σ H { s with heap:=h',toks:=t' }:=by
 have nit:∀ b u,H b=some u->b≠it:=fun b u e z=>by rw [z,hn] at e;cases e
 refine I.step (g':=s.gens) (d':=s.drawn) (ch:=[it]) (fun b hb=>?_) (fun b o _ _ hc e _=>k b o (fun z=>hc (by simp [z])) e) (fun b o _ _ hc e _=>⟨o.slots,k b o (fun z=>hc (by simp [z])) e⟩) (fun _ _ _ _ n=>n)
  (fun b o hc e=>⟨o,k b o (fun z=>hc (by simp [z])) e⟩) (fun _ _ e=>e) (fun _ _ _ e=>e) (fun b ps e=>⟨#[],by rw [e];simp⟩) (fun m hm=>?_) (fun b u e=>?_) I.bare
 ·have e:b=it:=by simpa using hb
  subst e
  exact ⟨h1,hL,h2,h3⟩
 ·obtain ⟨o,es,ep,ho,r⟩:=hm
  exact ⟨o,es,ep,k _ o (Ne.symm hL) ho,r⟩
 ·refine (I.hok b u e).stay (fun c v hc q=>k c v ?_ q) (fun _ q=>q) fun _ _ q=>q
  rcases hc with z|z
  ·rw [z];exact nit b u e
  ·exact nit c _ z
theorem Inv.tok (I:Inv X pins σ H s) (t:Nat):Inv X pins σ H { s with toks:=t }:=I.un (h':=s.heap) (t':=t) Un.refl I.hok
theorem Inv.kept {t':Nat}(I:Inv X pins σ H s) (k:∀ b u,s.heap.get? b=some u->h'.get? b=some u):Inv X pins σ H { s with heap:=h',toks:=t' }:=I.un (Un.kept k) (I.hok.kept k)
theorem Inv.laid {a:Addr}{o:HO}{t':Nat}(I:Inv X pins σ H s) (k:∀ b u,s.heap.get? b=some u->h'.get? b=some u) (hp:s.heap.objs.size<=a) (new:ObjOk X.prog X.w (upd H a o) h' a o) :
  Inv X pins σ (upd H a o) { s with heap:=h',toks:=t' }:=I.un (Un.laid k hp (I.hok.fresh hp)) (I.hok.laid k hp new)
theorem Inv.write {x e:Addr}{o:HO}{t':Nat}(I:Inv X pins σ H s) (mu:Mut (H x)) (he:e=x\/H e=some (.own x)) (k:∀ b u,b≠e->s.heap.get? b=some u->h'.get? b=some u) (heo:∃ u,h'.get? e=some u)
  (new:ObjOk X.prog X.w (upd H x o) h' x o):Inv X pins σ (upd H x o) { s with heap:=h',toks:=t' }:=I.un (Un.write mu he k heo) (I.hok.write mu he k heo new)
theorem Inv.pins_of {pins':List (Addr×Obj)}(I:Inv X pins σ H s) (h:∀ p∈pins',s.heap.get? p.1=some p.2/\H p.1=none/\p.1≠X.env.locals/\p.1∉X.fs/\∀ v,p.2.data≠.cell v):Inv X pins' σ H s :=
 ⟨I.ok,I.os,I.bare,I.base,I.loc,I.cell,I.free,I.freeC,fun p hp=>(List.mem_append.mp hp).elim (fun z=>I.pin p (List.mem_append_left _ z)) (h p),I.hok,I.len,I.fzd⟩
theorem nodup_ix {N:List Str}(hN:N.Nodup) {i j:Nat}{x:Str}(a:N[i]? = some x) (b:N[j]? = some x):i=j:=by
 obtain ⟨h1,e1⟩:=List.getElem?_eq_some_iff.mp a
 obtain ⟨h2,e2⟩:=List.getElem?_eq_some_iff.mp b
 exact (List.getElem_inj hN).mp (e1.trans e2.symm)
theorem store_ok2 {M:Model}{A:Around}{E:Value->Shared->Prop}{i:Nat}{x:Str}{v:V}{u:Value}{Q:Unit->Shared->Prop}(I:Inv X pins σ H s) (hN:X.N.Nodup) (hi:X.N[i]? = some x) (hx:Loc X.env.scope x) (r:RelV v u)
  (h:∀ s',Inv X pins (σ.set i (some v)) H s'->(∃ a,Heap.SameBut a s.heap s'.heap/\(a=X.env.locals\/X.env.cells.lookup x=some a))->Q () s') (hf:X.fn x=true\/X.env.scope.names.lookup x=some .local:=by first | exact .inl rfl | exact .inr rfl | assumption):wpAny M A (storeName X.env x u) Q E s:=by
 obtain ⟨m,hn,hl⟩:=id I.loc
 have hcls:(X.env.scope.kind == .class || (X.env.scope.kind == .module && X.env.locals != X.env.globals))=false:=by rw [I.ok.kind];rfl
 have hiσ:i<σ.length:=by rw [I.len];exact (List.getElem?_eq_some_iff.mp hi).1
 have cne:=I.cne
 have tracked:∀ {a:Addr} {h':Heap},(∃ o,s.heap.get? a=some o/\H a=none)->Heap.SameBut a s.heap h'->HOk X.prog X.w H h':=fun {a h'} ha hs b ob e=>by
  obtain ⟨_,_,hfree⟩:=ha
  refine (I.hok b ob e).stay (fun c w' hc q=>(hs.2 c ?_).trans q) (fun _ q=>q) fun _ _ q=>q
  rintro rfl
  rcases hc with rfl|hc
  ·rw [hfree] at e;cases e
  ·rw [hfree] at hc;cases hc
 rcases hx with hk|hk
 ·refine wpAny_storeName_local hk hn (fun h' hn' hs=>?_) hcls
  obtain ⟨oL,_,_,hoL,_⟩:=id hn
  refine h _ ⟨I.ok,I.os,I.bare,⟨fun b o e n hb hx=>?_,fun b o e n hb hx=>?_,I.base.free,fun b o e hx=>?_,I.base.tups,I.base.frzs,I.base.tbls⟩,⟨_,hn',fun j y v' e1 e2 e3=>?_⟩,fun y c e=>?_,I.free,I.freeC,fun p hp=>?_,tracked ⟨oL,hoL,I.free⟩ hs,by simpa using I.len,I.fzd⟩ ⟨_,hs,.inl rfl⟩
  ·exact (hs.2 b (Nat.ne_of_lt (Nat.lt_of_lt_of_le (Heap.lt_size e) I.ok.above))).trans (I.base.keep b o e n hb hx)
  ·obtain ⟨sl,e1⟩:=I.base.slot b o e n hb hx
   exact ⟨sl,(hs.2 b (Nat.ne_of_lt (Nat.lt_of_lt_of_le (Heap.lt_size e) I.ok.above))).trans e1⟩
  ·obtain ⟨o',e1⟩:=I.base.there b o e hx
   exact ⟨o',(hs.2 b (Nat.ne_of_lt (Nat.lt_of_lt_of_le (Heap.lt_size e) I.ok.above))).trans e1⟩
  ·by_cases hj:j=i
   ·subst hj
    rw [hi] at e1;cases e1
    rw [List.getElem?_set_self hiσ] at e2
    cases e2
    exact ⟨u,r,.inl ⟨hk,by simp⟩⟩
   ·rw [List.getElem?_set_ne (Ne.symm hj)] at e2
    obtain ⟨u',r',q⟩:=hl j y v' e1 e2 e3
    refine ⟨u',r',?_⟩
    rcases q with ⟨k,e⟩|⟨k,c,e,z⟩
    ·refine .inl ⟨k,?_⟩
     have:y≠x:=fun e=>hj (nodup_ix hN e1 (e ▸ hi))
     simp [this,e]
    ·exact .inr ⟨k,c,e,z.sameBut hs (cne y c e)⟩
  ·obtain ⟨w',z⟩:=I.cell y c e
   exact ⟨w',z.sameBut hs (cne y c e)⟩
  ·obtain ⟨e,n,ne,nf,d⟩:=I.pin p hp
   exact ⟨(hs.2 p.1 ne).trans e,n,ne,nf,d⟩
 ·have hfn:X.fn x=true:=by
   rcases hf with z|z
   ·exact z
   ·rw [z] at hk;cases hk
  obtain ⟨c,hc⟩:=I.ok.has x (.inl hk)
  obtain ⟨w',z⟩:=I.cell x c hc
  refine wpAny_storeName_cell I.ok.kind hk hc z (fun h' hc' hs=>?_)
  obtain ⟨oc,hoc,hocd⟩:=id z
  refine h { s with heap:=h' } ⟨I.ok,I.os,I.bare,⟨fun b o e n hb hx=>?_,fun b o e n hb hx=>?_,I.base.free,fun b o e hx=>?_,I.base.tups,I.base.frzs,I.base.tbls⟩,⟨m,hn.sameBut hs (Ne.symm (cne x c hc)),fun j y v' e1 e2 e3=>?_⟩,fun y c' e=>?_,I.free,I.freeC,fun p hp=>?_,tracked ⟨oc,hoc,I.freeC x c hc⟩ hs,by simpa using I.len,I.fzd⟩ ⟨c,hs,.inr hc⟩
  ·exact (hs.2 b (Nat.ne_of_lt (Nat.lt_of_lt_of_le (Heap.lt_size e) (I.ok.cab x c hfn hc)))).trans (I.base.keep b o e n hb hx)
  ·obtain ⟨sl,e1⟩:=I.base.slot b o e n hb hx
   exact ⟨sl,(hs.2 b (Nat.ne_of_lt (Nat.lt_of_lt_of_le (Heap.lt_size e) (I.ok.cab x c hfn hc)))).trans e1⟩
  ·obtain ⟨o',e1⟩:=I.base.there b o e hx
   exact ⟨o',(hs.2 b (Nat.ne_of_lt (Nat.lt_of_lt_of_le (Heap.lt_size e) (I.ok.cab x c hfn hc)))).trans e1⟩
  ·by_cases hj:j=i
   ·subst hj
    rw [hi] at e1;cases e1
    rw [List.getElem?_set_self hiσ] at e2
    cases e2
    exact ⟨u,r,.inr ⟨.inl hk,c,hc,hc'⟩⟩
   ·rw [List.getElem?_set_ne (Ne.symm hj)] at e2
    obtain ⟨u',r',q⟩:=hl j y v' e1 e2 e3
    refine ⟨u',r',?_⟩
    rcases q with q|⟨k,c',e,z'⟩
    ·exact .inl q
    ·refine .inr ⟨k,c',e,z'.sameBut hs ?_⟩
     rintro rfl
     exact hj (nodup_ix hN e1 (I.ok.inj _ _ _ e hc ▸ hi))
  ·by_cases hcc:c'=c
   ·subst hcc;exact ⟨_,hc'⟩
   ·obtain ⟨w2,z2⟩:=I.cell y c' e
    exact ⟨w2,z2.sameBut hs hcc⟩
  ·obtain ⟨e,n,ne,nf,d⟩:=I.pin p hp
   refine ⟨(hs.2 p.1 ?_).trans e,n,ne,nf,d⟩
   intro q
   rw [q,hoc] at e
   have q':oc=p.2:=Option.some.inj e
   exact d w' (by rw [<- q'];exact hocd)
theorem store_ok {M:Model}{A:Around}{E:Value->Shared->Prop}{i:Nat}{x:Str}{v:V}{u:Value}{Q:Unit->Shared->Prop}(I:Inv X pins σ H s) (hN:X.N.Nodup) (hi:X.N[i]? = some x) (hx:Loc X.env.scope x) (r:RelV v u)
  (h:∀ s',Inv X pins (σ.set i (some v)) H s'->Q () s') (hf:X.fn x=true\/X.env.scope.names.lookup x=some .local:=by first | exact .inl rfl | exact .inr rfl | assumption):wpAny M A (storeName X.env x u) Q E s :=
 store_ok2 I hN hi hx r (fun s' I' _=>h s' I') hf
theorem Inv.call' {s':Shared}{ch:List Addr}(I:Inv X pins σ H s) (ho:s'.os=s.os) (u:Un (frs X.stack) ch H H' s.heap s'.heap) (hok:HOk X.prog X.w H' s'.heap) (hg:AllBare s'.gens)
  (hch:∀ b∈ch,(b∈X.ex\/X.s₀.heap.objs.size<=b)/\b≠X.env.locals/\(∀ x c,X.env.cells.lookup x=some c->c≠b)/\∀ p∈X.pn++pins,p.1≠b):Inv X pins σ H' s':=by
 obtain ⟨h',g',d',t',o'⟩:=s'
 have e:o'=s.os:=ho
 subst e
 exact I.call (g':=g') (t':=t') (d':=d') u hok hg hch
end
abbrev XK:=Value->Option Addr->Hp->Prop
abbrev St:=List (Option V)
abbrev VK:=V->Hp->Prop
abbrev TE:=St->Hp->VK->Prop
abbrev TT:=St->Hp->(Bool->Hp->Prop)->Prop
abbrev TA:=St->Hp->(List V->Hp->Prop)->Prop
structure Ends where
 nx:St->Hp->Prop
 rt:VK
 bk:St->Hp->Prop:=fun _ _=>False
 ct:St->Hp->Prop:=fun _ _=>False
abbrev TS:=Ends->St->Hp->Prop
def EP (X:Cx) (pins:List (Addr×Obj)) (σ:St) (Q:VK) (u:Value) (s':Shared):Prop:=∃ v H',Inv X pins σ H' s'/\RelV v u/\Q v H'
def TP (X:Cx) (pins:List (Addr×Obj)) (σ:St) (Q:Bool->Hp->Prop) (b:Bool) (s':Shared):Prop:=∃ H',Inv X pins σ H' s'/\Q b H'
def AP (X:Cx) (pins:List (Addr×Obj)) (σ:St) (Q:List V->Hp->Prop) (us:List Value) (s':Shared):Prop:=∃ vs H',Inv X pins σ H' s'/\Vals vs us/\Q vs H'
def SP (X:Cx) (pins:List (Addr×Obj)) (D:Ends) (f:Flow) (s':Shared):Prop :=
 match f with
 | .next=>∃ σ' H',Inv X pins σ' H' s'/\D.nx σ' H'
 | .brk=>∃ σ' H',Inv X pins σ' H' s'/\D.bk σ' H'
 | .cont=>∃ σ' H',Inv X pins σ' H' s'/\D.ct σ' H'
 | .ret u=>∃ v σ' H',Inv X pins σ' H' s'/\RelV v u/\D.rt v H'
def PE (X:Cx) (e:Expr) (t:TE):Prop :=
 ∀ (pins:List (Addr×Obj)) (s:Shared) (σ:St) (H:Hp) (Q:VK),Inv X pins σ H s->t σ H Q->wpAny (model X.prog X.w) X.A (eval e X.env) (EP X pins σ Q) X.xe s
def PT (X:Cx) (e:Expr) (t:TT):Prop :=
 ∀ (pins:List (Addr×Obj)) (s:Shared) (σ:St) (H:Hp) (Q:Bool->Hp->Prop),Inv X pins σ H s->t σ H Q->wpAny (model X.prog X.w) X.A (isTrue e X.env (eval e X.env)) (TP X pins σ Q) X.xe s
def PW (X:Cx) (e:Expr) (t:TT):Prop :=
 ∀ (whole:Sem Value) (pins:List (Addr×Obj)) (s:Shared) (σ:St) (H:Hp) (Q:Bool->Hp->Prop),Inv X pins σ H s->t σ H Q->wpAny (model X.prog X.w) X.A (isTrue e X.env whole) (TP X pins σ Q) X.xe s
theorem PW.pt {X:Cx}{e:Expr}{t:TT}(h:PW X e t):PT X e t:=h _
def PA (X:Cx) (es:List Expr) (t:TA):Prop :=
 ∀ (pos:Pos) (pins:List (Addr×Obj)) (s:Shared) (σ:St) (H:Hp) (Q:List V->Hp->Prop),Inv X pins σ H s->t σ H Q->wpAny (model X.prog X.w) X.A (spliced (backTo pos (starEach es X.env))) (AP X pins σ Q) X.xe s
def PS (X:Cx) (st:Stmt) (t:TS):Prop :=
 ∀ (pins:List (Addr×Obj)) (s:Shared) (σ:St) (H:Hp) (D:Ends),Inv X pins σ H s->t D σ H->wpAny (model X.prog X.w) X.A (exec st X.env) (SP X pins D) X.xe s
def PSs (X:Cx) (st:List Stmt) (t:TS):Prop :=
 ∀ (pins:List (Addr×Obj)) (s:Shared) (σ:St) (H:Hp) (D:Ends),Inv X pins σ H s->t D σ H->wpAny (model X.prog X.w) X.A (execs st X.env) (SP X pins D) X.xe s
theorem thn {α:Type}{t:Sem α}{Q Q':α->Shared->Prop}{M:Model}{A:Around}{E:Value->Shared->Prop}{s:Shared}(h:wpAny M A t Q E s) (hQ:∀ a s,Q a s->Q' a s):wpAny M A t Q' E s:=wpAny_mono h hQ fun _ _ x=>x
section
variable {X:Cx}
def tVar (i:Nat):TE:=fun σ H Q=>∃ v,σ[i]? = some (some v)/\Q v H
def tC (v:V):TE:=fun _ H Q=>Q v H
theorem pe_var {i:Nat}{x:Str}{pos:Pos}(hN:X.N[i]? = some x) (hv:Vis X.env.scope x) (hd:(x == ("__debug__":Str))=false:=by decide) (hcd:(x == ("__classdict__":Str))=false:=by decide):PE X (.Name x pos) (tVar i):=by
 intro pins s σ H Q I h
 obtain ⟨v,e,h⟩:=h
 obtain ⟨m,hn,hl⟩:=I.loc
 obtain ⟨u,r,l⟩:=hl i x v hN e hv
 have fin:EP X pins σ Q u s:=⟨v,H,I,r,h⟩
 rcases l with ⟨hk,hm⟩|⟨hk,c,hc,hcell⟩
 ·exact wpAny_Name (wpAny_loadName_local I.ok.kind hk hn hm fin) hd
 ·rcases hk with hk|hk
  ·exact wpAny_Name (wpAny_loadName_cell I.ok.kind hk hc hcell fin) hd
  ·exact wpAny_Name (wpAny_loadName_free I.ok.kind hk hc hcell fin hcd) hd
theorem pe_int {i j pos}:PE X (.Constant (.int i) j pos) (tC (.int i)):=fun _ _ _ H _ I h=>wpAny_Constant_int ⟨.int i,H,I.tok _,⟨_,rfl⟩,h⟩
theorem pe_bl {b j pos}:PE X (.Constant (.bool b) j pos) (tC (.bl b)):=fun _ _ _ H _ I h=>Constant_bool ⟨.bl b,H,I,rfl,h⟩
theorem pe_str {x j pos}:PE X (.Constant (.str x) j pos) (tC (.str x)):=fun _ _ _ H _ I h=>Calls.Constant_str ⟨.str x,H,I.tok _,⟨_,rfl⟩,h⟩
def Gl (X:Cx) (x:Str):Prop:=X.env.kindOf x=some .globalImplicit
theorem ld_glob {E:Value->Shared->Prop}{pins:List (Addr×Obj)}{s:Shared}{σ:St}{H:Hp}{x:Str}{u:Value}{pos:Pos}{Q:Value->Shared->Prop}(I:Inv X pins σ H s) (hg:Gl X x) (hm:X.mg x=some u) (h:Q u s)
  (hd:(x == ("__debug__":Str))=false:=by decide):wpAny (model X.prog X.w) X.A (eval (.Name x pos) X.env) Q E s :=
 Calls.Name_function_global I.ok.kind hg (Calls.loadGlobal_global (by rw [I.ok.glob];exact I.mod.glob.keeps I.bk) hm h) hd
theorem ld_blt {E:Value->Shared->Prop}{pins:List (Addr×Obj)}{s:Shared}{σ:St}{H:Hp}{x:Str}{u:Value}{pos:Pos}{Q:Value->Shared->Prop}(I:Inv X pins σ H s) (hg:Gl X x) (hm:X.mg x=none) (hv:bootBuiltins x=some u) (h:Q u s)
  (hn:x≠"__name__":=by decide) (hd:(x == ("__debug__":Str))=false:=by decide):wpAny (model X.prog X.w) X.A (eval (.Name x pos) X.env) Q E s:=by
 obtain ⟨mb,h1,h2⟩:=I.mod.blt
 exact Calls.Name_function_global I.ok.kind hg (Calls.loadGlobal_builtin (by rw [I.ok.glob];exact I.mod.glob.keeps I.bk) hm (by rw [I.ok.blt];exact h1.keeps I.bk) ((h2 x hn).trans hv) h) hd
theorem pe_bltn {x:Str}{v:V}{u:Value}{pos:Pos}(hg:Gl X x) (hm:X.mg x=none) (hv:bootBuiltins x=some u) (r:RelV v u) (hn:x≠"__name__":=by decide) (hd:(x == ("__debug__":Str))=false:=by decide):PE X (.Name x pos) (tC v) :=
 fun _ _ _ H _ I h=>ld_blt I hg hm hv ⟨v,H,I,r,h⟩ hn hd
variable {a b:Expr}{ta tb:TE}{pos:Pos}
def tB (t:TE):TT:=fun σ H Q=>t σ H fun x H1=>∃ c,x=.bl c/\Q c H1
theorem pt_val {e:Expr}{t:TE}(h:PE X e t) (he:∀ whole,isTrue e X.env whole=(do let v <- whole;standAt e.pos;holding [v] (truthy v)):=by intro _;rfl):PT X e (tB t):=by
 intro pins s σ H Q I hw
 refine isTrue_plain (thn (h pins s σ H _ I hw) fun v s1 ⟨x,H1,I1,r1,q1⟩=>?_) (he _)
 obtain ⟨d,rfl,q⟩:=q1
 cases r1
 exact wpAny_truthy_bool ⟨H1,I1,q⟩
variable {tA tB':TT}{rest:List Expr}
def tOr (t u:TT):TT:=fun σ H Q=>t σ H fun c H1=>if c=true then Q true H1 else u σ H1 Q
def tNot (t:TT):TT:=fun σ H Q=>t σ H fun c H1=>Q (!c) H1
theorem pw_or1 (ha:PT X a tA):PW X (.BoolOp .Or [a] pos) tA:=by
 intro wh pins s σ H Q I h
 refine isTrue_or (thn (ha pins s σ H Q I h) fun c s1 e=>?_)
 cases c with
 | false=>exact isTrue_or_nil e
 | true=>exact e
theorem pw_or (ha:PT X a tA) (hb:PW X (.BoolOp .Or (b::rest) pos) tB'):PW X (.BoolOp .Or (a::b::rest) pos) (tOr tA tB'):=by
 intro wh pins s σ H Q I h
 refine isTrue_or (thn (ha pins s σ H _ I h) fun c s1 ⟨H1,I1,q1⟩=>?_)
 cases c with
 | true=>exact ⟨H1,I1,q1⟩
 | false=>exact hb wh pins s1 σ H1 Q I1 q1
theorem pt_not (ha:PT X a tA):PT X (.UnaryOp .Not a pos) (tNot tA):=by
 intro pins s σ H Q I h
 exact isTrue_not (ha pins s σ H (fun c H1=>Q (!c) H1) I h)
def tAndV (ta tb:TE):TE:=fun σ H Q=>ta σ H fun x H1=>∃ c,x=.bl c/\if c=true then tb σ H1 Q else Q (.bl false) H1
def tNotV (ta:TE):TE:=fun σ H Q=>ta σ H fun x H1=>∃ c,x=.bl c/\Q (.bl (!c)) H1
theorem pe_one {op} {t:TE}(h:PE X a t):PE X (.BoolOp op [a] pos) t:=fun pins s σ H Q I hw=>BoolOp_one (h pins s σ H Q I hw)
theorem pe_and (ha:PE X a ta) (hb:PE X (.BoolOp .And (b::rest) pos) tb):PE X (.BoolOp .And (a::b::rest) pos) (tAndV ta tb):=by
 intro pins s σ H Q I h
 refine BoolOp_and (thn (ha pins s σ H _ I h) fun v s1 ⟨x,H1,I1,r1,q1⟩=>?_)
 obtain ⟨c,rfl,q1⟩:=q1
 cases r1
 refine wpAny_truthy_bool ?_
 cases c with
 | true=>exact hb pins s1 σ H1 Q I1 q1
 | false=>exact ⟨.bl false,H1,I1,rfl,q1⟩
theorem pe_not (ha:PE X a ta):PE X (.UnaryOp .Not a pos) (tNotV ta):=by
 intro pins s σ H Q I h
 refine UnaryOp_ (thn (ha pins s σ H _ I h) fun v s1 ⟨x,H1,I1,r1,q1⟩=>?_)
 obtain ⟨c,rfl,q1⟩:=q1
 cases r1
 exact not_of (wpAny_truthy_bool ⟨.bl (!c),H1,I1,rfl,q1⟩)
end
def SqL (K:PySem.W.Frag) (H:Hp) (a:Addr) (xs:List V):Prop :=
 Rd H a (.lst xs) \/
  ∃ (o:Obj) (its:Array Value) (n:Nat),K.lookup a=some o/\o.cls=.type "list"/\o.dict=none/\o.data=.seq its n/\its.size<=sizeLine/\Vals xs its.toList
def SqT (K:PySem.W.Frag) (H:Hp) (a:Addr) (xs:List V):Prop :=
 Rd H a (.tup xs) \/
  ∃ (o:Obj) (its:Array Value) (n:Nat),K.lookup a=some o/\o.cls=.type "tuple"/\o.data=.seq its n/\its.size<=sizeLine/\Vals xs its.toList
def absV:Value->Option V
 | .none=>some .non
 | .bool b=>some (.bl b)
 | .int i _=>some (.int i)
 | .str x _=>some (.str x)
 | .bytes b _=>some (.byt b)
 | .float b _=>some (.flt b)
 | .ref a=>some (.ref a)
 | .type n=>some (.ty n)
 | _=>none
theorem RelV.abs {x:V}{u:Value}(r:RelV x u):absV u=some x:=by
 cases x with
 | non=>cases r;rfl
 | bl _=>cases r;rfl
 | int _=>obtain ⟨t,rfl⟩:=r;rfl
 | str _=>obtain ⟨t,rfl⟩:=r;rfl
 | byt _=>obtain ⟨t,rfl⟩:=r;rfl
 | flt _=>obtain ⟨t,rfl⟩:=r;rfl
 | ref _=>cases r;rfl
 | ty _=>cases r;rfl
theorem RelV.inj {x y:V}{u:Value}(r:RelV x u) (q:RelV y u):x=y:=Option.some.inj (r.abs.symm.trans q.abs)
theorem Vals.inj:∀ {xs ys:List V}{us:List Value},Vals xs us->Vals ys us->xs=ys
 | _,_,_,.nil,.nil=>rfl
 | _,_,_,.cons r t,.cons r' t'=>by rw [r.inj r',Vals.inj t t']
section
variable {X:Cx}{pins:List (Addr×Obj)}{σ:St}{H:Hp}{s:Shared}{a:Addr}{xs ys:List V}
theorem SqL.of {K:PySem.W.Frag}(h:H a=some (.lst xs)):SqL K H a xs:=.inl (.inl h)
theorem SqT.of {K:PySem.W.Frag}(h:H a=some (.tup xs)):SqT K H a xs:=.inl (.inl h)
theorem Inv.list (I:Inv X pins σ H s) (h:SqL X.K H a xs):∃ its:List Value,Vals xs its/\PlainL s.heap a its.toArray/\xs.length<=sizeLine:=by
 rcases h with h|⟨o,its,n,hk,hc,hd,hs,hz,r⟩
 ·obtain ⟨z,its,n,r,e⟩:=h.ok I.hok
  exact ⟨its,r,⟨_,n,e,rfl,rfl,rfl⟩,z⟩
 ·refine ⟨its.toList,r,⟨o,n,I.kIn a o hk,hc,hd,by simpa using hs⟩,?_⟩
  have e:=r.length
  simp only [Array.length_toList] at e
  omega
theorem Inv.tuple (I:Inv X pins σ H s) (h:SqT X.K H a xs):∃ its:List Value,Vals xs its/\IsTup s.heap a its.toArray/\xs.length<=sizeLine:=by
 rcases h with h|⟨o,its,n,hk,hc,hs,hz,r⟩
 ·obtain ⟨z,its,r,p⟩:=h.ok I.hok
  exact ⟨its,r,p,z⟩
 ·refine ⟨its.toList,r,⟨o,I.kIn a o hk,hc,n,by simpa using hs⟩,?_⟩
  have e:=r.length
  simp only [Array.length_toList] at e
  omega
theorem Inv.list_inj (I:Inv X pins σ H s) (h:SqL X.K H a xs) (h':SqL X.K H a ys):xs=ys:=by
 obtain ⟨its,r,⟨o,n,e,_,_,d⟩,_⟩:=I.list h
 obtain ⟨its',r',⟨o',n',e',_,_,d'⟩,_⟩:=I.list h'
 rw [e] at e';cases e'
 rw [d] at d'
 injection d' with d1 _
 have:its=its':=by simpa using congrArg Array.toList d1
 subst this
 exact r.inj r'
theorem Inv.tuple_inj (I:Inv X pins σ H s) (h:SqT X.K H a xs) (h':SqT X.K H a ys):xs=ys:=by
 obtain ⟨its,r,⟨o,e,_,n,d⟩,_⟩:=I.tuple h
 obtain ⟨its',r',⟨o',e',_,n',d'⟩,_⟩:=I.tuple h'
 rw [e] at e';cases e'
 rw [d] at d'
 injection d' with d1 _
 have:its=its':=by simpa using congrArg Array.toList d1
 subst this
 exact r.inj r'
end
abbrev Cx.wish (X:Cx) (E:Value->Shared->Prop):Cx:={ X with xe:=E }
abbrev Cx.nox (X:Cx):Cx:=X.wish fun _ _=>False
theorem Cx.Ok.wish {X:Cx}(ok:X.Ok) (E:Value->Shared->Prop):(X.wish E).Ok :=
 ⟨ok.mod,ok.kind,ok.glob,ok.blt,ok.above,ok.inj,ok.has,ok.cab,ok.hd,ok.frames,ok.stk,ok.exf,ok.bs,ok.bsz,ok.noex,ok.exfs,ok.funs,ok.frf⟩
theorem Cx.Ok.unwish {X:Cx}{E:Value->Shared->Prop}(ok:(X.wish E).Ok):X.Ok :=
 ⟨ok.mod,ok.kind,ok.glob,ok.blt,ok.above,ok.inj,ok.has,ok.cab,ok.hd,ok.frames,ok.stk,ok.exf,ok.bs,ok.bsz,ok.noex,ok.exfs,ok.funs,ok.frf⟩
section
variable {X:Cx}{pins:List (Addr×Obj)}{σ:St}{H:Hp}{s:Shared}{E:Value->Shared->Prop}
theorem Inv.wish (I:Inv X pins σ H s) (E:Value->Shared->Prop):Inv (X.wish E) pins σ H s:=⟨I.ok.wish E,I.os,I.bare,I.base,I.loc,I.cell,I.free,I.freeC,I.pin,I.hok,I.len,I.fzd⟩
theorem Inv.unwish (I:Inv (X.wish E) pins σ H s):Inv X pins σ H s:=⟨I.ok.unwish,I.os,I.bare,I.base,I.loc,I.cell,I.free,I.freeC,I.pin,I.hok,I.len,I.fzd⟩
theorem SP.unwish {D:Ends}{f:Flow}{s':Shared}(h:SP (X.wish E) pins D f s'):SP X pins D f s':=by
 cases f with
 | next=>obtain ⟨σ',H',I,q⟩:=h;exact ⟨σ',H',I.unwish,q⟩
 | brk=>obtain ⟨σ',H',I,q⟩:=h;exact ⟨σ',H',I.unwish,q⟩
 | cont=>obtain ⟨σ',H',I,q⟩:=h;exact ⟨σ',H',I.unwish,q⟩
 | ret u=>obtain ⟨v,σ',H',I,r,q⟩:=h;exact ⟨v,σ',H',I.unwish,r,q⟩
theorem PE.nox {e:Expr}{t:TE}(h:PE X.nox e t):PE X e t:=fun pins s σ H Q I hw =>
 wpAny_mono (h pins s σ H Q (I.wish _) hw) (fun _ _ ⟨v,H',I',r,q⟩=>⟨v,H',I'.unwish,r,q⟩) fun _ _ z=>False.elim z
theorem PT.nox {e:Expr}{t:TT}(h:PT X.nox e t):PT X e t:=fun pins s σ H Q I hw =>
 wpAny_mono (h pins s σ H Q (I.wish _) hw) (fun _ _ ⟨H',I',q⟩=>⟨H',I'.unwish,q⟩) fun _ _ z=>False.elim z
theorem PSs.nox {st:List Stmt}{t:TS}(h:PSs X.nox st t):PSs X st t:=fun pins s σ H D I hw =>
 wpAny_mono (h pins s σ H D (I.wish _) hw) (fun _ _ q=>q.unwish) fun _ _ z=>False.elim z
end
section
variable {X:Cx}{st:Stmt}{rest:List Stmt}{t u:TS}{e:Expr}{te:TE}{pos:Pos}
def tNext:TS:=fun D σ H=>D.nx σ H
def tSeq (t u:TS):TS:=fun D σ H=>t { D with nx:=u D } σ H
theorem pss_nil:PSs X [] tNext:=fun _ _ σ H _ I h=>wpAny_execs_nil ⟨σ,H,I,h⟩
theorem pss_cons (h1:PS X st t) (h2:PSs X rest u):PSs X (st::rest) (tSeq t u):=by
 intro pins s σ H D I h
 refine wpAny_execs_cons (thn (h1 pins s σ H { D with nx:=u D } I h) fun f s1 q=>?_)
 cases f with
 | next =>
  obtain ⟨σ',H',I',q⟩:=q
  exact h2 pins s1 σ' H' D I' q
 | ret v=>exact q
 | brk=>exact q
 | cont=>exact q
theorem pss_one (h1:PS X st t):PSs X [st] t:=by
 intro pins s σ H D I h
 refine wpAny_execs_cons (thn (h1 pins s σ H D I h) fun f s1 q=>?_)
 cases f with
 | next=>exact wpAny_execs_nil q
 | ret v=>exact q
 | brk=>exact q
 | cont=>exact q
theorem Inv.quiet {pins:List (Addr×Obj)}{σ:St}{H:Hp}{s:Shared}(I:Inv X pins σ H s):interactive X.env=false:=by simp [interactive,I.ok.kind]
def tDrop (te:TE):TS:=fun D σ H=>te σ H fun _ H1=>D.nx σ H1
theorem ps_expr (he:PE X e te) (hs:swapsWith e none pos.line X.env=pure false:=by rfl):PS X (.Expr e pos) (tDrop te):=by
 intro pins s σ H D I h
 exact wpAny_Expr_any (thn (he pins s σ H _ I h) fun v s1 ⟨x,H1,I1,r1,q1⟩=>⟨σ,H1,I1,q1⟩) I.quiet hs
def tRet (te:TE):TS:=fun D σ H=>te σ H D.rt
theorem ps_ret (he:PE X e te):PS X (.Return (some e) pos) (tRet te):=by
 intro pins s σ H D I h
 exact wpAny_Return_some (thn (he pins s σ H _ I h) fun v s1 ⟨x,H1,I1,r1,q1⟩=>⟨x,σ,H1,I1,r1,q1⟩)
def tIfS (c:TT) (t u:TS):TS:=fun D σ H=>c σ H fun b H1=>if b=true then t D σ H1 else u D σ H1
theorem ps_if {c:Expr}{a b:List Stmt}{tc:TT}(hc:PT X c tc) (ha:PSs X a t) (hb:PSs X b u):PS X (.If c a b pos) (tIfS tc t u):=by
 intro pins s σ H D I h
 refine wpAny_If (thn (hc pins s σ H _ I h) fun d s1 ⟨H1,I1,q1⟩=>?_)
 cases d with
 | true=>exact ha pins s1 σ H1 D I1 q1
 | false=>exact hb pins s1 σ H1 D I1 q1
end
abbrev TG:=V->St->Hp->(St->Hp->Prop)->Prop
abbrev TGs:=List V->St->Hp->(St->Hp->Prop)->Prop
def PG (X:Cx) (target:Expr) (t:TG):Prop :=
 ∀ (pins:List (Addr×Obj)) (s:Shared) (σ:St) (H:Hp) (v:V) (u:Value) (Q:St->Hp->Prop),Inv X pins σ H s->RelV v u->t v σ H Q ->
  wpAny (model X.prog X.w) X.A (assign target X.env u) (fun _ s'=>∃ σ' H',Inv X pins σ' H' s'/\Q σ' H') X.xe s
def PGs (X:Cx) (ts:List Expr) (t:TGs):Prop :=
 ∀ (pins:List (Addr×Obj)) (s:Shared) (σ:St) (H:Hp) (vs:List V) (us:List Value) (Q:St->Hp->Prop),Inv X pins σ H s->Vals vs us->t vs σ H Q ->
  wpAny (model X.prog X.w) X.A (assignInOrder ((assignEach ts X.env).map (·.2)) us) (fun _ s'=>∃ σ' H',Inv X pins σ' H' s'/\Q σ' H') X.xe s
section
variable {X:Cx}{pos:Pos}
def gName (i:Nat):TG:=fun v σ H Q=>Q (σ.set i (some v)) H
theorem pg_name {i:Nat}{x:Str}(hN:X.N.Nodup) (hi:X.N[i]? = some x) (hx:Loc X.env.scope x) (hf:X.fn x=true\/X.env.scope.names.lookup x=some .local:=by first | exact .inl rfl | exact .inr rfl | assumption):PG X (.Name x pos) (gName i):=by
 intro pins s σ H v u Q I r h
 exact wpAny_assign_Name (store_ok I hN hi hx r (fun s' I'=>⟨_,H,I',h⟩) hf)
def gNil:TGs:=fun vs σ H Q=>vs=[]/\Q σ H
def gCons (t:TG) (u:TGs):TGs:=fun vs σ H Q=>∃ v r,vs=v::r/\t v σ H fun σ' H'=>u r σ' H' Q
theorem pgs_nil:PGs X [] gNil:=by
 intro pins s σ H vs us Q I r h
 obtain ⟨e,h⟩:=h
 subst e
 cases r
 exact assignInOrder_nil ⟨σ,H,I,h⟩
theorem pgs_cons {e:Expr}{es:List Expr}{t:TG}{u:TGs}(h1:PG X e t) (h2:PGs X es u)
  (hs:(assignEach (e::es) X.env).map (·.2)=assign e X.env::(assignEach es X.env).map (·.2):=by rfl):PGs X (e::es) (gCons t u):=by
 intro pins s σ H vs us Q I r h
 obtain ⟨v,vr,e1,h⟩:=h
 subst e1
 cases r with
 | cons r rr =>
  rw [hs]
  refine assignInOrder_cons (thn (h1 pins s σ H _ _ _ I r h) fun _ s1 ⟨σ1,H1,I1,q1⟩=>?_)
  exact h2 pins s1 σ1 H1 _ _ Q I1 rr q1
def gTup (K:PySem.W.Frag) (n:Nat) (t:TGs):TG:=fun v σ H Q=>∃ a xs,v=.ref a/\SqT K H a xs/\xs.length=n/\t xs σ H Q
theorem pg_tup {es:List Expr}{k:Nat}{t:TGs}{n:Nat}(hc:X.calm=true) (h:PGs X es t)
  (hn:(assignEach es X.env).length=n:=by rfl) (hst:(assignEach es X.env).findIdx? (·.1)=none:=by rfl):PG X (.Tuple es k pos) (gTup X.K n t):=by
 intro pins s σ H v u Q I r hw
 obtain ⟨a,xs,e1,hq,hl,hw⟩:=hw
 subst e1
 cases r
 obtain ⟨its,rv,ht,hz⟩:=I.tuple hq
 refine assign_Tuple_tuple (I.ok.hd hc) ht (by simp [hn,<- hl,rv.length]) hst fun h' hx=>?_
 have I1:Inv X pins σ H { s with heap:=h' }:=I.kept (t':=s.toks) fun b o e=>hx b o (Nat.ne_of_lt (Heap.lt_size e)) e
 exact h pins _ σ H xs _ Q I1 (by simpa using rv) hw
def tAsg (te:TE) (g:TG):TS:=fun D σ H=>te σ H fun x H1=>g x σ H1 D.nx
theorem ps_set {i:Nat}{x:Str}{e:Expr}{te:TE}{pos':Pos}(hN:X.N.Nodup) (hi:X.N[i]? = some x) (hx:Loc X.env.scope x) (he:PE X e te) (hs:swapsWith e (some (.Name x pos')) pos.line X.env=pure false:=by rfl) (hf:X.fn x=true\/X.env.scope.names.lookup x=some .local:=by first | exact .inl rfl | exact .inr rfl | assumption) :
  PS X (.Assign [.Name x pos'] e pos) (tAsg te (gName i)):=by
 intro pins s σ H D I h
 refine wpAny_Assign_Name (thn (he pins s σ H _ I h) fun v s1 ⟨y,H1,I1,r1,q1⟩=>?_) hs
 exact store_ok I1 hN hi hx r1 (fun s2 I2=>⟨_,H1,I2,q1⟩) hf
end
section
variable {X:Cx}{pos:Pos}
end
structure It where
 go:Nat->Hp->Prop
 yld:Nat->Hp->V->Hp->Prop
 stop:Nat->Hp->Prop
def FpOk (X:Cx) (pins:List (Addr×Obj)) (H:Hp) (b:Addr):Prop :=
 H b=none/\b≠X.env.locals/\b∉X.fs/\(b∈X.ex\/X.s₀.heap.objs.size<=b)/\(∀ x c,X.env.cells.lookup x=some c->c≠b)/\∀ p∈X.pn++pins,p.1≠b
theorem Inv.fpOk {X:Cx}{pins:List (Addr×Obj)}{σ:St}{H H':Hp}{s:Shared}{b:Addr}(I:Inv X pins σ H s) (hb:s.heap.objs.size<=b) (hn:H' b=none):FpOk X pins H' b:=by
 refine ⟨hn,Nat.ne_of_gt (Nat.lt_of_lt_of_le I.lt hb),I.nofs hb,.inr (Nat.le_trans I.sz hb),fun x c e z=>?_,fun p hp z=>?_⟩
 ·obtain ⟨v,q⟩:=I.cell x c e
  exact absurd (Nat.lt_of_lt_of_le q.lt (by rw [z];exact hb)) (Nat.lt_irrefl _)
 ·exact absurd (Nat.lt_of_lt_of_le (Heap.lt_size (I.pin p hp).1) (by rw [z];exact hb)) (Nat.lt_irrefl _)
structure Turn (P:Program) (w:World) (K:PySem.W.Frag) (F:List (Addr×Obj×HO)) (tg:Expr) (J:It) (fp:List Addr) (it:Addr) (tn:Nat->Heap->Prop):Prop where
 mem:it∈fp
 obj:∀ i h,tn i h->∀ b∈fp,∃ o,h.get? b=some o/\∀ v,o.data≠.cell v
 keep:∀ i h h',tn i h->(∀ b∈fp,∀ o,h.get? b=some o->h'.get? b=some o)->tn i h'
 item:∀ (X:Cx),X.prog=P->X.w=w->X.K=K->X.fz=F->X.calm=true->∀ (i:Nat) (pins:List (Addr×Obj)) (s:Shared) (σ:St) (H:Hp) (E:Value->Shared->Prop),Inv X pins σ H s->(∀ b∈fp,FpOk X pins H b)->tn i s.heap->J.go i H ->
  wpAny (model P w) X.A (pyNext (.ref it)) (fun r s1=>∃ u,r=some u /\
   wpAny (model P w) X.A (letOwnedTupleGo tg (.ref it) u) (fun _ s2=>∃ x H',Inv X pins σ H' s2/\RelV x u/\J.yld i H x H'/\tn (i+1) s2.heap/\∀ b∈fp,H' b=none) E s1) E s
 done:∀ (X:Cx),X.prog=P->X.w=w->X.K=K->X.fz=F->X.calm=true->∀ (i:Nat) (pins:List (Addr×Obj)) (s:Shared) (σ:St) (H:Hp) (E:Value->Shared->Prop),Inv X pins σ H s->(∀ b∈fp,FpOk X pins H b)->tn i s.heap->J.stop i H ->
  wpAny (model P w) X.A (pyNext (.ref it)) (fun r s1=>r=none/\Inv X pins σ H s1) E s
 self:∀ (A:Around) (i:Nat) (s:Shared) (Q:Value->Shared->Prop) (E:Value->Shared->Prop),tn i s.heap->Q (.ref it) s->wpAny (model P w) A (pyIter (.ref it)) Q E s
abbrev TI:=St->Hp->(It->Hp->Prop)->Prop
def PIE (X:Cx) (pins:List (Addr×Obj)) (σ:St) (tg:Expr) (R:It->Hp->Prop) (itv:Value) (s2:Shared):Prop :=
 ∃ (it:Addr) (fp:List Addr) (tn:Nat->Heap->Prop) (J:It) (H':Hp),itv=.ref it/\Inv X pins σ H' s2/\Turn X.prog X.w X.K X.fz tg J fp it tn/\tn 0 s2.heap/\(∀ b∈fp,FpOk X pins H' b)/\R J H'
def PI (X:Cx) (tg iter:Expr) (wi:TI):Prop :=
 ∀ (pins:List (Addr×Obj)) (s:Shared) (σ:St) (H:Hp) (R:It->Hp->Prop),Inv X pins σ H s->wi σ H R ->
  wpAny (model X.prog X.w) X.A (eval iter X.env) (fun v s1=>wpAny (model X.prog X.w) X.A (pyIter v) (PIE X pins σ tg R) X.xe s1) X.xe s
theorem go_of {M:Model}{A:Around}{E:Value->Shared->Prop}{s:Shared}{tg:Expr}{it:Addr}{u:Value}{o:Obj}{n:String}{vs:Array Value}{Q:Unit->Shared->Prop}(ho:s.heap.get? it=some o) (hc:o.cls=.type n) (hd:o.data=.fields vs)
    (hn:["enumerate", "zip", "dict_itemiterator", "dict_reverseitemiterator", "odict_iterator", "itertools.zip_longest", "itertools.pairwise"].contains n=false) (hQ:Q () s):wpAny M A (letOwnedTupleGo tg (.ref it) u) Q E s:=by
  unfold letOwnedTupleGo
  cases tg<;>first
    | exact wpAny_pure hQ
    | (cases u<;>first
        | exact wpAny_pure hQ
        | (refine wpAny_bind (wpAny_load ho ?_)
           rw [hc,hd]
           show wpAny M A (if (["enumerate", "zip", "dict_itemiterator", "dict_reverseitemiterator", "odict_iterator", "itertools.zip_longest", "itertools.pairwise"].contains n && vs[0]? == some (rawInt _))=true then _ else _) Q E s
           rw [if_neg (by intro h;rw [hn,Bool.false_and] at h;cases h)]
           exact wpAny_pure hQ))
def Itl (K:PySem.W.Frag) (a:Addr):It :=
 ⟨fun i H=>∃ xs x,SqL K H a xs/\xs[i]? = some x,fun i H x H'=>H'=H/\∀ xs,SqL K H a xs->xs[i]? = some x,fun i H=>∃ xs,SqL K H a xs/\xs.length<=i⟩
def Itr (lo:Int) (n:Nat):It:=⟨fun i _=>i<n,fun i H x H'=>H'=H/\x=.int (lo+i),fun i _=>n<=i⟩
theorem turn_list {P:Program}{w:World}{K:PySem.W.Frag}{F:List (Addr×Obj×HO)}{tg:Expr}(a it:Addr):Turn P w K F tg (Itl K a) [it] it (fun i h=>h.IsListIter it a i) where
 mem:=by simp
 obj:=fun i h st b hb=>by
  have e:b=it:=by simpa using hb
  subst e
  obtain ⟨o,e,c,d⟩:=st
  exact ⟨o,e,fun v z=>by rw [d] at z;cases z⟩
 keep:=fun i h h' st k=>st.at fun o e=>k it (by simp) o e
 item:=by
  intro X hP hw hK hF hc i pins s σ H E I hf st hg
  subst hP hw hK
  obtain ⟨xs,x,hq,hx⟩:=hg
  obtain ⟨its,rv,p,hz⟩:=I.list hq
  obtain ⟨u,hu,ru⟩:=rv.get hx
  obtain ⟨f0,f1,f2,f3,f4,f5⟩:=hf it (by simp)
  refine wpAny_pyNext_list_item st p.isList (x:=u) (by simpa using hu) fun h' st' sb=>?_
  have I1:Inv X pins σ H { s with heap:=h' }:=I.turned (t':=s.toks) (fun b o hb e=>(sb.2 b hb).trans e) f0 f1 f3 f4 f5
  obtain ⟨o,e,c,d⟩:=id st'
  exact ⟨u,rfl,go_of (s:={ s with heap:=h' }) e c d (by decide) ⟨x,H,I1,ru,⟨rfl,fun ys hy=>by rw [I.list_inj hy hq];exact hx⟩,st',fun b hb=>(hf b hb).1⟩⟩
 done:=by
  intro X hP hw hK hF hc i pins s σ H E I hf st hg
  subst hP hw hK
  obtain ⟨xs,hq,hx⟩:=hg
  obtain ⟨its,rv,p,hz⟩:=I.list hq
  obtain ⟨f0,f1,f2,f3,f4,f5⟩:=hf it (by simp)
  have hl:=rv.length
  exact wpAny_pyNext_list_end (I.ok.hd hc) st p.isList (by simp;omega) fun h' eb=>⟨rfl,I.turned (t':=s.toks) (fun b o hb e=>eb b o hb e) f0 f1 f3 f4 f5⟩
 self:=fun _ _ _ _ _ st h=>wpAny_pyIter_listiter st h
theorem turn_range {P:Program}{w:World}{K:PySem.W.Frag}{F:List (Addr×Obj×HO)}{tg:Expr}(it:Addr) (lo:Int) (n:Nat):Turn P w K F tg (Itr lo n) [it] it (fun i h=>IsRangeIter h it (lo+(i:Nat)*1) ((n:Int)-(i:Nat)) 1) where
 mem:=by simp
 obj:=fun i h st b hb=>by
  have e:b=it:=by simpa using hb
  subst e
  exact ⟨_,st,fun v z=>by
   have z':Data.fields _=Data.cell v:=z
   cases z'⟩
 keep:=fun i h h' st k=>k it (by simp) _ st
 item:=by
  intro X hP hw hK hF hc i pins s σ H E I hf st hg
  subst hP hw hK
  obtain ⟨f0,f1,f2,f3,f4,f5⟩:=hf it (by simp)
  have W:=Walks.range (prog:=X.prog) (w:=X.w) (I.ok.hd hc) it lo 1 n
  refine W.item i s _ _ hg st fun v h' tk hv st' kk=>?_
  obtain ⟨t,rfl⟩:=hv
  have I1:Inv X pins σ H { s with heap:=h',toks:=tk }:=I.turned (fun b o hb e=>kk b o (by simpa using hb) e) f0 f1 f3 f4 f5
  refine ⟨_,rfl,go_of (s:={ s with heap:=h',toks:=tk }) (n:="range_iterator") st' rfl rfl (by decide) ⟨.int (lo+i),H,I1,⟨t,?_⟩,⟨rfl,rfl⟩,st',fun b hb=>(hf b hb).1⟩⟩
  rw [Int.mul_one]
 done:=by
  intro X hP hw hK hF hc i pins s σ H E I hf st hg
  subst hP hw hK
  obtain ⟨f0,f1,f2,f3,f4,f5⟩:=hf it (by simp)
  exact wpAny_pyNext_range_end (I.ok.hd hc) st (by have:n<=i:=hg;omega) fun h' eb=>⟨rfl,I.turned (t':=s.toks) (fun b o hb e=>eb b o hb e) f0 f1 f3 f4 f5⟩
 self:=fun _ _ _ _ _ st h=>wpAny_pyIter_rangeiter st h
section
variable {X:Cx}{tg:Expr}
def iList (K:PySem.W.Frag) (tl:TE):TI:=fun σ H R=>tl σ H fun x H1=>∃ a,x=.ref a/\(∃ xs,SqL K H1 a xs)/\R (Itl K a) H1
theorem pi_list {l:Expr}{tl:TE}(hl:PE X l tl):PI X tg l (iList X.K tl):=by
 intro pins s σ H R I h
 refine thn (hl pins s σ H _ I h) fun v s1 ⟨x,H1,I1,r1,q1⟩=>?_
 obtain ⟨a,e,⟨xs,hq⟩,q⟩:=q1
 subst e
 cases r1
 obtain ⟨its,rv,p,hz⟩:=I1.list hq
 refine wpAny_pyIter_list p.isList ?_
 refine ⟨s1.heap.objs.size,[s1.heap.objs.size],_,_,H1,rfl,I1.kept (t':=s1.toks) fun b o e=>Heap.get?_push_of_some _ e,turn_list a _,⟨_,Heap.get?_push_size _ rfl,rfl,rfl⟩,fun b hb=>?_,q⟩
 have e:b=s1.heap.objs.size:=by simpa using hb
 subst e
 exact I1.fpOk (Nat.le_refl _) (I1.hok.fresh (Nat.le_refl _))
theorem range_it {pins:List (Addr×Obj)}{σ:St}{H:Hp}{s:Shared}{R:It->Hp->Prop}{E:Value->Shared->Prop}{lo hi:Int}{t u v:Tok}{tk:Nat}(I:Inv X pins σ H s) (h1:-(2^62)<=lo) (h2:lo<2^62) (h3:-(2^62)<=hi) (h4:hi<2^62)
  (q:R (Itr lo (hi-lo).toNat) H):wpAny (model X.prog X.w) X.A (pyIter (.ref s.heap.objs.size)) (PIE X pins σ tg R) E { s with heap:=s.heap.push { cls:=.type "range",data:=.fields #[.int lo t,.int hi u,.int 1 v] },toks:=tk }:=by
 refine wpAny_pyIter_range (IsRange.new ..) (small_one h1 h2 h3 h4) ?_
 have I1:Inv X pins σ H { s with heap:=s.heap.push { cls:=.type "range",data:=.fields #[.int lo t,.int hi u,.int 1 v] },toks:=tk }:=I.kept fun b o e=>Heap.get?_push_of_some _ e
 refine ⟨(s.heap.push { cls:=.type "range",data:=.fields #[.int lo t,.int hi u,.int 1 v] }).objs.size,[(s.heap.push { cls:=.type "range",data:=.fields #[.int lo t,.int hi u,.int 1 v] }).objs.size],_,_,H,rfl,
  I1.kept (t':=tk) fun b o e=>Heap.get?_push_of_some _ e,turn_range _ lo (hi-lo).toNat,?_,fun b hb=>?_,q⟩
 ·have e1:lo+((0:Nat):Int)*1=lo:=by simp
  have e2:(((hi-lo).toNat:Nat):Int)-((0:Nat):Int)=Builtin.Range.rangeSize lo hi 1:=by rw [rangeSize_one];split<;>omega
  show IsRangeIter _ _ (lo+((0:Nat):Int)*1) ((((hi-lo).toNat:Nat):Int)-((0:Nat):Int)) 1
  rw [e1,e2]
  exact Heap.get?_push_size _ rfl
 ·have e:b=(s.heap.push { cls:=.type "range",data:=.fields #[.int lo t,.int hi u,.int 1 v] }).objs.size:=by simpa using hb
  subst e
  exact I1.fpOk (Nat.le_refl _) (I1.hok.fresh (Nat.le_refl _))
def iRng1 (ta:TA):TI:=fun σ H R=>ta σ H fun vs H1=>∃ j:Int,vs=[.int j]/\-(2^62)<=j/\j<2^62/\R (Itr 0 j.toNat) H1
theorem pi_range1 {a:Expr}{ta:TA}{p pos:Pos}(hg:Gl X "range") (hm:X.mg "range" = none) (ha:PA X [a] ta) (hs:starEach [a] X.env=[(false,eval a X.env)]:=by rfl):PI X tg (.Call (.Name "range" p) [a] [] pos) (iRng1 ta):=by
 intro pins s σ H R I h
 refine Call_ (ld_blt I hg hm boot_range (PyProof.Rows.callWith_type1 (thn (ha pos pins s σ H _ I h) fun us s1 ⟨vs,H1,I1,r1,q1⟩=>?_) hs rfl))
 obtain ⟨j,e,q1,q2,q⟩:=q1
 subst e
 cases r1 with
 | cons r rr =>
  cases rr
  obtain ⟨t,rfl⟩:=r
  exact call_range_1 (range_it I1 (by omega) (by omega) q1 q2 (by simpa using q))
def tFor (wi:TI) (g:TG) (tb:TS):TS:=fun D σ H=>wi σ H fun J H1=>∃ W:Nat->Nat->St->Hp->Prop,(∃ m,W 0 m σ H1)/\∀ i m σ H,W i m σ H ->
 (J.stop i H/\D.nx σ H)\/(J.go i H/\∃ N:St->Hp->Prop,(∀ σ' H',N σ' H'->∃ m',m' < m/\W (i+1) m' σ' H')/\∀ x H',J.yld i H x H'->g x σ H' fun σ2 H2=>tb { D with nx:=N,ct:=N,bk:=D.nx } σ2 H2)
def pinsAt (fp:List Addr) (h:Heap):List (Addr×Obj):=fp.filterMap fun b=>(h.get? b).map fun o=>(b,o)
theorem mem_pinsAt {fp:List Addr}{h:Heap}{b:Addr}{o:Obj}(hb:b∈fp) (e:h.get? b=some o):(b,o)∈pinsAt fp h:=List.mem_filterMap.mpr ⟨b,hb,by rw [e];rfl⟩
theorem of_pinsAt {fp:List Addr}{h:Heap}{p:Addr×Obj}(hp:p∈pinsAt fp h):p.1∈fp/\h.get? p.1=some p.2:=by
 obtain ⟨b,hb,e⟩:=List.mem_filterMap.mp hp
 cases q:h.get? b with
 | none=>rw [q] at e;cases e
 | some o =>
  rw [q] at e
  have e':(b,o)=p:=Option.some.inj e
  subst e'
  exact ⟨hb,q⟩
theorem Inv.pinned {pins:List (Addr×Obj)}{σ:St}{H:Hp}{s:Shared}{fp:List Addr}(I:Inv X pins σ H s) (hf:∀ b∈fp,FpOk X pins H b) (ho:∀ b∈fp,∃ o,s.heap.get? b=some o/\∀ v,o.data≠.cell v):Inv X (pins++pinsAt fp s.heap) σ H s :=
 I.pins_of fun p hp=>(List.mem_append.mp hp).elim (fun z=>I.pin p (List.mem_append_right _ z)) fun z=>by
  obtain ⟨hb,e⟩:=of_pinsAt z
  obtain ⟨f0,f1,f2,_⟩:=hf p.1 hb
  obtain ⟨o,e',d⟩:=ho p.1 hb
  rw [e] at e';cases e'
  exact ⟨e,f0,f1,f2,d⟩
theorem Inv.unpinned {pins pl:List (Addr×Obj)}{σ:St}{H:Hp}{s:Shared}(I:Inv X (pins++pl) σ H s):Inv X pins σ H s:=I.pins_of fun p hp=>I.pin p (List.mem_append_right _ (List.mem_append_left _ hp))
theorem ps_for {iter:Expr}{body:List Stmt}{wi:TI}{g:TG}{tb:TS}{pos:Pos}(hp:PassesOwn (model X.prog X.w) X.A X.env X.xe) (hc:X.calm=true) (hi:PI X tg iter wi) (hg:PG X tg g) (hb:PSs X body tb)
  (hs:∀ x,foldedSetIterable iter X.env x=pure x:=by intro _;rfl):PS X (.For tg iter body [] pos) (tFor wi g tb):=by
 intro pins s σ H D I h
 refine wpAny_For (thn (hi pins s σ H _ I h) fun v s1 h1=>thn h1 fun itv s2 h2=>?_) hs
 obtain ⟨it,fp,tn,J,H2,e,I2,T,st2,f2,W,⟨m0,w0⟩,turn⟩:=h2
 subst e
 have stat:∀ {H':Hp},(∀ b∈fp,H' b=none)->∀ b∈fp,FpOk X pins H' b:=fun hn b hb=>⟨hn b hb,(f2 b hb).2⟩
 refine codeAny_forLoop_any (fun n s'=>∃ i σ' H',Inv X pins σ' H' s'/\tn i s'.heap/\(∀ b∈fp,H' b=none)/\W i n σ' H') ?_ m0 ⟨0,σ,H2,I2,st2,fun b hb=>(f2 b hb).1,w0⟩
 rintro n s3 ⟨i,σ3,H3,I3,st3,fr3,w3⟩
 rcases turn i n σ3 H3 w3 with ⟨stop,qn⟩|⟨go,N,hN,step⟩
 ·refine wpAny_passesOwn hp (thn (T.done X rfl rfl rfl rfl hc i pins s3 σ3 H3 X.xe I3 (stat fr3) st3 stop) fun r s4 ⟨hr,I4⟩=>?_)
  subst hr
  exact wpAny_execs_nil ⟨σ3,H3,I4,qn⟩
 ·refine wpAny_passesOwn hp (thn (T.item X rfl rfl rfl rfl hc i pins s3 σ3 H3 X.xe I3 (stat fr3) st3 go) fun r s4 ⟨u,hr,h4⟩=>?_)
  subst hr
  refine wpAny_passesOwn hp (thn h4 fun _ s5 ⟨x,H5,I5,r5,y5,st5,fr5⟩=>?_)
  have I5':=I5.pinned (stat fr5) (T.obj _ _ st5)
  refine wpAny_passesOwn hp (thn (hg _ s5 σ3 H5 x u _ I5' r5 (step x H5 y5)) fun _ s6 ⟨σ6,H6,I6,q6⟩=>?_)
  refine wpAny_passesOwn hp (thn (hb _ s6 σ6 H6 _ I6 q6) fun f s7 q7=>?_)
  have again:∀ {σ7:St} {H7:Hp},Inv X (pins++pinsAt fp s5.heap) σ7 H7 s7->N σ7 H7->∃ m,m<n/\∃ i σ' H',Inv X pins σ' H' s7/\tn i s7.heap/\(∀ b∈fp,H' b=none)/\W i m σ' H':=fun {σ7 H7} I7 n7=>by
   obtain ⟨m',hm,w7⟩:=hN σ7 H7 n7
   refine ⟨m',hm,i+1,σ7,H7,I7.unpinned,T.keep _ _ _ st5 fun b hb o e=>(I7.pin (b,o) (List.mem_append_right _ (List.mem_append_right _ (mem_pinsAt hb e)))).1,fun b hb=>?_,w7⟩
   obtain ⟨o,e,d⟩:=T.obj _ _ st5 b hb
   exact (I7.pin (b,o) (List.mem_append_right _ (List.mem_append_right _ (mem_pinsAt hb e)))).2.1
  cases f with
  | next=>obtain ⟨σ7,H7,I7,n7⟩:=q7;exact again I7 n7
  | cont=>obtain ⟨σ7,H7,I7,n7⟩:=q7;exact again I7 n7
  | brk=>obtain ⟨σ7,H7,I7,q7⟩:=q7;exact ⟨σ7,H7,I7.unpinned,q7⟩
  | ret v=>obtain ⟨x7,σ7,H7,I7,r7,q7⟩:=q7;exact ⟨x7,σ7,H7,I7.unpinned,r7,q7⟩
end
abbrev R2:=V->V->Hp->VK->Prop
def OpR (X:Cx) (f:Value->Value->Sem Value) (r:R2):Prop :=
 ∀ (pins:List (Addr×Obj)) (s:Shared) (σ:St) (H:Hp) (x y:V) (v u:Value) (Q:VK),Inv X pins σ H s->RelV x v->RelV y u->r x y H Q ->
  wpAny (model X.prog X.w) X.A (f v u) (EP X pins σ Q) X.xe s
def UnR (X:Cx) (f:Value->Sem Value) (r:V->Hp->VK->Prop):Prop :=
 ∀ (pins:List (Addr×Obj)) (s:Shared) (σ:St) (H:Hp) (x:V) (v:Value) (Q:VK),Inv X pins σ H s->RelV x v->r x H Q ->
  wpAny (model X.prog X.w) X.A (f v) (EP X pins σ Q) X.xe s
def CallR (X:Cx) (f:Value) (r:List V->Hp->VK->Prop):Prop :=
 ∀ (pins:List (Addr×Obj)) (s:Shared) (σ:St) (H:Hp) (xs:List V) (us:List Value) (Q:VK),Inv X pins σ H s->Vals xs us->r xs H Q ->
  wpAny (model X.prog X.w) X.A (call f us) (EP X pins σ Q) X.xe s
def tOp (r:R2) (ta tb:TE):TE:=fun σ H Q=>ta σ H fun x H1=>tb σ H1 fun y H2=>r x y H2 Q
def tUn (r:V->Hp->VK->Prop) (ta:TE):TE:=fun σ H Q=>ta σ H fun x H1=>r x H1 Q
def rI (C:Int->Int->Prop) (g:Int->Int->V):R2:=fun x y H Q=>∃ i j,x=.int i/\y=.int j/\C i j/\Q (g i j) H
def rI0 (g:Int->Int->V):R2:=fun x y H Q=>∃ i j,x=.int i/\y=.int j/\Q (g i j) H
def rU (g:Int->V):V->Hp->VK->Prop:=fun x H Q=>∃ i,x=.int i/\Q (g i) H
section
variable {X:Cx}{a b c:Expr}{ta tb tc:TE}{pos:Pos}
theorem binT (ha:PE X a ta) (hb:PE X b tb) {pins:List (Addr×Obj)}{s:Shared}{σ:St}{H:Hp}{R:V->V->Hp->Prop}(I:Inv X pins σ H s)
  (h:ta σ H fun x H1=>tb σ H1 fun y H2=>R x y H2) {Q:Value->Shared->Prop} {f:Value->Value->Sem Value}
  (hf:∀ v u s2 x y H2,Inv X pins σ H2 s2->RelV x v->RelV y u->R x y H2->wpAny (model X.prog X.w) X.A (f v u) Q X.xe s2) :
  wpAny (model X.prog X.w) X.A (eval a X.env) (fun v s₁=>wpAny (model X.prog X.w) X.A (eval b X.env) (fun u s₂=>wpAny (model X.prog X.w) X.A (f v u) Q X.xe s₂) X.xe s₁) X.xe s:=by
 refine thn (ha pins s σ H _ I h) fun v s1 ⟨x,H1,I1,r1,q1⟩=>?_
 refine thn (hb pins s1 σ H1 _ I1 q1) fun u s2 ⟨y,H2,I2,r2,q2⟩=>?_
 exact hf v u s2 x y H2 I2 r1 r2 q2
theorem pe_op {op:Operator}{r:R2}(ho:OpR X (binaryOp op) r) (ha:PE X a ta) (hb:PE X b tb):PE X (.BinOp a op b pos) (tOp r ta tb):=by
 intro pins s σ H Q I h
 exact wpAny_BinOp (binT ha hb I h fun v u s2 x y H2 I2 rx ry q=>ho pins s2 σ H2 x y v u Q I2 rx ry q)
theorem pe_un {op:UnaryOp}{r:V->Hp->VK->Prop}(ho:UnR X (unaryOp op) r) (ha:PE X a ta):PE X (.UnaryOp op a pos) (tUn r ta):=by
 intro pins s σ H Q I h
 exact UnaryOp_ (thn (ha pins s σ H _ I h) fun v s1 ⟨x,H1,I1,r1,q1⟩=>ho pins s1 σ H1 x v Q I1 r1 q1)
theorem opI {f:Value->Value->Sem Value}{C:Int->Int->Prop}{g:Int->Int->Int}
  (rule:∀ (i j:Int) (t u:Tok) (s:Shared) (Q:Value->Shared->Prop) (E:Value->Shared->Prop),C i j->Q (.int (g i j) s.toks) { s with toks:=s.toks+1 }->wpAny (model X.prog X.w) X.A (f (.int i t) (.int j u)) Q E s) :
  OpR X f (rI C fun i j=>.int (g i j)):=by
 intro pins s σ H x y v u Q I rx ry h
 obtain ⟨i,j,rfl,rfl,hc,q⟩:=h
 obtain ⟨t,rfl⟩:=rx
 obtain ⟨t',rfl⟩:=ry
 exact rule i j t t' s _ _ hc ⟨.int (g i j),H,I.tok _,⟨_,rfl⟩,q⟩
theorem opI0 {f:Value->Value->Sem Value}{g:Int->Int->Int}
  (rule:∀ (i j:Int) (t u:Tok) (s:Shared) (Q:Value->Shared->Prop) (E:Value->Shared->Prop),Q (.int (g i j) s.toks) { s with toks:=s.toks+1 }->wpAny (model X.prog X.w) X.A (f (.int i t) (.int j u)) Q E s) :
  OpR X f (rI0 fun i j=>.int (g i j)):=by
 intro pins s σ H x y v u Q I rx ry h
 obtain ⟨i,j,rfl,rfl,q⟩:=h
 obtain ⟨t,rfl⟩:=rx
 obtain ⟨t',rfl⟩:=ry
 exact rule i j t t' s _ _ ⟨.int (g i j),H,I.tok _,⟨_,rfl⟩,q⟩
theorem opB0 {f:Value->Value->Sem Value}{g:Int->Int->Bool}
  (rule:∀ (i j:Int) (t u:Tok) (s:Shared) (Q:Value->Shared->Prop) (E:Value->Shared->Prop),Q (.bool (g i j)) s->wpAny (model X.prog X.w) X.A (f (.int i t) (.int j u)) Q E s) :
  OpR X f (rI0 fun i j=>.bl (g i j)):=by
 intro pins s σ H x y v u Q I rx ry h
 obtain ⟨i,j,rfl,rfl,q⟩:=h
 obtain ⟨t,rfl⟩:=rx
 obtain ⟨t',rfl⟩:=ry
 exact rule i j t t' s _ _ ⟨.bl (g i j),H,I,rfl,q⟩
def CDiv (i j:Int):Prop:=0<j/\j<1073741824
def CMul (i j:Int):Prop:=(-(2^64)<i/\i<2^64)\/(-(2^64)<j/\j<2^64)
theorem CMul.ok {i j:Int}(h:CMul i j):IntMulOk i j:=by
 rcases h with ⟨h1,h2⟩|⟨h1,h2⟩
 ·exact .of_left (intBits_le_64 h1 h2)
 ·exact .of_right (intBits_le_64 h1 h2)
theorem op_add:OpR X (binaryOp .Add) (rI0 fun i j=>.int (i+j)):=opI0 fun _ _ _ _ _ _ _ q=>add_int q
theorem op_mul:OpR X (binaryOp .Mult) (rI CMul fun i j=>.int (i*j)):=opI fun _ _ _ _ _ _ _ hc q=>mul_int q hc.ok
theorem op_fdiv:OpR X (binaryOp .FloorDiv) (rI CDiv fun i j=>.int (i / j)):=opI fun i j _ _ _ _ _ hc q=>by
 have h1:(0:Int)<j:=hc.1
 have h2:j<1073741824:=hc.2
 exact floordiv_int (by omega) (by rw [Int.fdiv_eq_ediv_of_nonneg i (by omega)];exact q) (.inl (PyProof.noPylong_small (by omega)))
theorem op_mod:OpR X (binaryOp .Mod) (rI (fun _ j=>0<j) fun i j=>.int (i%j)):=opI fun i j _ _ _ _ _ hc q=>by
 have h1:(0:Int)<j:=hc
 exact mod_int' (by omega) (by rw [Int.fmod_eq_emod_of_nonneg i (by omega)];exact q)
theorem unI {f:Value->Sem Value}{g:Int->Int}
  (rule:∀ (i:Int) (t:Tok) (s:Shared) (Q:Value->Shared->Prop) (E:Value->Shared->Prop),Q (.int (g i) s.toks) { s with toks:=s.toks+1 }->wpAny (model X.prog X.w) X.A (f (.int i t)) Q E s) :
  UnR X f (rU fun i=>.int (g i)):=by
 intro pins s σ H x v Q I rx h
 obtain ⟨i,rfl,q⟩:=h
 obtain ⟨t,rfl⟩:=rx
 exact rule i t s _ _ ⟨.int (g i),H,I.tok _,⟨_,rfl⟩,q⟩
theorem un_neg:UnR X (unaryOp .USub) (rU fun i=>.int (-i)):=unI fun _ _ _ _ _ q=>neg_int q
end
def scal:V->V->Bool
 | .non,.non=>true | .non,.int _=>true | .int _,.non=>true | .non,.bl _=>true | .bl _,.non=>true | .non,.str _=>true | .str _,.non=>true
 | .int _,.int _=>true | .bl _,.bl _=>true | .str _,.str _=>true | .byt _,.byt _=>true
 | .int _,.str _=>true | .str _,.int _=>true | .bl _,.str _=>true | .str _,.bl _=>true
 | _,_=>false
def rEq:R2:=fun x y H Q=>scal x y=true/\Q (.bl (decide (x=y))) H
def rNe:R2:=fun x y H Q=>scal x y=true/\Q (.bl (!decide (x=y))) H
theorem dec_int {i j:Int}:decide (V.int i=V.int j)=(i == j):=by
 rw [Bool.eq_iff_iff]
 simp
theorem dec_bl {i j:Bool}:decide (V.bl i=V.bl j)=(i == j):=by
 rw [Bool.eq_iff_iff]
 simp
theorem dec_str {i j:Str}:decide (V.str i=V.str j)=(i == j):=by
 rw [Bool.eq_iff_iff]
 simp
theorem dec_byt {i j:Array UInt8}:decide (V.byt i=V.byt j)=(i.toList == j.toList):=by
 rw [Bool.eq_iff_iff]
 cases i
 cases j
 simp
section
variable {X:Cx}{a b c:Expr}{ta tb tc:TE}{pos:Pos}
theorem fin_bl {pins:List (Addr×Obj)}{σ:St}{H:Hp}{s:Shared}{Q:VK}{k k':Bool}(I:Inv X pins σ H s) (q:Q (.bl k) H) (e:k=k'):EP X pins σ Q (.bool k') s:=by
 subst e
 exact ⟨.bl k,H,I,rfl,q⟩
theorem op_eq:OpR X (compareOp .Eq) rEq:=by
 intro pins s σ H x y v u Q I rx ry h
 obtain ⟨hs,q⟩:=h
 cases x with
 | non =>
  cases rx
  cases y with
  | non=>cases ry;exact PySem.EqNone.eq_none_none (fin_bl I q (by simp))
  | bl j=>cases ry;exact PySem.EqNone.eq_none_bool (fin_bl I q (by simp))
  | int j=>obtain ⟨t',rfl⟩:=ry;exact PySem.EqNone.eq_none_int (fin_bl I q (by simp))
  | str j=>obtain ⟨t',rfl⟩:=ry;exact PySem.EqNone.eq_none_str (fin_bl I q (by simp))
  | _=>exact absurd (show false=true from hs) Bool.false_ne_true
 | bl i =>
  cases rx
  cases y with
  | non=>cases ry;exact PySem.EqNone.eq_bool_none (fin_bl I q (by simp))
  | bl j=>cases ry;exact eq_bool (fin_bl I q dec_bl)
  | str j=>obtain ⟨t',rfl⟩:=ry;exact PySem.EqMixed.eq_bool_str (fin_bl I q (by simp))
  | _=>exact absurd (show false=true from hs) Bool.false_ne_true
 | int i =>
  obtain ⟨t,rfl⟩:=rx
  cases y with
  | non=>cases ry;exact PySem.EqNone.eq_int_none (fin_bl I q (by simp))
  | int j=>obtain ⟨t',rfl⟩:=ry;exact eq_int (fin_bl I q dec_int)
  | str j=>obtain ⟨t',rfl⟩:=ry;exact PySem.EqMixed.eq_int_str (fin_bl I q (by simp))
  | _=>exact absurd (show false=true from hs) Bool.false_ne_true
 | str i =>
  obtain ⟨t,rfl⟩:=rx
  cases y with
  | non=>cases ry;exact PySem.EqNone.eq_str_none (fin_bl I q (by simp))
  | bl j=>cases ry;exact PySem.EqMixed.eq_str_bool (fin_bl I q (by simp))
  | int j=>obtain ⟨t',rfl⟩:=ry;exact PySem.EqMixed.eq_str_int (fin_bl I q (by simp))
  | str j=>obtain ⟨t',rfl⟩:=ry;exact eq_str (fin_bl I q dec_str)
  | _=>exact absurd (show false=true from hs) Bool.false_ne_true
 | byt i =>
  obtain ⟨t,rfl⟩:=rx
  cases y with
  | byt j=>obtain ⟨t',rfl⟩:=ry;exact PySem.W.eq_bytes (fin_bl I q dec_byt)
  | _=>exact absurd (show false=true from hs) Bool.false_ne_true
 | _=>cases y<;>exact absurd (show false=true from hs) Bool.false_ne_true
theorem op_ne:OpR X (compareOp .NotEq) rNe:=by
 intro pins s σ H x y v u Q I rx ry h
 obtain ⟨hs,q⟩:=h
 cases x with
 | non =>
  cases rx
  cases y with
  | non=>cases ry;exact PySem.EqNone.ne_none_none (fin_bl I q (by simp))
  | bl j=>cases ry;exact PySem.EqNone.ne_none_bool (fin_bl I q (by simp))
  | int j=>obtain ⟨t',rfl⟩:=ry;exact PySem.EqNone.ne_none_int (fin_bl I q (by simp))
  | str j=>obtain ⟨t',rfl⟩:=ry;exact PySem.EqNone.ne_none_str (fin_bl I q (by simp))
  | _=>exact absurd (show false=true from hs) Bool.false_ne_true
 | bl i =>
  cases rx
  cases y with
  | non=>cases ry;exact PySem.EqNone.ne_bool_none (fin_bl I q (by simp))
  | bl j=>cases ry;exact ne_bool (fin_bl I q (congrArg not dec_bl))
  | str j=>obtain ⟨t',rfl⟩:=ry;exact PySem.EqMixed.ne_bool_str (fin_bl I q (by simp))
  | _=>exact absurd (show false=true from hs) Bool.false_ne_true
 | int i =>
  obtain ⟨t,rfl⟩:=rx
  cases y with
  | non=>cases ry;exact PySem.EqNone.ne_int_none (fin_bl I q (by simp))
  | int j=>obtain ⟨t',rfl⟩:=ry;exact ne_int (fin_bl I q (congrArg not dec_int))
  | str j=>obtain ⟨t',rfl⟩:=ry;exact PySem.EqMixed.ne_int_str (fin_bl I q (by simp))
  | _=>exact absurd (show false=true from hs) Bool.false_ne_true
 | str i =>
  obtain ⟨t,rfl⟩:=rx
  cases y with
  | non=>cases ry;exact PySem.EqNone.ne_str_none (fin_bl I q (by simp))
  | bl j=>cases ry;exact PySem.EqMixed.ne_str_bool (fin_bl I q (by simp))
  | int j=>obtain ⟨t',rfl⟩:=ry;exact PySem.EqMixed.ne_str_int (fin_bl I q (by simp))
  | str j=>obtain ⟨t',rfl⟩:=ry;exact ne_str (fin_bl I q (congrArg not dec_str))
  | _=>exact absurd (show false=true from hs) Bool.false_ne_true
 | byt i =>
  obtain ⟨t,rfl⟩:=rx
  cases y with
  | byt j=>obtain ⟨t',rfl⟩:=ry;exact PySem.W.ne_bytes (fin_bl I q (congrArg not dec_byt))
  | _=>exact absurd (show false=true from hs) Bool.false_ne_true
 | _=>cases y<;>exact absurd (show false=true from hs) Bool.false_ne_true
theorem op_lt:OpR X (compareOp .Lt) (rI0 fun i j=>.bl (decide (i<j))):=opB0 fun _ _ _ _ _ _ _ q=>lt_int q
theorem op_le:OpR X (compareOp .LtE) (rI0 fun i j=>.bl (decide (i<=j))):=opB0 fun _ _ _ _ _ _ _ q=>le_int q
theorem OpR.or {f:Value->Value->Sem Value}{r r':R2}(h:OpR X f r) (h':OpR X f r'):OpR X f (fun x y H Q=>r x y H Q\/r' x y H Q):=by
 intro pins s σ H x y v u Q I rx ry q
 rcases q with q|q
 ·exact h pins s σ H x y v u Q I rx ry q
 ·exact h' pins s σ H x y v u Q I rx ry q
theorem nomark (b:Expr) {op:CmpOp}(h:op≠.In:=by decide) (h2:op≠.NotIn:=by decide):behindInMarks op b=false:=by
 have e1:(op == CmpOp.In)=false:=by cases op<;>first | rfl | exact absurd rfl h
 have e2:(op == CmpOp.NotIn)=false:=by cases op<;>first | rfl | exact absurd rfl h2
 cases b<;>simp [behindInMarks,e1,e2]
theorem pe_cmpR {op:CmpOp}{r:R2}(ho:OpR X (compareOp op) r) (ha:PE X a ta) (hb:PE X b tb) (hm:behindInMarks op b=false):PE X (.Compare a [op] [b] pos) (tOp r ta tb):=by
 intro pins s σ H Q I h
 exact wpAny_Compare1 (binT ha hb I h fun v u s2 x y H2 I2 rx ry q=>ho pins s2 σ H2 x y v u Q I2 rx ry q) hm
def tTest (t:TE):TT:=fun σ H Q=>t σ H fun x H'=>∃ k,x=.bl k/\Q k H'
theorem pt_cmpR {op:CmpOp}{r:R2}(ho:OpR X (compareOp op) r) (ha:PE X a ta) (hb:PE X b tb) (hm:behindInMarks op b=false):PT X (.Compare a [op] [b] pos) (tTest (tOp r ta tb)):=by
 intro pins s σ H Q I h
 refine wpAny_isTrue_Compare1 (thn (ha pins s σ H _ I h) fun v s1 ⟨x,H1,I1,r1,q1⟩=>thn (hb pins s1 σ H1 _ I1 q1) fun u s2 ⟨y,H2,I2,r2,q2⟩ =>
  thn (ho pins s2 σ H2 x y v u _ I2 r1 r2 q2) fun c s3 ⟨z,H3,I3,r3,k,e,q3⟩=>?_) hm
 subst e
 cases r3
 exact wpAny_truthy_bool ⟨H3,I3,q3⟩
def tChain (r r':R2) (ta tb tc:TE):TE:=fun σ H Q=>ta σ H fun x H1=>tb σ H1 fun y H2=>r x y H2 fun z H3=>∃ k,z=.bl k /\
 (if k=true then tc σ H3 fun w' H4=>r' y w' H4 Q else Q (.bl false) H3)
theorem pe_chain {op op':CmpOp}{r r':R2}(ho:OpR X (compareOp op) r) (ho':OpR X (compareOp op') r') (ha:PE X a ta) (hb:PE X b tb) (hc:PE X c tc)
  (hm:lastMarks [op,op'] [b,c]=false:=by with_unfolding_all rfl):PE X (.Compare a [op,op'] [b,c] pos) (tChain r r' ta tb tc):=by
 intro pins s σ H Q I h
 refine Compare_chain (thn (ha pins s σ H _ I h) fun v s1 ⟨x,H1,I1,r1,q1⟩=>chain_link (thn (hb pins s1 σ H1 _ I1 q1) fun u s2 ⟨y,H2,I2,r2,q2⟩ =>
  thn (ho pins s2 σ H2 x y v u _ I2 r1 r2 q2) fun d s3 ⟨z,H3,I3,r3,k,e,q3⟩=>?_)) hm
 subst e
 cases r3
 refine wpAny_truthy_bool ?_
 cases k with
 | false=>exact ite_ff ⟨.bl false,H3,I3,rfl,q3⟩
 | true=>exact ite_tt (chain_last (thn (hc pins s3 σ H3 _ I3 q3) fun w' s4 ⟨z',H4,I4,r4,q4⟩=>ho' pins s4 σ H4 y z' u w' Q I4 r2 r4 q4))
theorem line63:(sizeLine:Nat)<2^63:=by rw [sizeLine_eq];decide
theorem op_add_str:OpR X (binaryOp .Add) (fun x y H Q=>∃ i j,x=.str i/\y=.str j/\i.length+j.length<=sizeLine/\Q (.str (i++j)) H):=by
 intro pins s σ H x y v u Q I rx ry h
 obtain ⟨i,j,rfl,rfl,hz,q⟩:=h
 obtain ⟨t,rfl⟩:=rx
 obtain ⟨t',rfl⟩:=ry
 exact add_str (fun t' tk=>⟨.str (i++j),H,I.tok _,⟨_,rfl⟩,q⟩) hz
theorem vals1 {x:V}{us:List Value}(r:Vals [x] us):∃ u,us=[u]/\RelV x u:=by
 cases r with
 | cons r1 r2=>cases r2;exact ⟨_,rfl,r1⟩
theorem vals2 {x y:V}{us:List Value}(r:Vals [x,y] us):∃ u w',us=[u,w']/\RelV x u/\RelV y w':=by
 cases r with
 | cons r1 r2 =>
  cases r2 with
  | cons r3 r4=>cases r4;exact ⟨_,_,rfl,r1,r3⟩
theorem call_max2 (hc:X.calm=true):CallR X (.builtin "max") (fun xs H Q=>∃ i j,xs=[.int i,.int j]/\Q (.int (if j > i then j else i)) H):=by
 intro pins s σ H xs us Q I r h
 obtain ⟨i,j,rfl,q⟩:=h
 obtain ⟨u,w',rfl,⟨t,rfl⟩,⟨t',rfl⟩⟩:=vals2 r
 refine max_two_ints (I.ok.hd hc) fun h' tk k=>⟨_,H,I.kept k,?_,q⟩
 by_cases hj:j > i
 ·rw [if_pos hj,if_pos hj];exact ⟨_,rfl⟩
 ·rw [if_neg hj,if_neg hj];exact ⟨_,rfl⟩
theorem call_min2 (hc:X.calm=true):CallR X (.builtin "min") (fun xs H Q=>∃ i j,xs=[.int i,.int j]/\Q (.int (if j<i then j else i)) H):=by
 intro pins s σ H xs us Q I r h
 obtain ⟨i,j,rfl,q⟩:=h
 obtain ⟨u,w',rfl,⟨t,rfl⟩,⟨t',rfl⟩⟩:=vals2 r
 refine min_two_ints (I.ok.hd hc) fun h' tk k=>⟨_,H,I.kept k,?_,q⟩
 by_cases hj:j<i
 ·rw [if_pos hj,if_pos hj];exact ⟨_,rfl⟩
 ·rw [if_neg hj,if_neg hj];exact ⟨_,rfl⟩
end
structure ObjM (h:Heap) (x dx C:Addr) (mA:Str->Option Value):Prop where
 obj:h.get? x=some (PySem.W.instObj C dx)
 ns:h.Ns1 dx mA
 ne:dx≠x
theorem lookIn_ns {h:Heap}{dx:Addr}{mA:Str->Option Value}(n:h.Ns1 dx mA):∃ od,h.get? dx=some od/\∀ name,PySem.W.lookIn name od=some (mA name):=by
 obtain ⟨o,es,ep,ho,hd,hk,_,hm⟩:=n
 refine ⟨o,ho,fun name=>?_⟩
 have e:=hm name
 unfold nsFind findBy at e
 rw [<- Array.find?_toList] at e
 unfold PySem.W.lookIn
 rw [hd]
 dsimp only
 split
 ·rename_i y q
  rw [q] at e
  exact congrArg some e
 ·rename_i q
  rw [q] at e
  have a:es.toList.any (·.refKey)=false:=by
   rw [List.any_eq_false]
   intro y hy
   obtain ⟨z,t,hkey⟩:=hk y (Array.mem_toList_iff.mp hy)
   simp [DictEntry.refKey,hkey]
  have a':¬ es.toList.any (·.refKey)=true:=by rw [a];exact Bool.false_ne_true
  rw [if_neg a']
  exact congrArg some e
theorem ObjM.look {h:Heap}{x dx C:Addr}{mA:Str->Option Value}(I:ObjM h x dx C mA):∃ od,PySem.W.InstAt h x (PySem.W.instObj C dx) C (some od)/\∀ name,PySem.W.lookIn name od=some (mA name) :=
 let ⟨od,ho,hl⟩:=lookIn_ns I.ns
 ⟨od,⟨I.obj,rfl,rfl,ho⟩,hl⟩
section
variable {prog:Program}{w:World}{A:Around}{E:Value->Shared->Prop}{s:Shared}{K:PySem.W.Frag}{x dx C f:Addr}{mA:Str->Option Value}{name:Str}{v:Value}
theorem get_map {expr:Bool}{Q:Value->Shared->Prop}(X:K.In s.heap) (I:ObjM s.heap x dx C mA) (hg:PySem.W.plainGet K C name=true) (hh:PySem.W.hasDictIn K C=true)
  (ha:PySem.W.findIn K (.ref C) name=some none) (hv:mA name=some v) (hv':PySem.W.handedIn v=true) (h:Q v { s with toks:=s.toks+1 }) :
  wpAny (model prog w) A (getAttr (.ref x) name expr) Q E s:=by
 obtain ⟨od,J,hl⟩:=I.look
 exact PySem.W.get_value X J (PySem.W.plainGet_of hg).1 (PySem.W.findObj_own hh ha rfl (by rw [hl,hv])) hv' h
theorem get_meth {pl:Sem Bool}{Q:Value×List Value->Shared->Prop}(X:K.In s.heap) (I:ObjM s.heap x dx C mA) (hg:PySem.W.plainGet K C name=true)
  (hf:PySem.W.findIn K (.ref C) name=some (some (.ref f))) (ht:PySem.W.isFn K (.ref f)=true) (hv:mA name=none) (h:Q (.ref f,[.ref x]) s) :
  wpAny (model prog w) A (getMethod (.ref x) name pl) Q E s:=by
 obtain ⟨od,J,hl⟩:=I.look
 exact PySem.W.method_fn X J (PySem.W.plainGet_of hg).1 (PySem.W.plainGet_of hg).2 hf (beq_iff_eq.mp ht) (by show (PySem.W.lookIn name od).map (·.isSome)=some false;rw [hl,hv];rfl) h
theorem set_map {ns:List Str}{Q:Unit->Shared->Prop}(X:K.In s.heap) (I:ObjM s.heap x dx C mA)
  (hs:PySem.W.findIn K (.ref C) "__setattr__" = some (some (.builtin "object.__setattr__"))) (hp:PySem.W.plainOver K C=true) (ht:PySem.W.takerIn K C name=some none) (hh:PySem.W.hasDictIn K C=true)
  (hw:PySem.Within mA ns) (hsz:ns.length<=sizeLine)
  (h:∀ h',ObjM h' x dx C (fun y=>if y=name then some v else mA y)->Heap.SameBut dx s.heap h'->Q () { s with heap:=h',toks:=s.toks+2 }) :
  wpAny (model prog w) A (setAttr (.ref x) name v) Q E s:=by
 obtain ⟨od,J,hl⟩:=I.look
 refine PySem.W.set_plain X J hs (PySem.W.osa_open (s:={ s with toks:=s.toks+1 }) (r:=none) X J hp ht fun b=>?_)
 obtain ⟨cd,hc,hd'⟩:=PySem.W.any_some hh
 have hx:s.heap.get? x=some ⟨.ref C,some dx,.plain,#[]⟩:=I.obj
 refine wpAny_bind (wpAny_pure (wpAny_bind (wpAny_bind (wpAny_loadPart hx (wpAny_bind (PySem.W.Looks.here (s:={ s with toks:=s.toks+1 }) (PySem.W.looks_clsIn X hc) ?_))))))
 rw [hd']
 refine wpAny_pure (a:=some dx) (wpAny_bind (wpAny_pure (wpAny_bind ?_)))
 refine wpAny_nsSet1 (s:={ s with toks:=s.toks+1 }) I.ns fun h' hn2 hs2=>?_
 obtain ⟨oD,esD,epD,hoD,hdD,hcD⟩:=hn2.count (PySem.Within.cons name v hw)
 refine wpAny_bind (wpAny_lookBehind hoD (by rw [hdD];exact pastItsLine_dict (Nat.le_trans hcD (by rw [List.length_cons];omega))) ?_)
 exact wpAny_pure (h _ ⟨(hs2.2 _ (Ne.symm I.ne)).trans I.obj,hn2,I.ne⟩ hs2)
theorem make_map {R:Result->Shared->Prop}{vs:List Value}{kw:List (Str×Value)}(X:K.In s.heap) (hm:PySem.W.makesIn K C=true)
  (hi:PySem.W.findIn K (.ref C) "__init__" = some (some (.ref f))) (hf:PySem.W.typeIn K (.ref f)=some (.type "function"))
  (h:codeAny (model prog w) (A.under (.builtin "type.__call__" ⟨.ref C::vs,kw⟩)) (.call (.ref f) ⟨.ref (s.heap.objs.size+1)::vs,kw⟩) (PySem.W.InitBack (s.heap.objs.size+1) R)
   { s with heap:=(s.heap.push PySem.W.emptyDict).push (PySem.W.instObj C s.heap.objs.size) }) :
  codeAny (model prog w) A (.call (.ref C) ⟨vs,kw⟩) R s:=by
 obtain ⟨hh,g,d,t,os⟩:=s
 exact PySem.W.make_core (PySem.W.makes_of X hm) (PySem.W.looks_findIn X hi) (fun self=>PySem.W.bind_fn X self hf) (.inl rfl) h
end
def putF (f:Str) (v:V):List (Str×V)->List (Str×V)
 | []=>[(f,v)]
 | (g,x)::r=>if g=f then (g,v)::r else (g,x)::putF f v r
theorem lookup_putF (f g:Str) (v:V):∀ fs:List (Str×V),(putF f v fs).lookup g=if g=f then some v else fs.lookup g
 | []=>by
  show List.lookup g [(f,v)]=_
  by_cases h:g=f
  ·have hb:(g == f)=true:=beq_iff_eq.mpr h
   simp only [List.lookup,hb,if_pos h]
  ·have hb:(g == f)=false:=beq_eq_false_iff_ne.mpr h
   simp only [List.lookup,hb,if_neg h]
 | (k,x)::r=>by
  have ih:=lookup_putF f g v r
  rw [show putF f v ((k,x)::r)=(if k=f then (k,v)::r else (k,x)::putF f v r) from rfl]
  by_cases hk:k=f
  ·rw [if_pos hk]
   by_cases h:g=k
   ·have hb:(g == k)=true:=beq_iff_eq.mpr h
    simp only [List.lookup,hb,if_pos (h.trans hk)]
   ·have hb:(g == k)=false:=beq_eq_false_iff_ne.mpr h
    simp only [List.lookup,hb,if_neg (fun e:g=f=>h (e.trans hk.symm))]
  ·rw [if_neg hk]
   by_cases h:g=k
   ·have hb:(g == k)=true:=beq_iff_eq.mpr h
    simp only [List.lookup,hb,if_neg (fun e:g=f=>hk (h.symm.trans e))]
   ·have hb:(g == k)=false:=beq_eq_false_iff_ne.mpr h
    simp only [List.lookup,hb]
    exact ih
theorem keys_putF (f:Str) (v:V):∀ fs:List (Str×V),f∈(putF f v fs).map (·.1)/\∀ g,g∈fs.map (·.1)->g∈(putF f v fs).map (·.1)
 | []=>⟨by simp [putF],fun g h=>by simp at h⟩
 | (k,x)::r=>by
  obtain ⟨i1,i2⟩:=keys_putF f v r
  rw [show putF f v ((k,x)::r)=(if k=f then (k,v)::r else (k,x)::putF f v r) from rfl]
  by_cases hk:k=f
  ·rw [if_pos hk]
   subst hk
   exact ⟨by simp,fun g h=>by simpa using h⟩
  ·rw [if_neg hk]
   refine ⟨?_,fun g h=>?_⟩
   ·rw [List.map_cons]
    exact List.mem_cons_of_mem _ i1
   ·rw [List.map_cons] at h ⊢
    rcases List.mem_cons.mp h with e|e
    ·exact List.mem_cons.mpr (.inl e)
    ·exact List.mem_cons_of_mem _ (i2 g e)
theorem length_putF (f:Str) (v:V):∀ fs:List (Str×V),(putF f v fs).length<=fs.length+1
 | []=>by simp [putF]
 | (k,x)::r=>by
  have ih:=length_putF f v r
  rw [show putF f v ((k,x)::r)=(if k=f then (k,v)::r else (k,x)::putF f v r) from rfl]
  by_cases hk:k=f
  ·rw [if_pos hk,List.length_cons,List.length_cons];omega
  ·rw [if_neg hk,List.length_cons,List.length_cons];omega
theorem RelO.some_of {v:V}{o:Option Value}(r:RelO (some v) o):∃ u,o=some u/\RelV v u:=by
 cases o with
 | none=>exact (show False from r).elim
 | some u=>exact ⟨u,rfl,r⟩
theorem RelO.none_of {o:Option Value}(r:RelO none o):o=none:=by
 cases o with
 | none=>rfl
 | some u=>exact (show False from r).elim
theorem handed_of {v:V}{u:Value}(r:RelV v u):PySem.W.handedIn u=true:=by
 cases v with
 | non=>cases (show u=Value.none from r);rfl
 | bl b=>cases (show u=Value.bool b from r);rfl
 | int i=>obtain ⟨t,e⟩:=(show ∃ t,u=Value.int i t from r);cases e;rfl
 | str x=>obtain ⟨t,e⟩:=(show ∃ t,u=Value.str x t from r);cases e;rfl
 | byt b=>obtain ⟨t,e⟩:=(show ∃ t,u=Value.bytes b t from r);cases e;rfl
 | flt b=>obtain ⟨t,e⟩:=(show ∃ t,u=Value.float b t from r);cases e;rfl
 | ref a=>cases (show u=Value.ref a from r);rfl
 | ty n=>cases (show u=Value.type n from r);rfl
section
variable {P:Program}{w:World}{H H':Hp}{h h':Heap}{a C dx:Addr}{fs fs':List (Str×V)}
theorem ins_get (hok:HOk P w H h) (e:H a=some (.ins C dx fs)):∃ mA,ObjM h a dx C mA/\(∀ f,RelO (fs.lookup f) (mA f))/\PySem.Within mA (fs.map (·.1))/\fs.length<=1000/\H dx=some (.own a):=by
 obtain ⟨d,z,ne,ob,mA,n,r,q⟩:=(show ObjOk P w H h a (.ins C dx fs) from hok a _ e)
 exact ⟨mA,⟨ob,n,ne⟩,r,q,z,d⟩
end
structure Cls (K:PySem.W.Frag) (C:Addr):Prop where
 pg:PySem.W.plainGet K C Str.empty=true
 hd:PySem.W.hasDictIn K C=true
 po:PySem.W.plainOver K C=true
 sa:PySem.W.findIn K (.ref C) "__setattr__" = some (some (.builtin "object.__setattr__"))
theorem Cls.get {K:PySem.W.Frag}{C:Addr}(c:Cls K C) (f:Str):PySem.W.plainGet K C f=true:=c.pg
def NoAttr (K:PySem.W.Frag) (C:Addr) (f:Str):Prop:=PySem.W.findIn K (.ref C) f=some none
theorem NoAttr.taker {K:PySem.W.Frag}{C:Addr}{f:Str}(n:NoAttr K C f):PySem.W.takerIn K C f=some none:=by
 unfold PySem.W.takerIn
 rw [show PySem.W.findIn K (.ref C) f=some none from n]
 rfl
structure Con (K:PySem.W.Frag) (C:Addr) (f:Str) (v:V) (u:Value):Prop where
 at_:PySem.W.findIn K (.ref C) f=some (some u)
 rel:RelV v u
 get:PySem.W.specialIn K u "__get__" = some none
 cp:PySem.W.copiedNames.contains f=false
structure Meth (K:PySem.W.Frag) (C:Addr) (m:Str) (f:Addr):Prop where
 at_:PySem.W.findIn K (.ref C) m=some (some (.ref f))
 fn:PySem.W.isFn K (.ref f)=true
 kp:PySem.W.keepIn K (.ref f)=true
section
variable {X:Cx}{pins:List (Addr×Obj)}{σ:St}{H:Hp}{s:Shared}{a C dx:Addr}{fs:List (Str×V)}{f:Str}{v:V}{A:Around}{E:Value->Shared->Prop}
theorem getattr_ok {b:Bool}{Q:Value->Shared->Prop}(I:Inv X pins σ H s) (e:H a=some (.ins C dx fs)) (c:Cls X.K C) (n:NoAttr X.K C f) (l:fs.lookup f=some v)
  (h:∀ u s',Inv X pins σ H s'->RelV v u->Q u s'):wpAny (model X.prog X.w) A (getAttr (.ref a) f b) Q E s:=by
 obtain ⟨mA,O,r,_,_,_⟩:=ins_get I.hok e
 obtain ⟨u,hu,ru⟩:=RelO.some_of (v:=v) (o:=mA f) (by rw [<- l];exact r f)
 exact get_map I.kIn O (c.get f) c.hd n hu (handed_of ru) (h u _ (I.tok _) ru)
theorem getmeth_ok {m:Str}{g:Addr}{pl:Sem Bool}{Q:Value×List Value->Shared->Prop}(I:Inv X pins σ H s) (e:H a=some (.ins C dx fs)) (c:Cls X.K C) (k:Meth X.K C m g) (l:fs.lookup m=none)
  (h:Q (.ref g,[.ref a]) s):wpAny (model X.prog X.w) A (getMethod (.ref a) m pl) Q E s:=by
 obtain ⟨mA,O,r,_,_,_⟩:=ins_get I.hok e
 have hn:mA m=none:=RelO.none_of (by rw [<- l];exact r m)
 exact get_meth I.kIn O (c.get m) k.at_ k.fn hn h
theorem setattr_ok {y:V}{u:Value}{Q:Unit->Shared->Prop}(I:Inv X pins σ H s) (e:H a=some (.ins C dx fs)) (c:Cls X.K C) (n:NoAttr X.K C f) (hl:fs.length<1000) (ry:RelV y u)
  (h:∀ s',Inv X pins σ (upd H a (.ins C dx (putF f y fs))) s'->Q () s'):wpAny (model X.prog X.w) A (setAttr (.ref a) f u) Q E s:=by
 obtain ⟨mA,O,r,wi,_,ho⟩:=ins_get I.hok e
 have hz:(fs.map (·.1)).length<=sizeLine:=by rw [List.length_map,sizeLine_eq];omega
 refine set_map I.kIn O c.sa c.po n.taker c.hd wi hz fun h' O' sb=>h _ ?_
 have hd:∃ o,h'.get? dx=some o:=let ⟨o,_,_,e',_⟩:=O'.ns;⟨o,e'⟩
 refine I.write (x:=a) (e:=dx) (by rw [e];exact True.intro) (.inr ho) (fun b q hb z=>(sb.2 b hb).trans z) hd ?_
 refine ⟨by rw [upd_ne O.ne];exact ho,?_,O.ne,O'.obj,_,O'.ns,fun g=>?_,fun g hg=>?_⟩
 ·have:=length_putF f y fs;omega
 ·show RelO ((putF f y fs).lookup g) (if g=f then some u else mA g)
  rw [lookup_putF]
  by_cases q:g=f
  ·rw [if_pos q,if_pos q];exact ry
  ·rw [if_neg q,if_neg q];exact r g
 ·by_cases q:g=f
  ·rw [q];exact (keys_putF f y fs).1
  ·refine (keys_putF f y fs).2 g (wi g fun z=>hg ?_)
   show (if g=f then some u else mA g)=none
   rw [if_neg q];exact z
theorem Inv.made (I:Inv X pins σ H s):Inv X pins σ (upd (upd H s.heap.objs.size (.own (s.heap.objs.size+1))) (s.heap.objs.size+1) (.ins C s.heap.objs.size []))
  { s with heap:=(s.heap.push PySem.W.emptyDict).push (PySem.W.instObj C s.heap.objs.size) }:=by
 have e1:(s.heap.push PySem.W.emptyDict).get? s.heap.objs.size=some PySem.W.emptyDict:=Heap.get?_push_size s.heap rfl
 have e2:((s.heap.push PySem.W.emptyDict).push (PySem.W.instObj C s.heap.objs.size)).get? (s.heap.objs.size+1)=some (PySem.W.instObj C s.heap.objs.size):=by
  have:=Heap.get?_push_size (s.heap.push PySem.W.emptyDict) (o:=PySem.W.instObj C s.heap.objs.size) rfl
  rwa [Heap.size_push] at this
 have e3:(s.heap.push PySem.W.emptyDict).Ns s.heap.objs.size (fun _=>none):=⟨PySem.W.emptyDict,#[],_,e1,rfl,(fun e he=>absurd he (by simp)),fun _=>rfl⟩
 have I1:=I.laid (a:=s.heap.objs.size) (o:=.own (s.heap.objs.size+1)) (h':=s.heap.push PySem.W.emptyDict) (t':=s.toks) (fun b u q=>Heap.get?_push_of_some _ q) (Nat.le_refl _) ⟨_,e1⟩
 refine I1.laid (a:=s.heap.objs.size+1) (o:=.ins C s.heap.objs.size []) (t':=s.toks) (fun b u q=>Heap.get?_push_of_some _ q) (Nat.le_of_eq (Heap.size_push _ _)) ?_
 have ne:s.heap.objs.size≠s.heap.objs.size+1:=Nat.ne_of_lt (Nat.lt_succ_self _)
 refine ⟨by rw [upd_ne ne,upd_same],Nat.zero_le _,ne,e2,fun _=>none,(Heap.Ns1.of_empty e3).at fun o q=>Heap.get?_push_of_some _ q,fun _=>True.intro,fun y hy=>absurd rfl hy⟩
theorem attr_of {prog:Program}{w:World}{env:Env}{e:Expr}{f:Str}{pos:Pos}{s:Shared}{Q:Value->Shared->Prop}(hb:attributeBase e f env (eval e env)=eval e env)
  (h:wpAny (model prog w) A (eval e env) (fun o s₁=>wpAny (model prog w) A (getAttr o f true) Q E s₁) E s):wpAny (model prog w) A (eval (.Attribute e f pos) env) Q E s :=
 Attribute_any_ h (by rw [arm_eval_Attribute,hb])
end
def tFld (K:PySem.W.Frag) (ta:TE) (f:Str):TE:=fun σ H Q=>ta σ H fun x H1=>∃ a C dx fs v,x=.ref a/\H1 a=some (.ins C dx fs)/\Cls K C/\NoAttr K C f/\fs.lookup f=some v/\Q v H1
def sFld (K:PySem.W.Frag) (ta tv:TE) (f:Str):TS:=fun D σ H=>tv σ H fun y H1=>ta σ H1 fun x H2=>∃ a C dx fs,x=.ref a/\H2 a=some (.ins C dx fs)/\Cls K C/\NoAttr K C f/\fs.length<1000 /\
 D.nx σ (upd H2 a (.ins C dx (putF f y fs)))
section
variable {X:Cx}{o e value:Expr}{f:Str}{pos pos' tpos:Pos}{ta tv:TE}
theorem pe_fld (he:PE X e ta) (hb:attributeBase e f X.env (eval e X.env)=eval e X.env):PE X (.Attribute e f pos) (tFld X.K ta f):=by
 intro pins s σ H Q I h
 refine attr_of hb (thn (he pins s σ H _ I h) fun u s1 ⟨x,H1,I1,rx,a,C,dx,fs,v,ex,ea,c,n,l,q⟩=>?_)
 subst ex
 obtain rfl:u=Value.ref a:=rx
 exact getattr_ok I1 ea c n l fun u' s2 I2 ru=>⟨v,H1,I2,ru,q⟩
theorem ps_fld (ha:PE X o ta) (hv:PE X value tv) (hs:swapsWith value (some (.Attribute o f pos')) pos.line X.env=pure false):PS X (.Assign [.Attribute o f pos'] value pos) (sFld X.K ta tv f):=by
 intro pins s σ H D I h
 refine plainObj_wpAny_Assign_Attribute (thn (hv pins s σ H _ I h) fun u s1 ⟨y,H1,I1,ry,q⟩=>thn (ha pins s1 σ H1 _ I1 q) fun ov s2 ⟨x,H2,I2,rx,a,C,dx,fs,ex,ea,c,n,l,q2⟩=>?_) hs
 subst ex
 obtain rfl:ov=Value.ref a:=rx
 exact setattr_ok I2 ea c n l ry fun s3 I3=>⟨σ,_,I3,q2⟩
end
section
variable {X:Cx}{pins:List (Addr×Obj)}{σ:St}{H:Hp}{s:Shared}{A:Around}{E:Value->Shared->Prop}{Q:Value->Shared->Prop}{c:Value}{b:Bool}
inductive TyOf (K:PySem.W.Frag) (H:Hp):V->Value->Prop where
 | non:TyOf K H .non (.type "NoneType")
 | bl (x:Bool):TyOf K H (.bl x) (.type "bool")
 | int (i:Int):TyOf K H (.int i) (.type "int")
 | str (x:Str):TyOf K H (.str x) (.type "str")
 | flt (x:UInt64):TyOf K H (.flt x) (.type "float")
 | lst {a:Addr} {xs:List V} (e:H a=some (.lst xs)):TyOf K H (.ref a) (.type "list")
 | frz {a:Addr} {o:Obj} {xs:List V} (e:H a=some (.frz o (.lst xs))):TyOf K H (.ref a) (.type "list")
 | tup {a:Addr} {xs:List V} (e:H a=some (.tup xs)):TyOf K H (.ref a) (.type "tuple")
 | dK {a:Addr} {kvs:List (Key×V)} (e:H a=some (.dK kvs)):TyOf K H (.ref a) (.type "dict")
 | dT {a:Addr} {kvs:List (List Key×V)} (e:H a=some (.dT kvs)):TyOf K H (.ref a) (.type "dict")
 | ins {a C dx:Addr} {fs:List (Str×V)} (e:H a=some (.ins C dx fs)) (cl:Cls K C) (ha:PySem.W.findIn K (.ref C) "__class__" = some (some (.builtin "object.__class__")))
   (hn:PySem.W.specialIn K (.builtin "object.__class__") "__get__" = some (some (.builtin "getset_descriptor.__get__"))) (htk:PySem.W.takesIn K (.builtin "object.__class__")=some true)
   (hm:PySem.W.mroIn K C (.type "object")=some true):TyOf K H (.ref a) (.ref C)
theorem isinst_ok {x:V}{u t:Value}(I:Inv X pins σ H s) (rx:RelV x u) (ty:TyOf X.K H x t) (e:PySem.W.kitOne X.K t c=some b) (h:∀ tk,Q (.bool b) { s with toks:=tk }) :
  wpAny (model X.prog X.w) A (call (.builtin "isinstance") [u,c]) Q E s:=by
 cases ty with
 | non=>cases (show u=Value.none from rx);exact PySem.W.kia_one PySem.W.kitx_none I.kIn True.intro e (fun z=>nomatch z) h
 | bl y=>cases (show u=Value.bool y from rx);exact PySem.W.kia_one PySem.W.kitx_bool I.kIn True.intro e (fun z=>nomatch z) h
 | int i=>obtain ⟨t,q⟩:=(show ∃ t,u=Value.int i t from rx);cases q;exact PySem.W.kia_one PySem.W.kitx_int I.kIn True.intro e (fun z=>nomatch z) h
 | str y=>obtain ⟨t,q⟩:=(show ∃ t,u=Value.str y t from rx);cases q;exact PySem.W.kia_one PySem.W.kitx_str I.kIn True.intro e (fun z=>nomatch z) h
 | flt y=>obtain ⟨t,q⟩:=(show ∃ t,u=Value.float y t from rx);cases q;exact PySem.W.kia_one PySem.W.kitx_float I.kIn True.intro e (fun z=>nomatch z) h
 | @lst a xs ea =>
  cases (show u=Value.ref a from rx)
  obtain ⟨_,_,n,_,h1⟩:=(show ObjOk X.prog X.w H s.heap a (.lst xs) from I.hok a _ ea)
  exact PySem.W.kia_one PySem.W.kitx_list I.kIn ⟨_,h1,rfl⟩ e (fun z=>nomatch z) h
 | @frz a ob xs ea =>
  cases (show u=Value.ref a from rx)
  obtain ⟨_,_,_,n,_,h1⟩:=(show ObjOk X.prog X.w H s.heap a (.frz ob (.lst xs)) from I.hok a _ ea)
  exact PySem.W.kia_one PySem.W.kitx_list I.kIn ⟨_,h1,rfl⟩ e (fun z=>nomatch z) h
 | @tup a xs ea =>
  cases (show u=Value.ref a from rx)
  obtain ⟨_,_,_,p⟩:=(show ObjOk X.prog X.w H s.heap a (.tup xs) from I.hok a _ ea)
  obtain ⟨o,h1,h2,_⟩:=p
  exact PySem.W.kia_one PySem.W.kitx_tuple I.kIn ⟨o,h1,h2⟩ e (fun z=>nomatch z) h
 | @dK a kvs ea =>
  cases (show u=Value.ref a from rx)
  obtain ⟨_,_,vs,_,p⟩:=(show ObjOk X.prog X.w H s.heap a (.dK kvs) from I.hok a _ ea)
  obtain ⟨o,es,ep,h1,h2,_⟩:=p
  exact PySem.W.kia_one PySem.W.kitx_dict I.kIn ⟨o,h1,h2.1⟩ e (fun z=>nomatch z) h
 | @dT a kvs ea =>
  cases (show u=Value.ref a from rx)
  obtain ⟨_,_,xs,_,o,es,ep,h1,h2,_⟩:=(show ObjOk X.prog X.w H s.heap a (.dT kvs) from I.hok a _ ea)
  exact PySem.W.kia_one PySem.W.kitx_dict I.kIn ⟨o,h1,h2.1⟩ e (fun z=>nomatch z) h
 | @ins a C dx fs ea cl ha hn htk hm =>
  cases (show u=Value.ref a from rx)
  obtain ⟨mA,O,_⟩:=ins_get I.hok ea
  obtain ⟨od,J,_⟩:=O.look
  exact PySem.W.kia_one (PySem.W.kitx_own (cl.get _) cl.hd ha hn htk hm) I.kIn J e (fun z=>nomatch z) h
end
structure Room (k:Nat) (A:Around):Prop where
 hd:A.handled=none
 dp:A.depth+3*k+5<recursionLimit
 un:A.units+16*k+200<cLine
theorem Room.mono {j k:Nat}{A:Around}(r:Room k A) (h:j<=k):Room j A:=⟨r.hd,by have:=r.dp;omega,by have:=r.un;omega⟩
theorem Room.deeper {k:Nat}{A:Around}(r:Room (k+1) A) (env:Env):Room k (A.deeper env) :=
 ⟨r.hd,by have:=r.dp;show A.depth+1+3*k+5<_;omega,by have:=r.un;show A.units+3+16*k+200<_;omega⟩
theorem Room.in1 {k:Nat}{A:Around}(r:Room (k+1) A):Room k A.in1 :=
 ⟨r.hd,by have:=r.dp;show A.depth+3*k+5<_;omega,by have:=r.un;show A.units+1+16*k+200<_;omega⟩
theorem make_depth {A:Around}{C:Addr}{us:List Value}{kw:List (Str×Value)}:(A.under (.builtin "type.__call__" ⟨.ref C::us,kw⟩)).depth=A.depth+1:=by
 first | rfl | simp [Around.under,Code.weight,Code.isCreation,Code.isGuard,Code.isCaller,Code.frames,Code.isFrame,guardIds]
theorem make_units {A:Around}{C:Addr}{us:List Value}{kw:List (Str×Value)}:(A.under (.builtin "type.__call__" ⟨.ref C::us,kw⟩)).units=A.units+1:=by
 first | rfl | simp [Around.under,Code.cUnits,Code.frames,Code.isFrame]
theorem Room.make {k:Nat}{A:Around}(r:Room (k+1) A) (C:Addr) (us:List Value) (kw:List (Str×Value)):Room k (A.under (.builtin "type.__call__" ⟨.ref C::us,kw⟩)) :=
 ⟨r.hd,by have:=r.dp;rw [make_depth];omega,by have:=r.un;rw [make_units];omega⟩
theorem Room.depth {k:Nat}{A:Around}(r:Room k A):A.depth<recursionLimit:=by have:=r.dp;omega
theorem Room.units {k:Nat}{A:Around}(r:Room k A):A.units+64<cLine:=by have:=r.un;omega
def tNil:TA:=fun _ H Q=>Q [] H
def tCons (ta:TE) (tr:TA):TA:=fun σ H Q=>ta σ H fun x H1=>tr σ H1 fun xs H2=>Q (x::xs) H2
section
variable {X:Cx}{e:Expr}{es:List Expr}{te:TE}{t:TA}{pos:Pos}
theorem pa_nil:PA X [] tNil:=fun _ _ _ _ H Q I h=>Calls.spliced_nil ⟨[],H,I,.nil,h⟩
theorem pa_cons (ha:PE X e te) (hr:PA X es t) (hs:starEach (e::es) X.env=(false,eval e X.env)::starEach es X.env:=by rfl):PA X (e::es) (tCons te t):=by
 intro pos pins s σ H Q I h
 rw [hs]
 show wpAny _ _ (spliced ((false,eval e X.env)::backTo pos (starEach es X.env))) _ _ s
 refine Calls.spliced_cons (thn (ha pins s σ H _ I h) fun u s1 ⟨x,H1,I1,r1,q1⟩=>?_)
 exact thn (hr pos pins s1 σ H1 _ I1 q1) fun us s2 ⟨xs,H2,I2,r2,q2⟩=>⟨x::xs,H2,I2,.cons r1 r2,q2⟩
def tTup (t:TA):TE:=fun σ H Q=>t σ H fun xs H1=>xs.length<=sizeLine/\∀ p,H1 p=none->Q (.ref p) (upd H1 p (.tup xs))
def tLst (t:TA):TE:=fun σ H Q=>t σ H fun xs H1=>xs.length<=sizeLine/\∀ p,H1 p=none->Q (.ref p) (upd H1 p (.lst xs))
theorem pe_tup {x1} (h:PA X es t):PE X (.Tuple es x1 pos) (tTup t):=by
 intro pins s σ H Q I hq
 refine wpAny_Tuple_spliced (thn (h pos pins s σ H _ I hq) fun us s1 ⟨xs,H1,I1,r,z,q⟩=>⟨by rw [<- r.length];exact z,?_⟩)
 have hf:H1 s1.heap.objs.size=none:=I1.hok.fresh (Nat.le_refl _)
 refine ⟨.ref s1.heap.objs.size,upd H1 s1.heap.objs.size (.tup xs),I1.laid (t':=s1.toks) (fun b u e=>Heap.get?_push_of_some _ e) (Nat.le_refl _) ?_,rfl,q _ hf⟩
 exact ⟨z,us,r,⟨_,Heap.get?_push_size _ rfl,rfl,_,rfl⟩⟩
theorem pe_lst (h:PA X es t):PE X (.List es pos) (tLst t):=by
 intro pins s σ H Q I hq
 refine wpAny_List_spliced (thn (h pos pins s σ H _ I hq) fun us s1 ⟨xs,H1,I1,r,z,q⟩=>⟨by rw [<- r.length];exact z,?_⟩)
 have hf:H1 s1.heap.objs.size=none:=I1.hok.fresh (Nat.le_refl _)
 refine ⟨.ref s1.heap.objs.size,upd H1 s1.heap.objs.size (.lst xs),I1.laid (t':=s1.toks) (fun b u e=>Heap.get?_push_of_some _ e) (Nat.le_refl _) ?_,rfl,q _ hf⟩
 exact ⟨z,us,0,r,Heap.get?_push_size _ rfl⟩
end
abbrev Sp:=List V->Hp->VK->XK->Prop
abbrev CXT:=List Env->Hp->Shared->XK->Value->Shared->Prop
structure Env0 (P:Program) (w:World) (K:PySem.W.Frag) (mg:Str->Option Value) (base:Heap) (A:Around) (outer:List Env) (s:Shared) (H:Hp):Prop where
 frames:A.frames=some outer
 mod:Mod K mg base
 bs:∀ b o,base.get? b=some o->s.heap.get? b=some o/\H b=none
 bsz:base.objs.size<=s.heap.objs.size
 funs:s.heap.FunFrames base outer
 frf:∀ b∈frs outer,H b=none
 hok:HOk P w H s.heap
 bare:AllBare s.gens
def CE (outer:List Env) (P:Program) (w:World) (H:Hp) (s:Shared) (Q:VK) (u:Value) (s':Shared):Prop :=
 ∃ v H',s'.os=s.os/\AllBare s'.gens/\Un (frs outer) [] H H' s.heap s'.heap/\HOk P w H' s'.heap/\RelV v u/\Q v H'
def CR (CX:CXT) (outer:List Env) (P:Program) (w:World) (H:Hp) (s:Shared) (Q:VK) (E:XK) (r:Result) (s':Shared):Prop :=
 match r with
 | .ok (.ret u)=>CE outer P w H s Q u s'
 | .ok _=>False
 | .error e=>CX outer H s E e s'
structure FnOk (P:Program) (w:World) (K:PySem.W.Frag) (mg:Str->Option Value) (base:Heap) (CX:CXT) (k:Nat) (f:Addr) (fd:FuncData) (ps:List Str) (sp:Sp):Prop where
 len:∀ vs H Q E,sp vs H Q E->vs.length=ps.length
 run:∀ (A:Around) (outer:List Env) (s:Shared) (H:Hp) (args:Args) (us:List Value) (vs:List V) (Q:VK) (E:XK),Room k A->Env0 P w K mg base A outer s H->BindsTo s fd args (ps.zip us)->Vals vs us->sp vs H Q E ->
  codeAny (model P w) A (.call (.ref f) args) (CR CX outer P w H s Q E) s
theorem FnOk.mono {P:Program}{w:World}{K:PySem.W.Frag}{mg:Str->Option Value}{base:Heap}{CX:CXT}{j k:Nat}{f:Addr}{fd:FuncData}{ps:List Str}{sp:Sp}(F:FnOk P w K mg base CX j f fd ps sp) (h:j<=k) :
  FnOk P w K mg base CX k f fd ps sp:=⟨F.len,fun A outer s H args us vs Q E hr=>F.run A outer s H args us vs Q E (hr.mono h)⟩
theorem Env0.make {P:Program}{w:World}{K:PySem.W.Frag}{mg:Str->Option Value}{base:Heap}{A:Around}{outer:List Env}{s:Shared}{H:Hp}(e:Env0 P w K mg base A outer s H) (C:Addr) (us:List Value) (kw:List (Str×Value)) :
  Env0 P w K mg base (A.under (.builtin "type.__call__" ⟨.ref C::us,kw⟩)) outer s H:=⟨by first | exact e.frames | (simpa [Around.under,Code.envs,Code.isFrame,pushEnvs] using e.frames),e.mod,e.bs,e.bsz,e.funs,e.frf,e.hok,e.bare⟩
theorem Env0.in1 {P:Program}{w:World}{K:PySem.W.Frag}{mg:Str->Option Value}{base:Heap}{A:Around}{outer:List Env}{s:Shared}{H:Hp}(e:Env0 P w K mg base A outer s H) :
  Env0 P w K mg base A.in1 outer s H:=⟨e.frames,e.mod,e.bs,e.bsz,e.funs,e.frf,e.hok,e.bare⟩
section
variable {X:Cx}{pins:List (Addr×Obj)}{σ:St}{H:Hp}{s s':Shared}
theorem Inv.env0 (I:Inv X pins σ H s):Env0 X.prog X.w X.K X.mg X.base X.A X.stack s H :=
 ⟨I.ok.frames,I.ok.mod,I.bs,Nat.le_trans I.ok.bsz I.sz,I.stack,I.stkFree,I.hok,I.bare⟩
theorem Inv.after {Q:VK}{u:Value}(I:Inv X pins σ H s) (h:CE X.stack X.prog X.w H s Q u s'):EP X pins σ Q u s':=by
 obtain ⟨v,H',os,bare,un,hok,r,q⟩:=h
 obtain ⟨hh,g,d,t,os'⟩:=s'
 obtain rfl:os'=s.os:=os
 exact ⟨v,H',I.call (h':=hh) (g':=g) (d':=d) (t':=t) (ch:=[]) un hok bare (fun b z=>absurd z (by simp)),r,q⟩
end
def tCall (sp:Sp) (dvs:List V) (E:XK) (t:TA):TE:=fun σ H Q=>t σ H fun vs H1=>sp (vs++dvs) H1 Q E
def tMeth (C:Addr) (m:Str) (sp:Sp) (dvs:List V) (E:XK) (ta:TE) (t:TA):TE:=fun σ H Q=>ta σ H fun x H1=>∃ a dx fs,x=.ref a/\H1 a=some (.ins C dx fs)/\fs.lookup m=none /\
 t σ H1 fun vs H2=>sp (x::(vs++dvs)) H2 Q E
def tMake (C:Addr) (sp:Sp) (dvs:List V) (E:XK) (t:TA):TE:=fun σ H Q=>t σ H fun vs H1=>∀ x dx,H1 x=none->H1 dx=none->dx≠x ->
 sp (.ref x::(vs++dvs)) (upd (upd H1 dx (.own x)) x (.ins C dx [])) (fun v H2=>v=.non/\Q (.ref x) H2) E
def Binds (K:PySem.W.Frag) (fd:FuncData) (ps:List Str) (ds:List Value):Prop :=
 ∀ (s:Shared) (us:List Value),K.In s.heap->(us++ds).length=ps.length->BindsTo s fd ⟨us,[]⟩ (ps.zip (us++ds))
theorem Binds.all {K:PySem.W.Frag}{fd:FuncData}{ps:List Str}(h:∀ us:List Value,us.length=ps.length->bindArgs fd ⟨us,[]⟩=pure (ps.zip us)):Binds K fd ps []:=fun s us _ hl=>by
 rw [List.append_nil] at hl ⊢
 exact .of_eq (h us hl)
def Passes (CX:CXT) (X:Cx) (E:XK):Prop:=∀ (pins:List (Addr×Obj)) (σ:St) (H:Hp) (s:Shared) (e:Value) (s':Shared),Inv X pins σ H s->CX X.stack H s E e s'->X.xe e s'
section
variable {X:Cx}{CX:CXT}{k:Nat}{f C:Addr}{fd:FuncData}{ps:List Str}{sp:Sp}{dvs:List V}{ds:List Value}{E:XK}{x m:Str}{p pos apos:Pos}{e o:Expr}{es:List Expr}{ta:TE}{t:TA}
theorem run_fn {pins:List (Addr×Obj)}{σ:St}{H:Hp}{s:Shared}{Q:VK}{us:List Value}{vs:List V}(F:FnOk X.prog X.w X.K X.mg X.base CX k f fd ps sp) (hr:Room k X.A) (hb:Binds X.K fd ps ds) (hd:Vals dvs ds) (hx:Passes CX X E)
  (I:Inv X pins σ H s) (r:Vals vs us) (h:sp (vs++dvs) H Q E):wpAny (model X.prog X.w) X.A (call (.ref f) us) (EP X pins σ Q) X.xe s:=by
 have r2:Vals (vs++dvs) (us++ds):=r.append hd
 have hl:(us++ds).length=ps.length:=by rw [<- r2.length];exact F.len _ _ _ _ h
 refine wpAny_call (codeAny_mono (F.run X.A X.stack s H ⟨us,[]⟩ (us++ds) (vs++dvs) Q E hr I.env0 (hb s us I.kIn hl) r2 h) fun r s' hq=>?_)
 cases r with
 | error e=>exact hx pins σ H s e s' I hq
 | ok fl =>
  cases fl with
  | ret u=>exact I.after hq
  | next=>exact False.elim hq
  | brk=>exact False.elim hq
  | cont=>exact False.elim hq
theorem pe_call (F:FnOk X.prog X.w X.K X.mg X.base CX k f fd ps sp) (hr:Room k X.A) (hg:Gl X x) (hm:X.mg x=some (.ref f)) (hk:PySem.W.keepIn X.K (.ref f)=true) (hb:Binds X.K fd ps ds) (hd:Vals dvs ds) (hx:Passes CX X E)
  (ha:PA X (e::es) t) (hdb:(x == ("__debug__":Str))=false:=by decide) (he:starEach (e::es) X.env=(false,eval e X.env)::starEach es X.env:=by rfl) (hpl:(backTo pos (starEach es X.env)).any (·.1)=false:=by rfl) :
  PE X (.Call (.Name x p) (e::es) [] pos) (tCall sp dvs E t):=by
 intro pins s σ H Q I h
 refine wpAny_Call_Name_kw (ld_glob I hg hm ?_ hdb)
 refine PySem.W.callWith_K (h₀:=X.base) I.ok.mod.kin hk (thn (ha pos pins s σ H _ I h) fun us s1 ⟨vs,H1,I1,r,q⟩=>⟨I1.kIn,?_⟩) he hpl
 exact run_fn F hr hb hd hx I1 r q
theorem pe_meth {pl:Sem Bool}(he:PE X o ta) (c:Cls X.K C) (hm:Meth X.K C m f) (F:FnOk X.prog X.w X.K X.mg X.base CX k f fd ps sp) (hr:Room k X.A) (hb:Binds X.K fd ps ds) (hd:Vals dvs ds) (hx:Passes CX X E) (ha:PA X (e::es) t)
  (hst:starEach (e::es) X.env=(false,eval e X.env)::starEach es X.env:=by rfl) (hpl:(backTo pos (starEach es X.env)).any (·.1)=false:=by rfl)
  (ht:eval (.Call (.Attribute o m apos) (e::es) [] pos) X.env=(do
   let ov <- eval o X.env
   standAt apos.atName
   let (f,first) <- holding [ov] (getMethod ov m pl)
   callWith pos f first (backTo pos (starEach (e::es) X.env)) (backToKw pos (keywordEach [] X.env))):=by rfl) :
  PE X (.Call (.Attribute o m apos) (e::es) [] pos) (tMeth C m sp dvs E ta t):=by
 intro pins s σ H Q I h
 refine PySem.W.methodCall_KW (pl:=pl) (thn (he pins s σ H _ I h) fun u s1 ⟨x,H1,I1,rx,a,dx,fs,ex,ea,l,q⟩=>?_) ht
 subst ex
 obtain rfl:u=Value.ref a:=rx
 refine getmeth_ok I1 ea c hm l ?_
 refine PySem.W.callWith_K (first:=[.ref a]) (h₀:=X.base) I.ok.mod.kin hm.kp (thn (ha pos pins s1 σ H1 _ I1 q) fun us s2 ⟨vs,H2,I2,r,q2⟩=>⟨I2.kIn,?_⟩) hst hpl
 exact run_fn (us:=.ref a::us) (vs:=.ref a::vs) F hr hb hd hx I2 (.cons rfl r) q2
theorem pe_meth0 {pl:Sem Bool}(he:PE X o ta) (c:Cls X.K C) (hm:Meth X.K C m f) (F:FnOk X.prog X.w X.K X.mg X.base CX k f fd ps sp) (hr:Room k X.A) (hb:Binds X.K fd ps ds) (hd:Vals dvs ds) (hx:Passes CX X E)
  (ht:eval (.Call (.Attribute o m apos) [] [] pos) X.env=(do
   let ov <- eval o X.env
   standAt apos.atName
   let (f,first) <- holding [ov] (getMethod ov m pl)
   callWith pos f first (backTo pos (starEach [] X.env)) (backToKw pos (keywordEach [] X.env))):=by rfl) :
  PE X (.Call (.Attribute o m apos) [] [] pos) (tMeth C m sp dvs E ta tNil):=by
 intro pins s σ H Q I h
 refine PySem.W.methodCall_KW (pl:=pl) (thn (he pins s σ H _ I h) fun u s1 ⟨x,H1,I1,rx,a,dx,fs,ex,ea,l,q⟩=>?_) ht
 subst ex
 obtain rfl:u=Value.ref a:=rx
 refine getmeth_ok I1 ea c hm l ?_
 exact PySem.W.callWith_K0 (first:=[.ref a]) I1.kIn hm.kp (run_fn (us:=[.ref a]) (vs:=[.ref a]) F hr hb hd hx I1 (.cons rfl .nil) q)
structure Mk (K:PySem.W.Frag) (C f:Addr):Prop where
 makes:PySem.W.makesIn K C=true
 init:PySem.W.findIn K (.ref C) "__init__" = some (some (.ref f))
 fn:PySem.W.isFn K (.ref f)=true
 kp:PySem.W.keepIn K (.ref C)=true
theorem run_make {pins:List (Addr×Obj)}{σ:St}{H:Hp}{s:Shared}{Q:VK}{us:List Value}{vs:List V}(M:Mk X.K C f) (F:FnOk X.prog X.w X.K X.mg X.base CX k f fd ps sp) (hr:Room (k+1) X.A) (hb:Binds X.K fd ps ds) (hd:Vals dvs ds)
  (hx:Passes CX X E) (I:Inv X pins σ H s) (r:Vals vs us)
  (h:∀ x dx,H x=none->H dx=none->dx≠x->sp (.ref x::(vs++dvs)) (upd (upd H dx (.own x)) x (.ins C dx [])) (fun v H2=>v=.non/\Q (.ref x) H2) E) :
  wpAny (model X.prog X.w) X.A (call (.ref C) us) (EP X pins σ Q) X.xe s:=by
 have hq:=h (s.heap.objs.size+1) s.heap.objs.size (I.hok.fresh (Nat.le_succ _)) (I.hok.fresh (Nat.le_refl _)) (Nat.ne_of_lt (Nat.lt_succ_self _))
 have I2:=Inv.made (C:=C) I
 have r2:Vals (V.ref (s.heap.objs.size+1)::(vs++dvs)) (Value.ref (s.heap.objs.size+1)::(us++ds)):=.cons rfl (r.append hd)
 have hl:(Value.ref (s.heap.objs.size+1)::us++ds).length=ps.length:=by
  have e:=r2.length
  rw [F.len _ _ _ _ hq] at e
  exact e.symm
 refine wpAny_call (make_map (f:=f) I.kIn M.makes M.init (beq_iff_eq.mp M.fn) (codeAny_mono (F.run _ X.stack _ _ ⟨Value.ref (s.heap.objs.size+1)::us,[]⟩ (Value.ref (s.heap.objs.size+1)::(us++ds)) _ _ E (hr.make C us [])
  (I2.env0.make C us []) (hb _ (Value.ref (s.heap.objs.size+1)::us) I2.kIn hl) r2 hq) fun r s' hq'=>?_))
 cases r with
 | error e=>exact hx pins σ _ _ e s' I2 hq'
 | ok fl =>
  cases fl with
  | ret u =>
   obtain ⟨v,H',I3,rv,ev,q3⟩:=I2.after hq'
   subst ev
   exact ⟨rv,⟨V.ref (s.heap.objs.size+1),H',I3,rfl,q3⟩⟩
  | next=>exact False.elim hq'
  | brk=>exact False.elim hq'
  | cont=>exact False.elim hq'
theorem pe_make0 (M:Mk X.K C f) (F:FnOk X.prog X.w X.K X.mg X.base CX k f fd ps sp) (hr:Room (k+1) X.A) (hg:Gl X x) (hm:X.mg x=some (.ref C)) (hb:Binds X.K fd ps ds) (hd:Vals dvs ds) (hx:Passes CX X E)
  (hdb:(x == ("__debug__":Str))=false:=by decide):PE X (.Call (.Name x p) [] [] pos) (tMake C sp dvs E tNil):=by
 intro pins s σ H Q I h
 refine wpAny_Call_Name_kw (ld_glob I hg hm ?_ hdb)
 exact PySem.W.callWith_K0 I.kIn M.kp (run_make (us:=[]) M F hr hb hd hx I .nil h)
end
section
variable {X:Cx}{CX:CXT}{k:Nat}{f C:Addr}{fd:FuncData}{ps ks:List Str}{sp:Sp}{E:XK}{x m:Str}{p pos apos kpos:Pos}{e o:Expr}{es:List Expr}{kws:List Keyword}{te ta:TE}{t tk:TA}{nm:Option Str}
structure KBinds (K:PySem.W.Frag) (fd:FuncData) (ps ks:List Str) (g:List Value->List Value->List Value) (gV:List V->List V->List V):Prop where
 to:∀ (s:Shared) (us ws:List Value),K.In s.heap->(g us ws).length=ps.length->BindsTo s fd ⟨us,ks.zip ws⟩ (ps.zip (g us ws))
 rel:∀ {vs:List V} {us:List Value} {zs:List V} {ws:List Value},Vals vs us->Vals zs ws->Vals (gV vs zs) (g us ws)
variable {g:List Value->List Value->List Value}{gV:List V->List V->List V}
end
structure FnScope (N P:List Str) (sc:Scope):Prop where
 kind:sc.kind=.function
 co:sc.isCoroutine=false
 gen:sc.isGenerator=false
 nd:N.Nodup
 pre:N.take P.length=P
 par:∀ x∈P,sc.names.lookup x=some .local\/sc.names.lookup x=some .cell
 nofree:∀ y∈sc.names,y.2≠.free
theorem bindL_out {kindOf:Str->Option NameKind}{x:Str}:∀ {binds:List (Str×Value)}{m:Str->Option Value},(∀ v,(x,v)∉binds)->bindL kindOf binds m x=m x
 | [],_,_=>rfl
 | (n,v)::r,m,h=>by
  unfold bindL
  rw [bindL_out fun w hw=>h w (List.mem_cons_of_mem _ hw)]
  split
  ·have:x≠n:=by rintro rfl;exact h v List.mem_cons_self
   simp [this]
  ·rfl
theorem bindC_out {kindOf:Str->Option NameKind}{x:Str}:∀ {binds:List (Str×Value)}{m:Str->Option Value},(∀ v,(x,v)∉binds)->bindC kindOf binds m x=m x
 | [],_,_=>rfl
 | (n,v)::r,m,h=>by
  unfold bindC
  rw [bindC_out fun w hw=>h w (List.mem_cons_of_mem _ hw)]
  split
  ·rfl
  ·have:x≠n:=by rintro rfl;exact h v List.mem_cons_self
   simp [this]
theorem bindL_get {kindOf:Str->Option NameKind}{x:Str}{v:Value}:∀ {P:List Str}{vs:List Value}{i:Nat}{m:Str->Option Value},P.Nodup->P[i]? = some x->vs[i]? = some v->kindOf x=some .local ->
  bindL kindOf (P.zip vs) m x=some v
 | [],_,_,_,_,h,_,_=>by simp at h
 | _::_,[],_,_,_,_,h,_=>by simp at h
 | p::P,w::vs,0,m,nd,h1,h2,hk=>by
  simp at h1 h2;subst h1;subst h2
  show bindL kindOf ((p,w)::P.zip vs) m p=_
  unfold bindL
  rw [bindL_out fun v hv=>(List.nodup_cons.mp nd).1 (List.of_mem_zip hv).1,if_pos hk]
  simp
 | p::P,w::vs,i+1,m,nd,h1,h2,hk=>by
  show bindL kindOf ((p,w)::P.zip vs) m x=_
  unfold bindL
  exact bindL_get (i:=i) (List.nodup_cons.mp nd).2 (by simpa using h1) (by simpa using h2) hk
theorem bindC_get {kindOf:Str->Option NameKind}{x:Str}{v:Value}:∀ {P:List Str}{vs:List Value}{i:Nat}{m:Str->Option Value},P.Nodup->P[i]? = some x->vs[i]? = some v->kindOf x≠some .local ->
  bindC kindOf (P.zip vs) m x=some v
 | [],_,_,_,_,h,_,_=>by simp at h
 | _::_,[],_,_,_,_,h,_=>by simp at h
 | p::P,w::vs,0,m,nd,h1,h2,hk=>by
  simp at h1 h2;subst h1;subst h2
  show bindC kindOf ((p,w)::P.zip vs) m p=_
  unfold bindC
  rw [bindC_out fun v hv=>(List.nodup_cons.mp nd).1 (List.of_mem_zip hv).1,if_neg hk]
  simp
 | p::P,w::vs,i+1,m,nd,h1,h2,hk=>by
  show bindC kindOf ((p,w)::P.zip vs) m x=_
  unfold bindC
  exact bindC_get (i:=i) (List.nodup_cons.mp nd).2 (by simpa using h1) (by simpa using h2) hk
def start (N:List Str) (vs:List V):St:=vs.map some++List.replicate (N.length-vs.length) none
def cxOf (CX:CXT) (P:Program) (w:World) (K:PySem.W.Frag) (mg:Str->Option Value) (base:Heap) (N:List Str) (qual:Str) (scope:Scope) (f:Addr) (cd:Value) (A:Around) (outer:List Env) (s:Shared) (H:Hp) (E:XK):Cx where
 prog:=P
 w:=w
 K:=K
 mg:=mg
 base:=base
 A:=A.deeper (envOfC qual scope s.heap.objs.size f cd)
 N:=N
 s₀:=s
 H₀:=H
 env:=envOfC qual scope s.heap.objs.size f cd
 outer:=outer
 stack:=envOfC qual scope s.heap.objs.size f cd::outer
 ex:=[]
 calm:=true
 fn:=fun _=>true
 pn:=[]
 xe:=fun e s'=>wpAny (model P w) (A.deeper (envOfC qual scope s.heap.objs.size f cd)) (leaving (envOfC qual scope s.heap.objs.size f cd) e) (fun _ s''=>CX outer H s E e s'') (fun e' s''=>CX outer H s E e' s'') s'
theorem cell_has {sc:Scope}{n:Nat}{x:Str}(h:sc.names.lookup x=some .cell):∃ c,(cellsFrom n sc.names []).lookup x=some c:=by
 have q:=PySem.W.cellsFrom_some sc.names n [] (.inl h)
 exact Option.isSome_iff_exists.mp q
theorem inv_start {CX:CXT}{P:Program}{w:World}{K:PySem.W.Frag}{mg:Str->Option Value}{base:Heap}{N ps:List Str}{qual:Str}{scope:Scope}{f:Addr}{cd:Value}{A:Around}{outer:List Env}{s s1:Shared}{H:Hp}{E:XK}{us:List Value}{vs:List V}
  (S:FnScope N ps scope) (hd:A.handled=none) (e0:Env0 P w K mg base A outer s H) (hl:vs.length=ps.length) (r:Vals vs us)
  (x:InCallC s s.heap.objs.size (bindL (envOfC qual scope s.heap.objs.size f cd).kindOf (ps.zip us) fun _=>none) (cellsFrom (s.heap.objs.size+1) scope.names []) (bindC (envOfC qual scope s.heap.objs.size f cd).kindOf (ps.zip us) fun _=>none) s1) :
  Inv (cxOf CX P w K mg base N qual scope f cd A outer s H E) [] (start N vs) H s1:=by
 have hpl:ps.length<=N.length:=by have:=congrArg List.length S.pre;rw [List.length_take] at this;omega
 obtain ⟨h1,tk,rfl,hk⟩:=x.done
 have noA:∀ b:Addr,b∉(cxOf CX P w K mg base N qual scope f cd A outer s H E).ex:=fun b z=>absurd (show b∈([]:List Addr) from z) (by simp)
 refine ⟨⟨e0.mod,S.kind,rfl,rfl,Nat.le_refl _,fun y z c h1 h2=>?_,fun y hy=>?_,fun y c _ h=>?_,fun _=>hd,Around.frames_deeper e0.frames,.inr ⟨rfl,rfl⟩,fun b z=>absurd z (noA b),e0.bs,e0.bsz,fun b _ _=>noA b,fun b z=>absurd z (noA b),e0.funs,e0.frf⟩,
  rfl,e0.bare,Un.kept hk,⟨_,x.toInCall.ns,fun i y v h1 h2 h3=>?_⟩,fun y c h=>⟨_,x.cell y c h⟩,e0.hok.fresh (Nat.le_refl _),fun y c h=>?_,fun p hp=>absurd (show p∈([]:List (Addr×Obj)) from hp) (by simp),e0.hok.kept hk,?_,fun _ h=>nomatch h⟩
 ·exact name_of_addr x.apart (PySem.mem_of_lookup h1) (PySem.mem_of_lookup h2)
 ·have hy:scope.names.lookup y=some .cell\/scope.names.lookup y=some .free:=hy
  rcases hy with hy|hy
  ·exact cell_has hy
  ·exact absurd rfl (S.nofree _ (PySem.mem_of_lookup hy))
 ·exact Nat.le_of_lt (x.above y c (PySem.mem_of_lookup h))
 ·have hi:i<vs.length:=by
   unfold start at h2
   by_cases hi:i<vs.length
   ·exact hi
   ·rw [List.getElem?_append_right (by simpa using hi)] at h2
    rw [List.getElem?_replicate] at h2
    split at h2<;>cases h2
  have ha:vs[i]? = some v:=by
   unfold start at h2
   rw [List.getElem?_append_left (by simpa using hi),List.getElem?_map] at h2
   cases e:vs[i]? with
   | none=>rw [e] at h2;cases h2
   | some a=>rw [e] at h2;cases h2;rfl
  obtain ⟨u,hu,rv⟩:=r.get ha
  have hp:ps[i]? = some y:=by
   rw [<- S.pre,List.getElem?_take_of_lt (by omega)];exact h1
  have ndP:ps.Nodup:=by rw [<- S.pre];exact S.nd.sublist (List.take_sublist _ _)
  refine ⟨u,rv,?_⟩
  rcases S.par y (List.mem_of_getElem? hp) with k|k
  ·exact .inl ⟨k,bindL_get ndP hp hu k⟩
  ·obtain ⟨c,e⟩:=cell_has (n:=s.heap.objs.size+1) k
   refine .inr ⟨.inl k,c,e,?_⟩
   have q:=x.cell y c e
   rw [bindC_get ndP hp hu (by show scope.names.lookup y≠_;rw [k];decide)] at q
   exact q
 ·exact e0.hok.fresh (Nat.le_of_lt (x.above y c (PySem.mem_of_lookup h)))
 ·unfold start
  show _=N.length
  rw [List.length_append,List.length_map,List.length_replicate]
  omega
theorem fn_of {CX:CXT}{P:Program}{w:World}{K:PySem.W.Frag}{mg:Str->Option Value}{base:Heap}{k:Nat}{f:Addr}{name qual:Str}{params:Arguments}{body:List Stmt}{scope:Scope}{dV kV doc pm cdv ct oc:Value}{an od:Option Addr}
  {osl:Array (Option Value)} {N ps:List Str} {sp:Sp} (lk:K.lookup f=some ⟨oc,od,.func (PySem.W.fnOf name qual params body scope dV kV doc pm an cdv ct),osl⟩) (hcd:PySem.W.codeIn K cdv qual=true) (S:FnScope N ps scope)
  (len:∀ vs H Q E,sp vs H Q E->vs.length=ps.length)
  (hbody:∀ (A:Around) (outer:List Env) (s:Shared) (H:Hp) (vs:List V) (Q:VK) (E:XK),Room k (A.deeper (envOfC qual scope s.heap.objs.size f cdv))->sp vs H Q E ->
   ∃ t,PSs (cxOf CX P w K mg base N qual scope f cdv A outer s H E) body t/\t { nx:=fun _ H'=>Q .non H',rt:=Q } (start N vs) H) :
  FnOk P w K mg base CX (k+1) f (PySem.W.fnOf name qual params body scope dV kV doc pm an cdv ct) ps sp:=by
 refine ⟨len,fun A outer s H args us vs Q E hr e0 hb r hsp=>?_⟩
 have hl:=len _ _ _ _ hsp
 have KX:K.In s.heap:=e0.mod.kin.keeps fun b o e=>(e0.bs b o e).1
 have lim:s.heap.NoLimit:=e0.mod.nolimit.keeps fun b o e=>(e0.bs b o e).1
 have hkind:∀ y∈ps.zip us,scope.names.lookup y.1=some .local\/(scope.names.lookup y.1=some .cell/\((cellsFrom (s.heap.objs.size+1) scope.names []).lookup y.1).isSome=true):=fun ⟨n,v⟩ hy=>by
  rcases S.par n (List.of_mem_zip hy).1 with q|q
  ·exact .inl q
  ·exact .inr ⟨q,PySem.W.cellsFrom_some _ _ _ (.inl q)⟩
 refine codeAny_call_function hr.depth (KX _ _ lk) rfl S.co S.gen rfl (PySem.W.codeRec_of KX hcd) (hb _ _ _ _ ?_)
 refine wpAny_newFunctionEnv_cells S.kind hkind fun env he s1 x=>?_
 subst he
 refine ⟨lim.keeps x.toInCall.keep,codeAny_func ?_⟩
 obtain ⟨t,ht,hq⟩:=hbody A outer s H vs Q E (hr.deeper _) hsp
 have I:Inv (cxOf CX P w K mg base N qual scope f cdv A outer s H E) [] (start N vs) H s1:=inv_start S hr.hd e0 hl r x
 refine wpAny_mono (ht [] s1 (start N vs) H _ I hq) (fun fl s' hs=>?_) fun e s' hs=>hs
 have fin:∀ {σ':St} {H':Hp} {v:V} {u:Value},Inv (cxOf CX P w K mg base N qual scope f cdv A outer s H E) [] σ' H' s'->RelV v u->Q v H'->CE outer P w H s Q u s' :=
  fun {σ' H' v u} J rv q=>⟨v,H',J.os,J.bare,J.base,J.hok,rv,q⟩
 cases fl with
 | ret u =>
  obtain ⟨v,σ',H',J,rv,q⟩:=hs
  exact fin J rv q
 | next =>
  obtain ⟨σ',H',J,q⟩:=hs
  exact fin (v:=V.non) (u:=Value.none) J rfl q
 | brk =>
  obtain ⟨_,_,_,q⟩:=hs
  exact False.elim q
 | cont =>
  obtain ⟨_,_,_,q⟩:=hs
  exact False.elim q
section
variable {X:Cx}{x:Str}{p pos:Pos}{e:Expr}{es:List Expr}{t:TA}{id T:String}{r:List V->Hp->VK->Prop}
def tCB (r:List V->Hp->VK->Prop) (t:TA):TE:=fun σ H Q=>t σ H fun vs H1=>r vs H1 Q
theorem pe_callB (hc:CallR X (.builtin id) r) (hg:Gl X x) (hm:X.mg x=none) (hv:bootBuiltins x=some (.builtin id)) (ha:PA X (e::es) t) (hn:x≠"__name__":=by decide) (hdb:(x == ("__debug__":Str))=false:=by decide)
  (he:starEach (e::es) X.env=(false,eval e X.env)::starEach es X.env:=by rfl) (hpl:(backTo pos (starEach es X.env)).any (·.1)=false:=by rfl):PE X (.Call (.Name x p) (e::es) [] pos) (tCB r t):=by
 intro pins s σ H Q I h
 refine wpAny_Call_Name_kw (ld_blt I hg hm hv ?_ hn hdb)
 exact PyProof.Rows.callWith_builtin1 (thn (ha pos pins s σ H _ I h) fun us s1 ⟨vs,H1,I1,r1,q1⟩=>hc pins s1 σ H1 vs us Q I1 r1 q1) he hpl
theorem pe_callTy (hc:CallR X (.type T) r) (hg:Gl X x) (hm:X.mg x=none) (hv:bootBuiltins x=some (.type T)) (ha:PA X (e::es) t) (hn:x≠"__name__":=by decide) (hdb:(x == ("__debug__":Str))=false:=by decide)
  (he:starEach (e::es) X.env=(false,eval e X.env)::starEach es X.env:=by rfl) (hpl:(backTo pos (starEach es X.env)).any (·.1)=false:=by rfl):PE X (.Call (.Name x p) (e::es) [] pos) (tCB r t):=by
 intro pins s σ H Q I h
 refine wpAny_Call_Name_kw (ld_blt I hg hm hv ?_ hn hdb)
 exact PyProof.Rows.callWith_type1 (thn (ha pos pins s σ H _ I h) fun us s1 ⟨vs,H1,I1,r1,q1⟩=>hc pins s1 σ H1 vs us Q I1 r1 q1) he hpl
end
end L2
namespace HT
open PySem PyProof.Rows
section
open PySem.SeqAt
open PySem.AutoSeq1 (wpAny_loadPart')
open PySem.MeetsSeq PySem.MeetsSeq2 PySem.MeetsSeq3
end
section
variable {prog:Program}{w:World}{A:Around}{E:Value->Shared->Prop}{s:Shared}
def sIx (n d:Nat):Option Int->Nat
 | none=>d
 | some v=>if v<0 then (v+(n:Int)).toNat else min v.toNat n
theorem sIx_nat (n d k:Nat):sIx n d (some (k:Int))=min k n:=by
 show (if (k:Int)<0 then ((k:Int)+(n:Int)).toNat else min (k:Int).toNat n)=min k n
 rw [if_neg (by omega),Int.toNat_natCast]
end
end HT
namespace L2
open PySem PySem.Spec PyProof.Rows
abbrev TO:=St->Hp->(Option Int->Hp->Prop)->Prop
def PO (X:Cx) (e:Option Expr) (t:TO):Prop :=
 ∀ (pins:List (Addr×Obj)) (s:Shared) (σ:St) (H:Hp) (Q:Option Int->Hp->Prop),Inv X pins σ H s->t σ H Q ->
  wpAny (model X.prog X.w) X.A (evalPart e X.env) (fun u s'=>∃ o H',Inv X pins σ H' s'/\IsPart u o/\Q o H') X.xe s
def tNoPart:TO:=fun _ H Q=>Q none H
def tPart (t:TE):TO:=fun σ H Q=>t σ H fun x H1=>∃ i,x=.int i/\Q (some i) H1
section
variable {X:Cx}{e:Expr}{te:TE}{lo hi:Option Expr}{tl th:TO}{pos p2:Pos}
theorem po_none:PO X none tNoPart:=by
 intro pins s σ H Q I h
 rw [evalPart_none]
 exact wpAny_pure ⟨none,H,I,.none,h⟩
theorem po_some (h:PE X e te):PO X (some e) (tPart te):=by
 intro pins s σ H Q I hw
 rw [evalPart_some]
 refine thn (h pins s σ H _ I hw) fun u s1 ⟨x,H1,I1,r1,q1⟩=>?_
 obtain ⟨i,rfl,q⟩:=q1
 obtain ⟨t,rfl⟩:=r1
 exact ⟨some i,H1,I1,.int i t,q⟩
def SlR (X:Cx) (r:V->Option Int->Option Int->Hp->VK->Prop):Prop :=
 ∀ (pins:List (Addr×Obj)) (s:Shared) (σ:St) (H:Hp) (x:V) (v vl vu:Value) (lo hi:Option Int) (sl:Addr) (Q:VK),Inv X pins σ H s->RelV x v->s.heap.IsSliceOf sl vl vu .none->IsPart vl lo->IsPart vu hi->r x lo hi H Q ->
  ∃ T id,typeLookup (.type T) "__getitem__" = pure (some (.builtin id))/\s.TypeIs v T/\wpAny (model X.prog X.w) X.A (getItem v (.ref sl)) (EP X pins σ Q) X.xe s
theorem SlR.or {r r':V->Option Int->Option Int->Hp->VK->Prop}(h:SlR X r) (h':SlR X r'):SlR X (fun x lo hi H Q=>r x lo hi H Q\/r' x lo hi H Q):=by
 intro pins s σ H x v vl vu lo hi sl Q I rx hs pl pu q
 rcases q with q|q
 ·exact h pins s σ H x v vl vu lo hi sl Q I rx hs pl pu q
 ·exact h' pins s σ H x v vl vu lo hi sl Q I rx hs pl pu q
def tSl (r:V->Option Int->Option Int->Hp->VK->Prop) (te:TE) (tl th:TO):TE:=fun σ H Q=>te σ H fun x H1=>tl σ H1 fun l H2=>th σ H2 fun u H3=>r x l u H3 Q
theorem pe_slice {r:V->Option Int->Option Int->Hp->VK->Prop}(hr:SlR X r) (he:PE X e te) (hl:PO X lo tl) (hu:PO X hi th):PE X (.Subscript e (.Slice lo hi none p2) pos) (tSl r te tl th):=by
 intro pins s σ H Q I h
 refine Subscript_ (thn (he pins s σ H _ I h) fun v s1 ⟨x,H1,I1,r1,q1⟩=>?_)
 refine wpAny_Slice (thn (hl pins s1 σ H1 _ I1 q1) fun vl s2 ⟨l,H2,I2,pl,q2⟩=>thn (hu pins s2 σ H2 _ I2 q2) fun vu s3 ⟨u,H3,I3,pu,q3⟩=>?_)
 rw [evalPart_none]
 refine wpAny_pure ?_
 have I4:Inv X pins σ H3 { s3 with heap:=s3.heap.push { cls:=.type "slice",data:=.fields #[vl,vu,.none] } }:=I3.kept (t':=s3.toks) fun b ob q=>Heap.get?_push_of_some _ q
 obtain ⟨T,id,hT,ht,hg⟩:=hr pins { s3 with heap:=s3.heap.push { cls:=.type "slice",data:=.fields #[vl,vu,.none] } } σ H3 x v vl vu l u s3.heap.objs.size Q I4 r1 (Heap.IsSliceOf.new ..) pl pu q3
 show wpAny (model X.prog X.w) X.A (subscriptTail e (.Slice lo hi none p2) v (.ref s3.heap.objs.size)) (EP X pins σ Q) X.xe { s3 with heap:=s3.heap.push { cls:=.type "slice",data:=.fields #[vl,vu,.none] } }
 exact tail_any (ops:=[.ref s3.heap.objs.size,v]) ht hT hg (by with_unfolding_all rfl)
def cutV (xs:List V) (lo hi:Option Int):List V:=(xs.drop (HT.sIx xs.length 0 lo)).take (HT.sIx xs.length xs.length hi-HT.sIx xs.length 0 lo)
theorem cutV_length (xs:List V) (lo hi:Option Int):(cutV xs lo hi).length<=xs.length:=by
 unfold cutV
 rw [List.length_take,List.length_drop]
 omega
end
def ixN (n:Nat) (i:Int):Option Nat:=if 0<=i then (if i<n then some i.toNat else none) else if -(n:Int)<=i then some (i+n).toNat else none
def atI {α:Type}(xs:List α) (i:Int):Option α:=(ixN xs.length i).bind fun j=>xs[j]?
theorem ixN_seq {n:Nat}{i:Int}{j:Nat}(h:ixN n i=some j):seqIndex? i n=some j/\j<n/\-(n:Int)<=i/\i<n:=by
 unfold ixN at h
 by_cases h0:0<=i
 ·rw [if_pos h0] at h
  by_cases h1:i<n
  ·rw [if_pos h1] at h
   have e:i.toNat=j:=Option.some.inj h
   exact ⟨by rw [seqIndex_of h0 h1,e],by omega,by omega,h1⟩
  ·rw [if_neg h1] at h;cases h
 ·rw [if_neg h0] at h
  by_cases h1:-(n:Int)<=i
  ·rw [if_pos h1] at h
   have e:(i+n).toNat=j:=Option.some.inj h
   exact ⟨by rw [seqIndex_neg (by omega) h1,e],by omega,h1,by omega⟩
  ·rw [if_neg h1] at h;cases h
theorem atI_get {α:Type}{xs:List α}{i:Int}{v:α}(h:atI xs i=some v):∃ j,seqIndex? i xs.length=some j/\xs[j]? = some v/\j<xs.length/\-(xs.length:Int)<=i/\i<xs.length:=by
 unfold atI at h
 cases e:ixN xs.length i with
 | none=>rw [e] at h;cases h
 | some j =>
  rw [e] at h
  obtain ⟨h1,h2,h3,h4⟩:=ixN_seq e
  exact ⟨j,h1,h,h2,h3,h4⟩
theorem atI_nat {α:Type}{xs:List α}{j:Nat}{v:α}(h:xs[j]? = some v):atI xs (j:Int)=some v:=by
 have hj:j<xs.length:=(List.getElem?_eq_some_iff.mp h).1
 have e:ixN xs.length (j:Int)=some j:=by
  unfold ixN
  rw [if_pos (by omega),if_pos (by omega)];simp
 unfold atI;rw [e];exact h
theorem atI_last {α:Type}(xs:List α) (v:α):atI (xs++[v]) (-1)=some v:=by
 have hl:(xs++[v]).length=xs.length+1:=by simp
 have e:ixN (xs++[v]).length (-1)=some xs.length:=by
  unfold ixN
  rw [hl,if_neg (by decide),if_pos (by omega)]
  congr 1
  omega
 unfold atI
 rw [e]
 show (xs++[v])[xs.length]? = some v
 simp
def PlainIx (b:Expr):Prop:=∀ o i,subscripted b false o i=operate [o,i] (getItem o i)
def IxR (X:Cx) (r:R2):Prop :=
 ∀ (value slice:Expr) (pins:List (Addr×Obj)) (s:Shared) (σ:St) (H:Hp) (x y:V) (v u:Value) (Q:VK),Inv X pins σ H s->RelV x v->RelV y u->r x y H Q ->
  subscripted slice false v u=operate [v,u] (getItem v u)->wpAny (model X.prog X.w) X.A (subscriptTail value slice v u) (EP X pins σ Q) X.xe s
def MtR (X:Cx) (id:String) (r:V->List V->Hp->VK->Prop):Prop :=
 ∀ (pins:List (Addr×Obj)) (s:Shared) (σ:St) (H:Hp) (x:V) (xs:List V) (v:Value) (us:List Value) (Q:VK),Inv X pins σ H s->RelV x v->Vals xs us->r x xs H Q ->
  wpAny (model X.prog X.w) X.A (call (.builtin id) (v::us)) (EP X pins σ Q) X.xe s
section
variable {X:Cx}{a b:Expr}{ta tb:TE}{pos:Pos}
theorem IxR.or {r r':R2}(h:IxR X r) (h':IxR X r'):IxR X (fun x y H Q=>r x y H Q\/r' x y H Q):=by
 intro value slice pins s σ H x y v u Q I rx ry q hs
 rcases q with q|q
 ·exact h value slice pins s σ H x y v u Q I rx ry q hs
 ·exact h' value slice pins s σ H x y v u Q I rx ry q hs
theorem MtR.or {id:String}{r r':V->List V->Hp->VK->Prop}(h:MtR X id r) (h':MtR X id r'):MtR X id (fun x xs H Q=>r x xs H Q\/r' x xs H Q):=by
 intro pins s σ H x xs v us Q I rx rs q
 rcases q with q|q
 ·exact h pins s σ H x xs v us Q I rx rs q
 ·exact h' pins s σ H x xs v us Q I rx rs q
theorem pe_ix {r:R2}(hr:IxR X r) (ha:PE X a ta) (hb:PE X b tb) (hs:PlainIx b):PE X (.Subscript a b pos) (tOp r ta tb):=by
 intro pins s σ H Q I h
 exact Subscript_ (binT ha hb I h fun v u s2 x y H2 I2 rx ry q=>hr a b pins s2 σ H2 x y v u Q I2 rx ry q (hs _ _))
def rIxL (K:PySem.W.Frag):R2:=fun x y H Q=>∃ p xs i v,x=.ref p/\y=.int i/\SqL K H p xs/\atI xs i=some v/\Q v H
def rIxT (K:PySem.W.Frag):R2:=fun x y H Q=>∃ p xs i v,x=.ref p/\y=.int i/\SqT K H p xs/\atI xs i=some v/\Q v H
def rIxS:R2:=fun x y H Q=>∃ z i c,x=.str z/\y=.int i/\z.length<=sizeLine/\atI z.cps.toList i=some c/\Q (.str ⟨#[c]⟩) H
theorem ix_list:IxR X (rIxL X.K):=by
 intro value slice pins s σ H x y v u Q I rx ry h hs
 obtain ⟨p,xs,i,z,rfl,rfl,hq,he,q⟩:=h
 cases rx
 obtain ⟨t,rfl⟩:=ry
 obtain ⟨its,r,pl,hz⟩:=I.list hq
 obtain ⟨j,h1,h2,h3,h4,h5⟩:=atI_get he
 obtain ⟨w,ew,rw'⟩:=r.get h2
 have hl:=r.length
 have hn:=line63
 have fin:EP X pins σ Q w s:=⟨z,H,I,rw',q⟩
 by_cases h0:0<=i
 ·have hj:i.toNat=j:=by
   rw [seqIndex_of h0 h5] at h1
   exact Option.some.inj h1
  exact item_listR pl.isList h0 (by omega) (by rw [hj];simpa using ew) fin hs
 ·have hj:(i+(its.toArray.size:Int)).toNat=j:=by
   rw [seqIndex_neg (by omega) h4] at h1
   rw [List.size_toArray,<- hl]
   exact Option.some.inj h1
  exact subscriptTail_builtinR (x:=w) pl.isList.typeIs slot_list_getitem.lookup
   (wpAny_getItem_list_neg (Q:=fun r s'=>r=w/\EP X pins σ Q r s') pl.isList (by omega) (by rw [List.size_toArray]<;>omega) (by omega) (by rw [hj];simpa using ew) ⟨rfl,fin⟩) hs
theorem ix_tup:IxR X (rIxT X.K):=by
 intro value slice pins s σ H x y v u Q I rx ry h hs
 obtain ⟨p,xs,i,z,rfl,rfl,hq,he,q⟩:=h
 cases rx
 obtain ⟨t,rfl⟩:=ry
 obtain ⟨its,r,pl,hz⟩:=I.tuple hq
 obtain ⟨j,h1,h2,h3,h4,h5⟩:=atI_get he
 obtain ⟨w,ew,rw'⟩:=r.get h2
 have hl:=r.length
 have hn:=line63
 have fin:EP X pins σ Q w s:=⟨z,H,I,rw',q⟩
 exact subscriptTail_builtinR (x:=w) pl.typeIs slot_tuple_getitem.lookup
  (getItem_tuple (j:=j) (Q:=fun r s'=>r=w/\EP X pins σ Q r s') pl (by omega) (by omega) (by rw [List.size_toArray,<- hl];exact h1) (by simpa using ew) ⟨rfl,fin⟩) hs
theorem ix_str:IxR X rIxS:=by
 intro value slice pins s σ H x y v u Q I rx ry h hs
 obtain ⟨z,i,c,rfl,rfl,hz,he,q⟩:=h
 obtain ⟨t,rfl⟩:=rx
 obtain ⟨t',rfl⟩:=ry
 obtain ⟨j,h1,h2,h3,h4,h5⟩:=atI_get he
 have hl:z.cps.toList.length=z.length:=by simp [Str.length]
 rw [hl] at h1 h4 h5
 have hn:=line63
 exact tail_any (typeIs_str s z t) slot_str_getitem.lookup (getItem_str (c:=c) (by
  have e1:decide (i < -(2^63:Int))=false:=decide_eq_false (by omega)
  have e2:decide (i >= 2^63)=false:=decide_eq_false (by omega)
  rw [e1,e2,Bool.or_false]) (by rw [h1];simpa using h2) ⟨.str ⟨#[c]⟩,H,I.tok _,⟨_,rfl⟩,q⟩) hs
theorem Inv.lst {pins:List (Addr×Obj)}{σ:St}{H:Hp}{s:Shared}{p:Addr}{xs:List V}(I:Inv X pins σ H s) (h:H p=some (.lst xs)) :
  ∃ (its:List Value) (n:Nat),Vals xs its/\s.heap.get? p=some { cls:=.type "list",data:=.seq its.toArray n }/\xs.length<=sizeLine:=by
 obtain ⟨z,its,n,r,e⟩:=I.hok p _ h
 exact ⟨its,n,r,e,z⟩
theorem slice_bounds (lo hi:Option Int) (n:Nat):(sliceBounds lo hi none n).1=((HT.sIx n 0 lo:Nat):Int)/\(sliceBounds lo hi none n).2.1=((HT.sIx n n hi:Nat):Int)/\(sliceBounds lo hi none n).2.2=1:=by
 refine ⟨?_,?_,rfl⟩
 ·cases lo with
  | none=>simp [sliceBounds,HT.sIx]
  | some i =>
   simp only [sliceBounds,HT.sIx,Option.getD_none,show (1:Int) > 0 by decide,if_true]
   by_cases h:i<0
   ·simp only [h,if_true]<;>omega
   ·simp only [h,if_false]<;>omega
 ·cases hi with
  | none=>simp [sliceBounds,HT.sIx]
  | some i =>
   simp only [sliceBounds,HT.sIx,Option.getD_none,show (1:Int) > 0 by decide,if_true]
   by_cases h:i<0
   ·simp only [h,if_true]<;>omega
   ·simp only [h,if_false]<;>omega
theorem slicePick_cut (its:List Value) (lo hi:Option Int):slicePick its.toArray lo hi none=((its.drop (HT.sIx its.length 0 lo)).take (HT.sIx its.length its.length hi-HT.sIx its.length 0 lo)).toArray:=by
 obtain ⟨h1,h2,h3⟩:=slice_bounds lo hi its.toArray.size
 unfold slicePick
 rw [h1,h2,h3]
 simp only [sliceRange_one,pick_run,List.size_toArray]<;>rfl
def rSlL (K:PySem.W.Frag):V->Option Int->Option Int->Hp->VK->Prop:=fun x lo hi H Q=>∃ a xs,x=.ref a/\SqL K H a xs/\∀ p,H p=none->Q (.ref p) (upd H p (.lst (cutV xs lo hi)))
theorem sl_list:SlR X (rSlL X.K):=by
 intro pins s σ H x v vl vu lo hi sl Q I rx hs pl pu h
 obtain ⟨a,xs,rfl,hx,q⟩:=h
 cases rx
 obtain ⟨its,r,ht,hz⟩:=I.list hx
 have hlen:=r.length
 refine ⟨"list",_,slot_list_getitem.lookup,ht.isList.typeIs,?_⟩
 refine wpAny_getItem_list_slice ht.isList hs pl pu .none (by simp) ?_ (by rw [List.size_toArray]<;>omega)
 rw [slicePick_cut,<- hlen]
 refine ⟨.ref s.heap.objs.size,_,I.laid (t':=s.toks) (o:=.lst (cutV xs lo hi)) (fun b ob q=>Heap.get?_push_of_some _ q) (Nat.le_refl _) ?_,rfl,q _ (I.hok.fresh (Nat.le_refl _))⟩
 exact ⟨Nat.le_trans (cutV_length xs lo hi) hz,_,0,(r.drop (HT.sIx xs.length 0 lo)).take (HT.sIx xs.length xs.length hi-HT.sIx xs.length 0 lo),Heap.get?_push_size _ rfl⟩
def flatV:V->Bool
 | .non=>true
 | .bl _=>true
 | .int _=>true
 | .str _=>true
 | _=>false
def eqV:V->V->Bool
 | .non,.non=>true
 | .bl a,.bl b=>a == b
 | .bl a,.int b=>(if a then 1 else 0) == b
 | .int a,.bl b=>a == (if b then 1 else 0)
 | .int a,.int b=>a == b
 | .str a,.str b=>a == b
 | _,_=>false
theorem eqAt_V {A:Around}{s:Shared}{y x:V}{u v:Value}(ry:RelV y u) (rx:RelV x v) (fy:flatV y=true) (fx:flatV x=true):SeqAt.EqAt A s u v (eqV y x):=by
 cases y with
 | non =>
  cases ry
  cases x with
  | non=>cases rx;exact SeqAt.EqAt.same _
  | bl b=>cases rx;exact SeqAt.EqAt.none_bool b
  | int b=>obtain ⟨t,rfl⟩:=rx;exact SeqAt.EqAt.none_int b t
  | str b=>obtain ⟨t,rfl⟩:=rx;exact SeqAt.EqAt.none_str b t
  | _=>exact absurd (show false=true from fx) Bool.false_ne_true
 | bl a =>
  cases ry
  cases x with
  | non=>cases rx;exact SeqAt.EqAt.bool_none a
  | bl b=>cases rx;exact SeqAt.EqAt.bool_bool a b
  | int b=>obtain ⟨t,rfl⟩:=rx;exact SeqAt.EqAt.bool_int a b t
  | str b=>obtain ⟨t,rfl⟩:=rx;exact SeqAt.EqAt.bool_str a b t
  | _=>exact absurd (show false=true from fx) Bool.false_ne_true
 | int a =>
  obtain ⟨t',rfl⟩:=ry
  cases x with
  | non=>cases rx;exact SeqAt.EqAt.int_none a t'
  | bl b=>cases rx;exact SeqAt.EqAt.int_bool a t' b
  | int b=>obtain ⟨t,rfl⟩:=rx;exact SeqAt.EqAt.int_int a t' b t
  | str b=>obtain ⟨t,rfl⟩:=rx;exact SeqAt.EqAt.int_str a t' b t
  | _=>exact absurd (show false=true from fx) Bool.false_ne_true
 | str a =>
  obtain ⟨t',rfl⟩:=ry
  cases x with
  | non=>cases rx;exact SeqAt.EqAt.str_none a t'
  | bl b=>cases rx;exact SeqAt.EqAt.str_bool a t' b
  | int b=>obtain ⟨t,rfl⟩:=rx;exact SeqAt.EqAt.str_int a t' b t
  | str b=>obtain ⟨t,rfl⟩:=rx;exact SeqAt.EqAt.str_str a t' b t
  | _=>exact absurd (show false=true from fx) Bool.false_ne_true
 | _=>exact absurd (show false=true from fy) Bool.false_ne_true
theorem call_len_seq:CallR X (.builtin "len") (fun xs H Q=>∃ p ys,xs=[.ref p]/\(SqL X.K H p ys\/SqT X.K H p ys)/\Q (.int ys.length) H):=by
 intro pins s σ H xs us Q I r h
 obtain ⟨p,ys,rfl,hq,q⟩:=h
 obtain ⟨u,rfl,rx⟩:=vals1 r
 cases rx
 have hn:=line63
 rcases hq with hq|hq
 ·obtain ⟨its,r',pl,hz⟩:=I.list hq
  have hlen:=r'.length
  exact Calls.call_len_list pl.isList (by simp only [List.size_toArray]<;>omega) ⟨.int ys.length,H,I.tok _,⟨s.toks+1,by rw [List.size_toArray,hlen]⟩,q⟩
 ·obtain ⟨its,r',pl,hz⟩:=I.tuple hq
  have hlen:=r'.length
  exact len_tuple pl (by simp only [List.size_toArray]<;>omega) ⟨.int ys.length,H,I.tok _,⟨s.toks+1,by rw [List.size_toArray,hlen]⟩,q⟩
theorem CallR.or {f:Value}{r r':List V->Hp->VK->Prop}(h:CallR X f r) (h':CallR X f r'):CallR X f (fun xs H Q=>r xs H Q\/r' xs H Q):=by
 intro pins s σ H xs us Q I rs q
 rcases q with q|q
 ·exact h pins s σ H xs us Q I rs q
 ·exact h' pins s σ H xs us Q I rs q
theorem call_list_of:CallR X (.type "list") (fun xs H Q=>∃ p ys,xs=[.ref p]/\(SqL X.K H p ys\/SqT X.K H p ys)/\∀ l,H l=none->Q (.ref l) (upd H l (.lst ys))):=by
 intro pins s σ H xs us Q I r h
 obtain ⟨p,ys,rfl,hq,q⟩:=h
 obtain ⟨u,rfl,rx⟩:=vals1 r
 cases rx
 have fin:∀ (its:List Value),Vals ys its->ys.length<=sizeLine->∀ (h':Heap) (c':Nat),(∀ b o',s.heap.get? b=some o'->h'.get? b=some o') ->
   h'.get? s.heap.objs.size=some { cls:=.type "list",dict:=none,data:=.seq its.toArray c',slots:=#[] }->EP X pins σ Q (.ref s.heap.objs.size) { s with heap:=h' }:=fun its r' hz h' c' kp e =>
  ⟨.ref s.heap.objs.size,_,I.laid (t':=s.toks) kp (Nat.le_refl _) (show ObjOk X.prog X.w _ h' _ (.lst ys) from ⟨hz,its,c',r',e⟩),rfl,q _ (I.hok.fresh (Nat.le_refl _))⟩
 rcases hq with hq|hq
 ·obtain ⟨its,r',pl,hz⟩:=I.list hq
  have hlen:=r'.length
  obtain ⟨o,ho,hc,n,hd⟩:=pl.isList
  exact call_list_seq p (.inl rfl) ho hc hd (fun h' c' kp e=>fin its r' hz h' c' kp e) (by simp only [List.size_toArray]<;>omega)
 ·obtain ⟨its,r',pl,hz⟩:=I.tuple hq
  have hlen:=r'.length
  obtain ⟨o,ho,hc,n,hd⟩:=pl
  exact call_list_seq p (.inr rfl) ho hc hd (fun h' c' kp e=>fin its r' hz h' c' kp e) (by simp only [List.size_toArray]<;>omega)
def tyV (K:PySem.W.Frag) (T:String) (x:V) (H:Hp):Prop:=match x with
 | .str _=>T = "str"
 | .int _=>T = "int"
 | .ref p=>(T = "list"/\∃ xs,SqL K H p xs)\/(T = "tuple"/\∃ o,K.lookup p=some o/\o.cls=.type "tuple"/\o.dict=none) \/
   (T = "dict"/\((∃ kvs,H p=some (.dK kvs))\/∃ kvs,H p=some (.dT kvs)))\/(T = "set"/\∃ S n,H p=some (.set S n))
 | _=>False
theorem tyV_is {pins:List (Addr×Obj)}{σ:St}{H:Hp}{s:Shared}{T:String}{x:V}{v:Value}(I:Inv X pins σ H s) (r:RelV x v) (ty:tyV X.K T x H) :
  s.TypeIs v T/\∀ a,v=.ref a->∃ ob,s.heap.get? a=some ob/\ob.dict=none:=by
 cases x with
 | str z =>
  obtain ⟨t,rfl⟩:=r
  cases (show T = "str" from ty)
  exact ⟨typeIs_str s z t,fun _ e=>nomatch e⟩
 | int i =>
  obtain ⟨t,rfl⟩:=r
  cases (show T = "int" from ty)
  exact ⟨typeIs_int s i t,fun _ e=>nomatch e⟩
 | ref p =>
  cases r
  rcases ty with ⟨rfl,xs,hq⟩|⟨rfl,o,hk,hc,hd⟩|⟨rfl,hk⟩|⟨rfl,S,n,hk⟩
  ·obtain ⟨its,_,pl,_⟩:=I.list hq
   refine ⟨pl.isList.typeIs,fun a e=>?_⟩
   cases e
   obtain ⟨o,n,e,c,hd,_⟩:=pl
   exact ⟨o,e,hd⟩
  ·refine ⟨⟨o,I.kIn p o hk,hc⟩,fun a e=>?_⟩
   cases e
   exact ⟨o,I.kIn _ o hk,hd⟩
  ·have z:∃ o,s.heap.get? p=some o/\o.ExactDict:=by
    rcases hk with ⟨kvs,hk⟩|⟨kvs,hk⟩
    ·obtain ⟨_,_,_,_,o,_,_,e,ex,_⟩:=I.hok p _ hk
     exact ⟨o,e,ex⟩
    ·obtain ⟨_,_,_,_,o,_,_,e,ex,_⟩:=I.hok p _ hk
     exact ⟨o,e,ex⟩
   obtain ⟨o,e,ex⟩:=z
   refine ⟨⟨o,e,ex.1⟩,fun a e2=>?_⟩
   cases e2
   exact ⟨o,e,ex.2.1⟩
  ·obtain ⟨o,_,_,_,e,ex,_⟩:=I.hok p _ hk
   refine ⟨⟨o,e,ex.1⟩,fun a e2=>?_⟩
   cases e2
   exact ⟨o,e,ex.2.1⟩
 | _=>exact False.elim ty
def tBM (K:PySem.W.Frag) (T:String) (r:V->List V->Hp->VK->Prop) (to:TE) (t:TA):TE:=fun σ H Q=>to σ H fun x H1=>tyV K T x H1/\t σ H1 fun xs H2=>r x xs H2 Q
variable {o e:Expr}{es:List Expr}{to:TE}{t:TA}{name:Str}{apos cpos:Pos}{T id:String}{r:V->List V->Hp->VK->Prop}
theorem pe_bm (pa:PlainAttrs T) (slot:Slot T name id) (hty:typeOf (.builtin id)=pure (.type "method_descriptor")) (hm:MtR X id r) (ho:PE X o to) (ha:PA X (e::es) t)
  (hbase:attributeBase o name X.env (eval o X.env)=eval o X.env:=by rfl)
  (hfew:((backTo cpos (starEach (e::es) X.env)).all (fun x=>!x.1) && (backToKw cpos (keywordEach [] X.env)).all (fun x=>x.1.isSome)
   && decide ((e::es).length+([]:List Keyword).length+(if ([]:List Keyword).isEmpty then 0 else 1)<30))=true:=by rfl)
  (hline:(apos.endLine == cpos.line)=true:=by rfl) (hs:starEach (e::es) X.env=(false,eval e X.env)::starEach es X.env:=by rfl) (hplain:(backTo cpos (starEach es X.env)).any (·.1)=false:=by rfl) :
  PE X (.Call (.Attribute o name apos) (e::es) [] cpos) (tBM X.K T r to t):=by
 intro pins s σ H Q I h
 refine wpAny_Call_method_late hbase hfew hline rfl (thn (ho pins s σ H _ I h) fun v s1 ⟨x,H1,I1,r1,ty,q1⟩=>?_)
 obtain ⟨h1,h2⟩:=tyV_is I1 r1 ty
 refine ⟨T,id,pa,slot,hty,h1,h2,?_⟩
 have hA:=ha cpos pins s1 σ H1 _ I1 q1
 rw [hs] at hA ⊢
 refine Calls.callWith_builtin (by show (false || (backTo cpos (starEach es X.env)).any (·.1))=false;rw [hplain]<;>rfl) (Calls.evalArgs_plain ?_)
 exact thn hA fun us s2 ⟨vs,H2,I2,r2,q2⟩=>hm pins s2 σ H2 x vs v us Q I2 r1 r2 q2
end
def MtM (X:Cx) (id:String) (r:V->List V->Hp->VK->Prop):Prop :=
 ∀ (pins:List (Addr×Obj)) (s:Shared) (σ:St) (H:Hp) (x:V) (xs:List V) (v:Value) (us:List Value) (Q:VK),Inv X pins σ H s->RelV x v->Vals xs us->r x xs H Q ->
  wpAny (model X.prog X.w) X.A (call (.builtin id) (v::us)) (EP X pins σ Q) X.xe s
theorem Vals.one:∀ {x:V}{us:List Value},Vals [x] us->∃ u,us=[u]/\RelV x u
 | _,_,h=>by
  cases h with | cons r t=>cases t;exact ⟨_,rfl,r⟩
theorem Vals.two:∀ {x y:V}{us:List Value},Vals [x,y] us->∃ u v,us=[u,v]/\RelV x u/\RelV y v
 | _,_,_,h=>by
  cases h with | cons r t=>cases t with | cons q t=>cases t;exact ⟨_,_,rfl,r,q⟩
theorem Vals.zero:∀ {us:List Value},Vals [] us->us=[]
 | _,.nil=>rfl
theorem Vals.dropLast {xs:List V}{us:List Value}(h:Vals xs us):Vals xs.dropLast us.dropLast:=by
 induction h with
 | nil=>exact .nil
 | cons r t ih =>
  cases t with
  | nil=>exact .nil
  | cons q t'=>exact .cons r ih
theorem Vals.reverse {xs:List V}{us:List Value}(h:Vals xs us):Vals xs.reverse us.reverse:=by
 induction h with
 | nil=>exact .nil
 | cons r t ih=>rw [List.reverse_cons,List.reverse_cons];exact Vals.append ih (.cons r .nil)
section
variable {X:Cx}{pins:List (Addr×Obj)}{σ:St}{H:Hp}{s:Shared}{l b:Addr}{xs ys zs:List V}
theorem Inv.lset {its its':List Value}{n:Nat}{f:Array Value->Array Value}{t':Nat}(I:Inv X pins σ H s) (hH:H l=some (.lst xs))
  (e:s.heap.get? l=some { cls:=.type "list",data:=.seq its.toArray n }) (hf:f its.toArray=its'.toArray) (hv:Vals ys its') (hz:ys.length<=sizeLine) :
  Inv X pins σ (upd H l (.lst ys)) { s with heap:=s.heap.update l (Obj.mapSeq f),toks:=t' }:=by
 have q:=PySem.IsL.update e f
 rw [hf] at q
 refine I.write (x:=l) (e:=l) (by rw [hH];exact trivial) (.inl rfl) (fun b' u hb hu=>(Heap.get?_update_other s.heap (Obj.mapSeq f) (Ne.symm hb)).trans hu) ⟨_,q⟩ ?_
 exact ⟨hz,its',_,hv,q⟩
theorem Inv.lnew {its:List Value}{t':Nat}(I:Inv X pins σ H s) (hv:Vals ys its) (hz:ys.length<=sizeLine) :
  Inv X pins σ (upd H s.heap.objs.size (.lst ys)) { s with heap:=s.heap.push { cls:=.type "list",data:=.seq its.toArray },toks:=t' } :=
 I.laid (fun _ _ q=>Heap.get?_push_of_some _ q) (Nat.le_refl _) ⟨hz,its,0,hv,Heap.get?_push_size _ rfl⟩
theorem Inv.fresh (I:Inv X pins σ H s):H s.heap.objs.size=none:=I.hok.fresh (Nat.le_refl _)
theorem Inv.lstM (I:Inv X pins σ H s) (hH:H l=some (.lst xs)):xs.length<=sizeLine/\∃ (its:List Value) (n:Nat),Vals xs its/\xs.length=its.length/\s.heap.get? l=some { cls:=.type "list",data:=.seq its.toArray n }:=by
 obtain ⟨z,its,n,r,e⟩:=I.hok l _ hH
 exact ⟨z,its,n,r,r.length,e⟩
end
section
variable {X:Cx}
def rAppend:V->List V->Hp->VK->Prop:=fun x vs H Q=>∃ l xs y,x=.ref l/\vs=[y]/\H l=some (.lst xs)/\xs.length<sizeLine/\Q .non (upd H l (.lst (xs++[y])))
theorem mt_append:MtM X "list.append" rAppend:=by
 intro pins s σ H x vs v us Q I rx rv h
 obtain ⟨l,xs,y,rfl,rfl,hH,hz,q⟩:=h
 cases rx
 obtain ⟨u,rfl,ru⟩:=rv.one
 obtain ⟨z,its,n,r,hl,e⟩:=I.lstM hH
 refine call_meets F.slot_list_append ⟨_,e,rfl⟩ F.entry_list_append (F.args_list_append_2 _ _) (PySem.list_append l its.toArray n u (by rw [List.size_toArray];omega)) ⟨e,?_⟩
 refine ⟨.non,_,I.lset (its':=its++[u]) hH e (by simp) (r.append (.cons ru .nil)) ?_,rfl,q⟩
 rw [List.length_append,List.length_singleton]
 omega
end
section
variable {prog:Program}{w:World}{A:Around}{E:Value->Shared->Prop}{s:Shared}
end
section
variable {X:Cx}
end
end L2
namespace Att
open PySem PySem.W PySem.Calls PyProof.Rows
theorem ints_of_wellAll {P:Params}{h:Heap}:∀ (ns:List Int) (vs:List Value),WellAll P h vs (ns.map WData.int)->IntsAre vs ns:=by
 intro ns
 induction ns with
 | nil =>
  intro vs w
  rw [List.map_nil] at w
  cases w
  exact .nil
 | cons n ns ih =>
  intro vs w
  rw [List.map_cons] at w
  cases w with
  | cons a b =>
   cases a
   exact .cons _ _ (ih _ b)
theorem script_of {l:OpenLaw}{n:Nat}(hn:l.most=some n) {P:Params}{h:Heap}{args:List WData}{vals:List Value}
  (hpre:l.row.toRowW.claim.pre args=true) (hwl:WellAll P h vals args) :
  ∃ a vs ns,vals=[Value.ref a]/\args=[WData.list (ns.map WData.int)]/\h.get? a=some { cls:=.type "list",data:=.seq vs.toArray }/\IntsAre vs ns/\ns.length<=n:=by
 have hsh:WShape.hasAll [] args [.list .int]=true:=(pre_splitW hpre).1
 have hc:l.pre.holds [] { args:=args }=true:=(pre_splitW hpre).2
 obtain ⟨d,r,rfl,h1,h2⟩:=hasAllW_cons hsh
 obtain rfl:=hasAllW_nil h2
 obtain ⟨xs,rfl,h3⟩:=hasW_list h1
 obtain ⟨ns,rfl⟩:=items_int h3
 have hlen:ns.length<=n:=by
  unfold OpenLaw.pre at hc
  have h4:(WTm.not (.lt (.lit (.int (n:Int))) (.len (.arg 0)))).holds [] { args:=[.list (ns.map .int)] }=true:=by
   have h4:=(holds_andW hc).1
   rw [hn] at h4
   exact h4
  have h5:=condW_of h4 (w_not (w_lt w_lit (w_len_list (w_arg rfl))))
  rw [List.length_map] at h5
  refine Nat.le_of_not_lt fun q=>?_
  have q':(n:Int)<((ns.length:Nat):Int):=by omega
  first
   | (rw [decide_eq_true q'] at h5;exact absurd h5 (by decide))
   | (simp at h5;omega)
 cases hwl with
 | cons w1 w2 =>
  cases w2
  cases w1 with
  | list ho hall=>exact ⟨_,_,ns,rfl,rfl,ho,ints_of_wellAll ns _ hall,hlen⟩
theorem post_true (l:OpenLaw) (args:List WData):l.row.toRowW.claim.post args (.bool true) args=true :=
 postW_of (r:=l.row.toRowW) (X:=(true == true))
  (show WShape.has [] (.bool true) .bool=true by first | rfl | decide | simp [WShape.has,WShape.arms,WShape.armsAll])
  (show (WTm.eq .res (.lit (.bool true))).value [] { args:=args,res:=some (.bool true),after:=args }=some (.bool (true == true)) from w_eq_bool (w_res rfl) w_lit) rfl
theorem attach_call {l:OpenLaw}{n:Nat}{q:Program}{loose:List Str}{XP:(Str->Option Value)->Heap->Prop}{YP:World->Heap->Prop}{d:DefRec}
  (hn:l.most=some n) (hdf:d.params.defaults=[])
  (call:∀ (w:World) (s₀ s₁:Shared) (mg mb:Str->Option Value) (fa:Addr) (o:Obj) (pm cd doc:Value) (a:Addr) (vs:List Value) (ns:List Int),
   Ground q loose [] XP w s₀ mg mb s₁.heap->YP w s₁.heap ->
   s₁.heap.get? fa=some o->o.data=.func (docDef d.name d.params d.body d.scope pm cd doc)->s₁.heap.CodeRec cd d.name->mg d.name=some (.ref fa) ->
   s₁.heap.get? a=some { cls:=.type "list",data:=.seq vs.toArray }->IntsAre vs ns->ns.length<=n->s₁.gens=#[] ->
   codeAny (model l.prog w) callerA (.call (.ref fa) ⟨[.ref a],[]⟩) (fun r s'=>r=.ok (.ret (.bool true))/\OldK s₁.heap s'.heap/\s'.os=s₁.os/\AllBare s'.gens) s₁) :
  WalkO q loose XP YP l.row.toRowW d [] (fun f vs=>PySem.call f vs):=by
 intro w s₀ s₁ mg mb G Y fa o pm cd doc dV kV ho hd hcd hD hmg hg args vals as hpre hlay hrd hwl hlo
 obtain rfl:dV=.none:=Dflts.none hD hdf
 obtain rfl:kV=.none:=Dflts.noKw hD
 obtain ⟨a,vs,ns,rfl,rfl,hobj,hints,hlen⟩:=script_of hn hpre hwl
 refine enter_call (codeAny_mono (call w s₀ s₁ mg mb fa o pm cd doc a vs ns G Y ho (fd_plain hd) hcd hmg hobj hints hlen hg) fun r s' hq=>?_)
 obtain ⟨rfl,h2,h3,h4⟩:=hq
 exact ⟨.inl ⟨.bool true,.bool true,[],rfl,fun _=>rfl,.bool true,post_true l _,fun _=>⟨List.Pairwise.nil,fun _ hm=>(nomatch hm)⟩⟩,h2,h3,h4⟩
section
variable {prog:Program}{w:World}{A:Around}{E:Value->Shared->Prop}{s:Shared}{K:Frag}
def ledger (h:Heap) (L d:Addr):List (Addr×Obj):=(List.range h.objs.size).filterMap fun a=>if a=L\/a=d then none else (h.get? a).map fun o=>(a,o)
end
end Att
namespace L2
open PySem PySem.Spec PyProof.Rows
theorem vals_ints:∀ {vs:List Value}{ns:List Int},IntsAre vs ns->Vals (ns.map V.int) vs
 | _,_,.nil=>.nil
 | _,_,.cons n t h=>.cons ⟨t,rfl⟩ (vals_ints h)
def Only (H:Hp):Prop:=∀ b,H b=none\/∃ o xs,H b=some (.frz o (.lst xs))
theorem law_call {P:Program}{w:World}{K:PySem.W.Frag}{mg mb:Str->Option Value}{CX:CXT}{k:Nat}{fa a:Addr}{fd:FuncData}{x:Str}{sp:Sp}{s₁:Shared}{vs:List Value}{ns:List Int}
  (KX:K.In s₁.heap) (hns:s₁.heap.Ns mainGlobals mg) (hb:s₁.heap.Ns builtinsNs mb) (hbb:∀ x:Str,x≠"__name__"->mb x=bootBuiltins x) (hlim:s₁.heap.NoLimit) (hg:s₁.gens=#[])
  (ha:s₁.heap.get? a=some { cls:=.type "list",data:=.seq vs.toArray }) (hi:IntsAre vs ns) (hl:ns.length<=sizeLine) (hr:Room k callerA)
  (F:∀ base:Heap,K.In base->base.Ns mainGlobals mg->FnOk P w K mg base CX k fa fd [x] sp) (hbind:∀ (s:Shared) (u:Value),BindsTo s fd ⟨[u],[]⟩ [(x,u)])
  (hsp:∀ H:Hp,Only H->SqL K H a (ns.map V.int)->sp [.ref a] H (fun v _=>v=.bl true) fun _ _ _=>False)
  (hCX:∀ H e s',CX [] H s₁ (fun _ _ _=>False) e s'->False) :
  codeAny (model P w) callerA (.call (.ref fa) ⟨[.ref a],[]⟩) (fun r s'=>r=.ok (.ret (.bool true))/\OldK s₁.heap s'.heap/\s'.os=s₁.os/\AllBare s'.gens) s₁:=by
 have rv:=vals_ints hi
 have lenV:=hi.length
 have core:∀ H:Hp,Only H->SqL K H a (ns.map V.int)->HOk P w H s₁.heap->(∀ b,H b≠none->b=a)->(H a≠none->K.lookup a=none) ->
   codeAny (model P w) callerA (.call (.ref fa) ⟨[.ref a],[]⟩) (fun r s'=>r=.ok (.ret (.bool true))/\OldK s₁.heap s'.heap/\s'.os=s₁.os/\AllBare s'.gens) s₁:=by
  intro H hO hS hok hA hK
  have base_of:∀ {b:Addr} {o:Obj},s₁.heap.get? b=some o->H b=none->(hidT s₁.heap H).get? b=some o:=fun e n=>hidT_get e n
  have noA:∀ {b:Addr} {o:Obj} {es:Array DictEntry} {ep:Nat},s₁.heap.get? b=some o->o.data=.dict es ep->H b=none:=fun {b o es ep} e d=>by
   cases q:H b with
   | none=>rfl
   | some u =>
    have e':b=a:=hA b (by rw [q];simp)
    subst e'
    rw [ha] at e;cases e
    have d':Data.seq vs.toArray _=Data.dict es ep:=d
    cases d'
  have nsK:∀ {b:Addr} {m:Str->Option Value},s₁.heap.Ns b m->(hidT s₁.heap H).Ns b m:=fun {b m} ⟨o,es,ep,e,d,r⟩=>⟨o,es,ep,base_of e (noA e d),d,r⟩
  have hKb:K.In (hidT s₁.heap H):=fun b o e=>base_of (KX b o e) (by
   cases q:H b with
   | none=>rfl
   | some u =>
    have e':b=a:=hA b (by rw [q];simp)
    subst e'
    rw [hK (by rw [q];simp)] at e;cases e)
  have hM:Mod K mg (hidT s₁.heap H):=⟨hKb,nsK hns,⟨mb,nsK hb,hbb⟩,let ⟨mc,h1,h2⟩:=hlim;⟨mc,nsK h1,h2⟩⟩
  have e0:Env0 P w K mg (hidT s₁.heap H) callerA [] s₁ H:=⟨rfl,hM,fun b o e=>of_hidT e,Nat.le_of_eq (hidT_size _ _),trivial,fun b hb=>absurd (show b∈([]:List Addr) from hb) (by simp),hok,.of_eq hg⟩
  refine codeAny_mono ((F _ hKb (nsK hns)).run callerA [] s₁ H ⟨[.ref a],[]⟩ [.ref a] [.ref a] _ _ hr e0 (hbind s₁ (.ref a)) (.cons rfl .nil) (hsp H hO hS)) fun r s' h=>?_
  cases r with
  | error e=>exact (hCX H e s' h).elim
  | ok fl =>
   cases fl with
   | next=>exact False.elim h
   | brk=>exact False.elim h
   | cont=>exact False.elim h
   | ret u =>
    obtain ⟨v,H',os,bare,un,hok',r',q⟩:=h
    have q':v=.bl true:=q
    subst q'
    obtain rfl:u=Value.bool true:=r'
    refine ⟨rfl,OldK.of_keep fun b o e=>?_,os,bare⟩
    cases q:H b with
    | none=>exact un.keep b o e q (by intro z;exact absurd (show b∈([]:List Addr) from z) (by simp)) (by simp)
    | some u =>
     rcases hO b with z|⟨ob,xs,z⟩
     ·rw [q] at z;cases z
     ·have z2:=un.frzs b ob _ z
      obtain ⟨e1,_⟩:=hok b _ z
      obtain ⟨e2,_⟩:=hok' b _ z2
      rw [e] at e1;cases e1
      exact e2
 cases hk:K.lookup a with
 | some o =>
  have e:=KX a o hk
  rw [ha] at e
  cases e
  refine core (fun _=>none) (fun _=>.inl rfl) (.inr ⟨_,vs.toArray,_,hk,rfl,rfl,rfl,by rw [List.size_toArray,lenV];exact hl,by simpa using rv⟩) (fun b u z=>by have z':(none:Option HO)=some u:=z;cases z') (fun b z=>absurd rfl z) fun z=>absurd rfl z
 | none =>
  refine core (fun b=>if b=a then some (.frz { cls:=.type "list",data:=.seq vs.toArray } (.lst (ns.map V.int))) else none) (fun b=>?_) (.inl (.inr ⟨{ cls:=.type "list",data:=.seq vs.toArray },if_pos rfl⟩)) (fun b u z=>?_) (fun b z=>?_) fun _=>hk
  ·by_cases hb:b=a
   ·exact .inr ⟨_,_,if_pos hb⟩
   ·exact .inl (if_neg hb)
  ·by_cases hb:b=a
   ·have z':=(if_pos hb).symm.trans z
    cases z'
    subst hb
    exact ⟨ha,by rw [List.length_map];exact hl,vs,_,rv,ha⟩
   ·have z':=(if_neg hb).symm.trans z
    cases z'
  ·by_cases hb:b=a
   ·exact hb
   ·exact absurd (if_neg hb) z
abbrev KOf {K:PySem.W.Frag}{h:Heap}(_:K.In h):PySem.W.Frag:=K
theorem walk_of {l:PySem.W.OpenLaw}{n k:Nat}{q:Program}{loose:List Str}{XP:(Str->Option Value)->Heap->Prop}{YP:World->Heap->Prop}{d:DefRec}{K:Params->PySem.W.Frag}{CX:World->CXT}{sp:World->Sp}{x:Str}
  (hn:l.most=some n) (hn2:n<=sizeLine) (hdf:d.params.defaults=[]) (hr:Room k callerA)
  (hY:∀ (w:World) (h:Heap),YP w h->(K w.params).In h)
  (F:∀ (w:World) (mg:Str->Option Value) (fa:Addr) (h:Heap),(K w.params).In h->h.Ns mainGlobals mg->mg d.name=some (.ref fa) ->
   ∃ fd:FuncData,(∀ (s:Shared) (u:Value),BindsTo s fd ⟨[u],[]⟩ [(x,u)]) /\
    ∀ base:Heap,(K w.params).In base->base.Ns mainGlobals mg->FnOk l.prog w (K w.params) mg base (CX w) k fa fd [x] (sp w))
  (hsp:∀ (w:World) (H:Hp) (a:Addr) (ns:List Int),ns.length<=n->Only H->SqL (K w.params) H a (ns.map V.int)->sp w [.ref a] H (fun v _=>v=.bl true) fun _ _ _=>False)
  (hCX:∀ (w:World) (H:Hp) (s:Shared) (e:Value) (s':Shared),CX w [] H s (fun _ _ _=>False) e s'->False) :
  PySem.W.WalkO q loose XP YP l.row.toRowW d [] (fun f vs=>PySem.call f vs):=by
 refine Att.attach_call hn hdf fun w s₀ s₁ mg mb fa o pm cd doc a vs ns G Y ho hd hcd hmg hobj hints hlen hg=>?_
 have KX:=hY w _ Y
 obtain ⟨fd,hb,hF⟩:=F w mg fa _ KX G.T.g hmg
 exact law_call KX G.T.g G.T.b G.T.builtins G.T.nolimit hg hobj hints (Nat.le_trans hlen hn2) hr hF hb (fun H hO hS=>hsp w H a ns hlen hO hS) fun H e s'=>hCX w H s₁ e s'
def dfA (s:Stmt):Arguments:=match s with
 | .FunctionDef _ a _ _ _ _ _ _ _ _=>a
 | _=>{ posonlyargs:=[],args:=[],vararg:=none,kwonlyargs:=[],kw_defaults:=[],kwarg:=none,defaults:=[] }
def dfB (s:Stmt):List Stmt:=match s with
 | .FunctionDef _ _ b _ _ _ _ _ _ _=>b
 | _=>[]
def dfS (s:Stmt):Scope:=match s with
 | .FunctionDef _ _ _ _ _ _ sc _ _ _=>sc
 | _=>{ kind:=.function,names:=[],isGenerator:=false,isCoroutine:=false }
abbrev CX0:CXT:=fun _ _ _ _ _ _=>False
abbrev E0:XK:=fun _ _ _=>False
theorem pass0 {X:Cx}:Passes CX0 X E0:=fun _ _ _ _ _ _ _ h=>h.elim
structure Fun (K:PySem.W.Frag) (x qual:Str) (st:Stmt) (f:Addr) (fd:FuncData):Prop where
 ex:∃ (oc:Value) (od:Option Addr) (kV doc pm:Value) (an:Option Addr) (cdv ct:Value) (osl:Array (Option Value)),
  fd=PySem.W.fnOf x qual (dfA st) (dfB st) (dfS st) .none kV doc pm an cdv ct/\K.lookup f=some ⟨oc,od,.func fd,osl⟩/\PySem.W.codeIn K cdv qual=true
 kp:PySem.W.keepIn K (.ref f)=true
section
variable {P:Program}{w:World}{K:PySem.W.Frag}{mg:Str->Option Value}{base:Heap}
theorem Fun.ok {x qual:Str}{st:Stmt}{f:Addr}{fd:FuncData}{N ps:List Str}{k:Nat}{sp:Sp}(F:Fun K x qual st f fd) (S:FnScope N ps (dfS st)) (len:∀ vs H Q E,sp vs H Q E->vs.length=ps.length)
  (hbody:∀ (cdv:Value) (A:Around) (outer:List Env) (s:Shared) (H:Hp) (vs:List V) (Q:VK) (E:XK),Room k (A.deeper (envOfC qual (dfS st) s.heap.objs.size f cdv))->sp vs H Q E ->
   ∃ t,PSs (cxOf CX0 P w K mg base N qual (dfS st) f cdv A outer s H E).nox (dfB st) t/\t { nx:=fun _ H'=>Q .non H',rt:=Q } (start N vs) H):FnOk P w K mg base CX0 (k+1) f fd ps sp:=by
 obtain ⟨oc,od,kV,doc,pm,an,cdv,ct,osl,rfl,lk,hcd⟩:=F.ex
 refine fn_of lk hcd S len fun A outer s H vs Q E hr hsp=>?_
 obtain ⟨t,h,q⟩:=hbody cdv A outer s H vs Q E hr hsp
 exact ⟨t,h.nox,q⟩
theorem Fun.binds {x qual:Str}{st:Stmt}{f:Addr}{fd:FuncData}{ps:List Str}(F:Fun K x qual st f fd)
  (h:∀ (kV doc pm:Value) (an:Option Addr) (cdv ct:Value) (us:List Value),us.length=ps.length->bindArgs (PySem.W.fnOf x qual (dfA st) (dfB st) (dfS st) .none kV doc pm an cdv ct) ⟨us,[]⟩=pure (ps.zip us)):Binds K fd ps []:=by
 obtain ⟨oc,od,kV,doc,pm,an,cdv,ct,osl,rfl,lk,hcd⟩:=F.ex
 exact .all (h kV doc pm an cdv ct)
theorem fun_mk {x qual:Str}{st:Stmt}{f:Addr}{oc:Value}{od an:Option Addr}{osl:Array (Option Value)}{kV doc pm cdv ct:Value}(l:K.lookup f=some ⟨oc,od,.func (PySem.W.fnOf x qual (dfA st) (dfB st) (dfS st) .none kV doc pm an cdv ct),osl⟩)
  (c:PySem.W.codeIn K cdv qual=true) (k:PySem.W.keepIn K (.ref f)=true):Fun K x qual st f (PySem.W.fnOf x qual (dfA st) (dfB st) (dfS st) .none kV doc pm an cdv ct):=⟨⟨oc,od,kV,doc,pm,an,cdv,ct,osl,rfl,l,c⟩,k⟩
end
theorem hu_of {A:Around}{k:Nat}(hr:Room k A):A.units+1<cLine:=Nat.lt_of_le_of_lt (Nat.add_le_add_left (by decide:1<=64) _) hr.units
theorem small1000 {n:Nat}(h:n<=1000):n<sizeLine:=Nat.lt_of_le_of_lt h (by decide)
section
variable {X:Cx}
theorem pv (i:Nat) {x:Str}{pos:Pos}(hN:X.N[i]? = some x:=by rfl) (hv:Vis X.env.scope x:=by first | exact Or.inl rfl | exact Or.inr (Or.inl rfl) | exact Or.inr (Or.inr rfl)) (hd:(x == ("__debug__":Str))=false:=by decide)
  (hcd:(x == ("__classdict__":Str))=false:=by decide):PE X (.Name x pos) (tVar i):=pe_var hN hv hd hcd
end
theorem ite2 {c A B:Prop} [Decidable c] (h1:c->A) (h2:¬ c->B):if c then A else B:=by
 by_cases h:c
 ·rw [if_pos h]
  exact h1 h
 ·rw [if_neg h]
  exact h2 h
def Same (H H':Hp):Prop:=∀ b o,H b=some o->H' b=some o
theorem Same.refl (H:Hp):Same H H:=fun _ _ h=>h
theorem Same.trans {H H1 H2:Hp}(a:Same H H1) (b:Same H1 H2):Same H H2:=fun c o h=>b c o (a c o h)
theorem Same.free {H H':Hp}(e:Same H H') {l:Addr}(h:H' l=Option.none):H l=Option.none:=by
 cases q:H l with
 | none=>rfl
 | some o =>
  rw [e l o q] at h
  cases h
theorem Same.seq {K:PySem.W.Frag}{H H':Hp}{a:Addr}{xs:List V}(e:Same H H') (h:SqL K H a xs):SqL K H' a xs:=by
 rcases h with (h|⟨o,h⟩)|h
 ·exact .inl (.inl (e _ _ h))
 ·exact .inl (.inr ⟨o,e _ _ h⟩)
 ·exact .inr h
theorem isi_same (K:PySem.W.Frag) (c:String):PySem.W.kitOne K (.type c) (.type c)=some true:=by
 unfold PySem.W.kitOne
 rw [if_pos (beq_self_eq_true _)]
theorem Inv.track {X:Cx}{pins:List (Addr×Obj)}{σ:St}{H:Hp}{s:Shared}{D:Addr}{o:HO}(I:Inv X pins σ H s) (f:FpOk X pins H D)
  (new:ObjOk X.prog X.w (upd H D o) s.heap D o):Inv X pins σ (upd H D o) s:=by
 obtain ⟨hn,h2,_,h1,h3,h4⟩:=f
 have hu:∀ b u,H b=some u->upd H D o b=some u:=fun b u e=>by rw [upd_ne (ne_of_none e hn)];exact e
 have hok:HOk X.prog X.w (upd H D o) s.heap:=fun b u e=>by
  by_cases hb:b=D
  ·subst hb;rw [upd_same] at e;cases e;exact new
  ·rw [upd_ne hb] at e
   exact (I.hok b u e).stay (fun _ _ _ q=>q) (fun c q=>hu c _ q) fun c xs q=>hu c _ q
 exact I.step (h':=s.heap) (H':=upd H D o) (g':=s.gens) (t':=s.toks) (d':=s.drawn) (ch:=[D])
  (fun b hb=>by
   have e:b=D:=by simpa using hb
   subst e
   exact ⟨h1,h2,h3,h4⟩)
  (fun b o' _ _ _ e _=>e) (fun b o' _ _ _ e _=>⟨o'.slots,e⟩)
  (fun b o' hb e n=>by rw [upd_ne (fun z=>hb (by simp [z]))];exact n)
  (fun b o' _ e=>⟨o',e⟩) (fun b xs e=>hu b _ e) (fun b o' u e=>hu b _ e) (fun b ps e=>⟨#[],by rw [hu b _ e];simp⟩) (fun m hm=>hm) hok I.bare
theorem forIn_fold {α β:Type}{f:α->β->Sem (ForInStep β)}(g:α->β->β):∀ (l:List α) (c:β),(∀ x∈l,∀ c,f x c=pure (.yield (g x c)))->forIn l c f=pure (l.foldl (fun c x=>g x c) c)
 | [],c,_=>rfl
 | x::l,c,h=>by
  rw [List.forIn_cons,h x List.mem_cons_self,pure_bind]
  exact forIn_fold g l (g x c) fun y hy=>h y (List.mem_cons_of_mem _ hy)
def capG (env:Env) (y:Str×NameKind) (c:List (Str×Addr)):List (Str×Addr):=if (y.2 == .free)=true then (y.1,(env.cells.lookup y.1).getD 0)::c else c
def capAll (env:Env) (l:List (Str×NameKind)) (c:List (Str×Addr)):List (Str×Addr):=l.foldl (fun c y=>capG env y c) c
theorem closureFor_eq {scope:Scope}{env:Env}(h:∀ y∈scope.names,y.2=.free->∃ c,env.cells.lookup y.1=some c):closureFor scope env=pure (capAll env scope.names []):=by
 simp only [closureFor]
 rw [forIn_fold (capG env) scope.names [] (fun x hx c=>by
  obtain ⟨n,k⟩:=x
  by_cases hk:k=.free
  ·subst hk
   obtain ⟨a,ha⟩:=h _ hx rfl
   simp [capG,cellOf,ha]
  ·have:(k == NameKind.free)=false:=by simpa using hk
   simp [capG,this])]
 rfl
theorem lookup_mem {α:Type}{x:Str}{k:α}:∀ {l:List (Str×α)},l.lookup x=some k->(x,k)∈l
 | [],h=>by simp at h
 | (n,a)::r,h=>by
  rw [List.lookup_cons] at h
  cases e:x == n with
  | true =>
   rw [e] at h
   have e':x=n:=by simpa using e
   have h':a=k:=by simpa using h
   rw [e',h']
   exact List.mem_cons_self
  | false =>
   rw [e] at h
   exact List.mem_cons_of_mem _ (lookup_mem (by simpa using h))
theorem cap_sound {env:Env}:∀ (l:List (Str×NameKind)) (acc:List (Str×Addr)),(∀ y∈l,y.2=.free->∃ c,env.cells.lookup y.1=some c) ->
  (∀ x c,acc.lookup x=some c->env.cells.lookup x=some c)->∀ x c,(capAll env l acc).lookup x=some c->env.cells.lookup x=some c
 | [],acc,_,ha,x,c,e=>ha x c e
 | (n,k)::l,acc,h,ha,x,c,e=>by
  refine cap_sound l (capG env (n,k) acc) (fun y hy=>h y (List.mem_cons_of_mem _ hy)) (fun x c e=>?_) x c e
  by_cases hk:k=.free
  ·subst hk
   obtain ⟨a,hb⟩:=h (n,.free) List.mem_cons_self rfl
   have z:capG env (n,NameKind.free) acc=(n,a)::acc:=by simp [capG,hb]
   rw [z,List.lookup_cons] at e
   cases q:x == n with
   | true =>
    rw [q] at e
    have q':x=n:=by simpa using q
    have e':a=c:=by simpa using e
    rw [q',<- e']
    exact hb
   | false =>
    rw [q] at e
    exact ha x c (by simpa using e)
  ·have:(k == NameKind.free)=false:=by simpa using hk
   have z:capG env (n,k) acc=acc:=by simp [capG,this]
   rw [z] at e
   exact ha x c e
theorem cap_has {env:Env}{x:Str}:∀ (l:List (Str×NameKind)) (acc:List (Str×Addr)),((∃ c,acc.lookup x=some c)\/(x,NameKind.free)∈l)->∃ c,(capAll env l acc).lookup x=some c
 | [],acc,h=>by
  rcases h with h|h
  ·exact h
  ·cases h
 | (n,k)::l,acc,h=>by
  refine cap_has l (capG env (n,k) acc) ?_
  by_cases hk:k=.free
  ·subst hk
   have z:capG env (n,NameKind.free) acc=(n,(env.cells.lookup n).getD 0)::acc:=by simp [capG]
   cases q:x == n with
   | true=>exact .inl ⟨_,by rw [z,List.lookup_cons,q]⟩
   | false =>
    rcases h with ⟨c,h⟩|h
    ·exact .inl ⟨c,by rw [z,List.lookup_cons,q];exact h⟩
    ·rcases List.mem_cons.mp h with e|h
     ·have e':x=n:=(Prod.mk.inj e).1
      rw [e'] at q
      simp at q
     ·exact .inr h
  ·have:(k == NameKind.free)=false:=by simpa using hk
   have z:capG env (n,k) acc=acc:=by simp [capG,this]
   rw [z]
   rcases h with h|h
   ·exact .inl h
   ·rcases List.mem_cons.mp h with e|h
    ·exact absurd (Prod.mk.inj e).2.symm hk
    ·exact .inr h
theorem lookup_relabel {env:Env}{x:Str}:∀ {names:List (Str×NameKind)}{k:NameKind},
  (names.map fun (n,k)=>if (k == NameKind.free && env.scope.kind == .function && env.kindOf n == some .cell) then (n,NameKind.cell) else (n,k)).lookup x=some k ->
  names.lookup x=some k\/(k=.cell/\names.lookup x=some .free)
 | [],_,h=>by simp at h
 | (n,k0)::r,k,h=>by
  rw [List.map_cons] at h
  by_cases hc:(k0 == NameKind.free && env.scope.kind == .function && env.kindOf n == some .cell)=true
  ·have hf:k0=.free:=by
    simp only [Bool.and_eq_true] at hc
    simpa using hc.1.1
   simp only [hc,if_true] at h
   rw [List.lookup_cons] at h ⊢
   cases q:x == n with
   | true =>
    rw [q] at h
    have h':NameKind.cell=k:=by simpa using h
    exact .inr ⟨h'.symm,by rw [hf]⟩
   | false =>
    rw [q] at h
    exact lookup_relabel (by simpa using h)
  ·have hc':(k0 == NameKind.free && env.scope.kind == .function && env.kindOf n == some .cell)=false:=by simpa using hc
   simp only [hc',if_false,Bool.false_eq_true] at h
   rw [List.lookup_cons] at h ⊢
   cases q:x == n with
   | true =>
    rw [q] at h
    exact .inl (by simpa using h)
   | false =>
    rw [q] at h
    exact lookup_relabel (by simpa using h)
theorem relabel_free {env:Env}{x:Str}:∀ {names:List (Str×NameKind)},names.lookup x=some .free ->
  (names.map fun (n,k)=>if (k == NameKind.free && env.scope.kind == .function && env.kindOf n == some .cell) then (n,NameKind.cell) else (n,k)).lookup x=some .cell \/
  (names.map fun (n,k)=>if (k == NameKind.free && env.scope.kind == .function && env.kindOf n == some .cell) then (n,NameKind.cell) else (n,k)).lookup x=some .free
 | [],h=>by simp at h
 | (n,k0)::r,h=>by
  rw [List.map_cons]
  rw [List.lookup_cons] at h
  by_cases hc:(k0 == NameKind.free && env.scope.kind == .function && env.kindOf n == some .cell)=true
  ·simp only [hc,if_true]
   rw [List.lookup_cons]
   cases q:x == n with
   | true=>exact .inl rfl
   | false =>
    rw [q] at h
    exact relabel_free (by simpa using h)
  ·have hc':(k0 == NameKind.free && env.scope.kind == .function && env.kindOf n == some .cell)=false:=by simpa using hc
   simp only [hc',if_false,Bool.false_eq_true]
   rw [List.lookup_cons]
   cases q:x == n with
   | true =>
    rw [q] at h
    exact .inr (by simpa using h)
   | false =>
    rw [q] at h
    exact relabel_free (by simpa using h)
theorem codeAny_compLoop_any {prog:Program}{w:World}{A:Around}{R:Result->Shared->Prop}{s:Shared}{elt target iter:Expr}{ifs:List Expr}{scope:Scope}{pos:Pos}{it acc:Value}{env:Env}(I:Nat->Shared->Prop)
  (turn:∀ n s,I n s->wpAny (model prog w) A (pyNext it) (fun r s₁=>match r with
   | none=>R (.ok .next) s₁
   | some v=>wpAny (model prog w) A (letOwnedTupleGo target it v) (fun _ s₁'=>wpAny (model prog w) A (assign target env v) (fun _ s₂ =>
     wpAny (model prog w) A (forIn ifs true fun c r=>if r=true then do let ok <- isTrue c env (eval c env);pure (ForInStep.yield ok) else pure (ForInStep.yield r)) (fun ok s₃ =>
      if ok=true then wpAny (model prog w) A (eval elt env) (fun x s₄ =>
       wpAny (model prog w) A (call (.builtin "list.append") [acc,x]) (fun _ s₅=>∃ m,m<n/\I m s₅) (notedBy (model prog w) A env fun e s'=>R (.error e) s') s₄) (notedBy (model prog w) A env fun e s'=>R (.error e) s') s₃
      else ∃ m,m<n/\I m s₃) (notedBy (model prog w) A env fun e s'=>R (.error e) s') s₂) (notedBy (model prog w) A env fun e s'=>R (.error e) s') s₁') (notedBy (model prog w) A env fun e s'=>R (.error e) s') s₁)
      (notedBy (model prog w) A env fun e s'=>R (.error e) s') s)
  (n:Nat) (h:I n s) :
  codeAny (model prog w) A (.compLoop (.ListComp elt [⟨target,iter,ifs,0⟩] scope pos) 0 it acc env) R s:=by
 refine codeAny_loop rfl I (fun n s hI=>?_) n h
 show wpAny _ A ((compTurn (.ListComp elt [⟨target,iter,ifs,0⟩] scope pos) 0 it acc env).onRaise (fun x=>do noteFrame x env;theTreesLotGoes x)) _ _ s
 refine wpAny_noted ?_
 rw [compTurn_list]
 refine wpAny_bind (wpAny_standAt (wpAny_bind (wpAny_mono (turn n s hI) (fun r s₁ h₁=>?_) fun _ _ h'=>h')))
 cases r with
 | none=>exact wpAny_pure h₁
 | some v =>
  refine wpAny_bind (wpAny_mono h₁ (fun _ s₁' h₁'=>wpAny_bind (wpAny_mono h₁' (fun _ s₂ h₂=>wpAny_bind (wpAny_mono h₂ (fun ok s₃ h₃=>?_) fun _ _ h'=>h')) fun _ _ h'=>h')) fun _ _ h'=>h')
  cases ok with
  | false=>exact wpAny_pure ⟨rfl,h₃⟩
  | true =>
   exact wpAny_bind (wpAny_bind (wpAny_mono h₃ (fun x s₄ h₄=>wpAny_bind (wpAny_mono h₄ (fun _ s₅ h₅=>wpAny_pure (wpAny_pure ⟨rfl,h₅⟩)) fun _ _ h'=>h')) fun _ _ h'=>h'))
def blk (X:Cx) (scope:Scope) (cl:List (Str×Addr)) (C:Addr) (N:List Str) (fp:List Addr) (pins:List (Addr×Obj)) (s:Shared) (H:Hp):Cx where
 prog:=X.prog
 w:=X.w
 K:=X.K
 mg:=X.mg
 base:=X.base
 A:=X.A
 N:=N
 s₀:=s
 H₀:=H
 env:=compEnvC scope cl C X.env
 outer:=X.stack
 stack:=X.stack
 ex:=fp
 calm:=X.calm
 fn:=fun _=>false
 pn:=X.pn++pins
 xe:=fun _ _=>False
 fz:=X.fz
def tTrue:TT:=fun _ H Q=>Q true H
inductive PIfs (Y:Cx):List Expr->TT->Prop where
 | nil:PIfs Y [] tTrue
 | one {c:Expr} {t:TT} (h:PT Y c t):PIfs Y [c] t
def capSt (σ:St) (caps:List (Str×Nat)) (v:Option V):St:=v::caps.map fun c=>(σ[c.2]?).join
def tComp (wi:TI) (caps:List (Str×Nat)) (tt:TT) (te:TE):TE:=fun σ H Q=>wi σ H fun J H1=>∃ (n:Nat) (W:Nat->List V->Hp->Prop),W 0 [] H1/\∀ i ys H,W i ys H ->
 (J.stop i H/\ys.length<=sizeLine/\∀ p,H p=none->Q (.ref p) (upd H p (.lst ys))) \/
 (J.go i H/\i<n/\ys.length<sizeLine/\∀ x H',J.yld i H x H'->tt (capSt σ caps (some x)) H' fun b H2=>if b=true then te (capSt σ caps (some x)) H2 fun y H3=>W (i+1) (ys++[y]) H3 else W (i+1) ys H2)
structure BlkOk (X:Cx) (scope:Scope) (x:Str) (caps:List (Str×Nat)):Prop where
 kind:scope.kind=.function
 frees:(scope.names.all fun y=>y.2 != .free || X.env.scope.names.lookup y.1 == some .cell || X.env.scope.names.lookup y.1 == some .free)=true
 nocell:(scope.names.all fun y=>y.2 != .cell)=true
 locs:(scope.names.all fun y=>y.2 != .local || scope.names.lookup y.1 == some .local)=true
 var:scope.names.lookup x=some .local
 capsOk:(caps.all fun c=>scope.names.lookup c.1 == some .free && X.N[c.2]? == some c.1 && (X.env.scope.names.lookup c.1 == some .cell || X.env.scope.names.lookup c.1 == some .free))=true
 nd:(x::caps.map (·.1)).Nodup
section
variable {X:Cx}{pins:List (Addr×Obj)}{σ:St}{H:Hp}{s:Shared}{scope:Scope}{x:Str}{px pos:Pos}{caps:List (Str×Nat)}{elt iter:Expr}{ifs:List Expr}{tt:TT}{te:TE}
theorem BlkOk.hfree (B:BlkOk X scope x caps):∀ y∈scope.names,y.2=.free->X.env.kindOf y.1=some .cell\/X.env.kindOf y.1=some .free:=fun y hy hf=>by
 have:=List.all_eq_true.mp B.frees y hy
 rw [hf] at this
 simp only [Bool.or_eq_true] at this
 rcases this with (h|h)|h
 ·simp at h
 ·exact .inl (show X.env.scope.names.lookup y.1=_ by simpa using h)
 ·exact .inr (show X.env.scope.names.lookup y.1=_ by simpa using h)
theorem BlkOk.hcell (B:BlkOk X scope x caps):∀ y∈scope.names,y.2≠.cell:=fun y hy hf=>by
 have:=List.all_eq_true.mp B.nocell y hy
 rw [hf] at this
 simp at this
theorem BlkOk.hloc (B:BlkOk X scope x caps):∀ y∈scope.names,y.2=.local->scope.names.lookup y.1=some .local:=fun y hy hf=>by
 have:=List.all_eq_true.mp B.locs y hy
 rw [hf] at this
 simpa using this
theorem BlkOk.hcaps (B:BlkOk X scope x caps):∀ c∈caps,scope.names.lookup c.1=some .free/\X.N[c.2]? = some c.1/\(X.env.kindOf c.1=some .cell\/X.env.kindOf c.1=some .free):=fun c hc=>by
 have:=List.all_eq_true.mp B.capsOk c hc
 simp only [Bool.and_eq_true,Bool.or_eq_true] at this
 obtain ⟨⟨h1,h2⟩,h3⟩:=this
 refine ⟨by simpa using h1,by simpa using h2,?_⟩
 rcases h3 with h|h
 ·exact .inl (show X.env.scope.names.lookup c.1=_ by simpa using h)
 ·exact .inr (show X.env.scope.names.lookup c.1=_ by simpa using h)
theorem blk_ok (B:BlkOk X scope x caps) (I:Inv X pins σ H s) {fp:List Addr}{C:Addr}(hC:C=s.heap.objs.size+1) (hf:∀ b∈fp,FpOk X pins H b) (hfo:∀ b∈fp,∃ o,s.heap.get? b=some o) (hcl:∀ y∈scope.names,y.2=.free->∃ c,X.env.cells.lookup y.1=some c) :
  (blk X scope (capAll X.env scope.names []) C (x::caps.map (·.1)) fp pins s H).Ok where
 mod:=I.ok.mod
 kind:=B.kind
 glob:=I.ok.glob
 blt:=I.ok.blt
 above:=by show s.heap.objs.size<=C;rw [hC];exact Nat.le_succ _
 inj:=fun y z c h1 h2=>I.ok.inj y z c (cap_sound _ _ hcl (fun _ _ e=>by simp at e) _ _ h1) (cap_sound _ _ hcl (fun _ _ e=>by simp at e) _ _ h2)
 has:=fun y h=>by
  refine cap_has _ _ (.inr ?_)
  rcases h with h|h
  ·rcases lookup_relabel h with e|⟨_,e⟩
   ·exact absurd rfl (B.hcell _ (lookup_mem e))
   ·exact lookup_mem e
  ·rcases lookup_relabel h with e|⟨z,e⟩
   ·exact lookup_mem e
   ·cases z
 cab:=fun _ _ h=>nomatch h
 hd:=I.ok.hd
 frames:=I.ok.frames
 stk:=.inl rfl
 exf:=fun b hb=>by
  obtain ⟨o,ho⟩:=hfo b hb
  refine ⟨fun z=>?_,fun y c e=>(hf b hb).2.2.2.2.1 y c (cap_sound _ _ hcl (fun _ _ e=>by simp at e) _ _ e)⟩
  exact absurd (show b=C from z) (Nat.ne_of_lt (by rw [hC];exact Nat.lt_succ_of_lt (Heap.lt_size ho)))
 bs:=I.bs
 bsz:=Nat.le_trans I.ok.bsz I.sz
 noex:=fun b o e hb=>by
  rcases (hf b hb).2.2.2.1 with z|z
  ·exact I.ok.noex b o e z
  ·exact absurd (Nat.lt_of_lt_of_le (Heap.lt_size e) (Nat.le_trans I.ok.bsz z)) (Nat.lt_irrefl _)
 exfs:=fun b hb hs=>by
  rcases List.mem_cons.mp (I.stkSub b hs) with e|e
  ·exact (hf b hb).2.1 e
  ·exact (hf b hb).2.2.1 e
 funs:=I.stack
 frf:=I.stkFree
def lobj (its:List Value) (n:Nat):Obj:={ cls:=.type "list",data:=.seq its.toArray n }
theorem comp_core {Q:VK}{RR:Value->Addr->Result->Shared->Prop}{E:Value->Shared->Prop}(B:BlkOk X scope x caps) (hc:X.calm=true)
  (he:∀ cl C fp pn s H,PE (blk X scope cl C (x::caps.map (·.1)) fp pn s H) elt te) (hif:∀ cl C fp pn s H,PIfs (blk X scope cl C (x::caps.map (·.1)) fp pn s H) ifs tt)
  (hRR:∀ D C s' H' ys m,Inv X pins σ (upd H' D (.lst ys)) s'->FpOk X pins (upd H' D (.lst ys)) C->s'.heap.Ns C m->Q (.ref D) (upd H' D (.lst ys))->RR (.ref D) C (.ok .next) s')
  {it:Value} {s₂:Shared} (h:PIE X pins σ (.Name x px) (fun J H1=>∃ (n:Nat) (W:Nat->List V->Hp->Prop),W 0 [] H1/\∀ i ys H,W i ys H ->
   (J.stop i H/\ys.length<=sizeLine/\∀ p,H p=none->Q (.ref p) (upd H p (.lst ys))) \/
   (J.go i H/\i<n/\ys.length<sizeLine/\∀ v H',J.yld i H v H'->tt (capSt σ caps (some v)) H' fun b H2=>if b=true then te (capSt σ caps (some v)) H2 fun y H3=>W (i+1) (ys++[y]) H3 else W (i+1) ys H2)) it s₂) :
  wpAny (model X.prog X.w) X.A (newList []) (fun acc s₃=>wpAny (model X.prog X.w) X.A (newFunctionEnv scope X.env.globals (capAll X.env scope.names []) [] X.env.qual none .none (some X.env)) (fun cenv s₄ =>
   codeAny (model X.prog X.w) X.A (.compStart (.ListComp elt [⟨.Name x px,iter,ifs,0⟩] scope pos) 0 it acc { cenv with scope:=relabel scope X.env }) (RR acc cenv.locals) s₄) E s₃) E s₂:=by
 obtain ⟨itA,fp,tn,J,H2,rfl,I2,T,st2,f2,n,W,w0,turn⟩:=h
 have hcl:∀ y∈scope.names,y.2=.free->∃ c,X.env.cells.lookup y.1=some c:=fun y hy hf=>I2.ok.has y.1 (B.hfree y hy hf)
 have hfo:∀ b∈fp,∃ o,s₂.heap.get? b=some o:=fun b hb=>by obtain ⟨o,e,_⟩:=T.obj _ _ st2 b hb;exact ⟨o,e⟩
 refine wpAny_newObj_type (wpAny_newFunctionEnv B.hcell (by intro y hy;simp at hy) (fun h₁ hns₁ hsb₁=>?_) B.kind)
 dsimp only at hns₁ hsb₁ ⊢
 generalize hH2:s₂.heap.push { cls:=.type "list",dict:=none,data:=.seq ([]:List Value).toArray }=G2 at hns₁ hsb₁ ⊢
 have hC:G2.objs.size=s₂.heap.objs.size+1:=by rw [<- hH2,Heap.size_push]
 have hDC:s₂.heap.objs.size≠G2.objs.size:=by rw [hC];exact Nat.ne_of_lt (Nat.lt_succ_self _)
 have old:∀ b o,s₂.heap.get? b=some o->h₁.get? b=some o:=fun b o e=>hsb₁.extBut b o (Nat.ne_of_lt (by rw [hC];exact Nat.lt_succ_of_lt (Heap.lt_size e))) (Heap.get?_push_of_some _ (hH2 ▸ Heap.get?_push_of_some _ e))
 have hacc:h₁.get? s₂.heap.objs.size=some (lobj [] 0):=hsb₁.extBut _ _ hDC (Heap.get?_push_of_some _ (hH2 ▸ Heap.get?_push_size _ rfl))
 have okY:=blk_ok B I2 (C:=G2.objs.size) hC f2 hfo hcl
 generalize hY:blk X scope (capAll X.env scope.names []) G2.objs.size (x::caps.map (·.1)) fp pins s₂ H2=Y at okY
 have freshD:H2 s₂.heap.objs.size=none:=I2.hok.fresh (Nat.le_refl _)
 have freshC:H2 G2.objs.size=none:=I2.hok.fresh (by omega)
 have IY:∀ tk,Inv Y [(s₂.heap.objs.size,lobj [] 0)] (capSt σ caps none) H2 { s₂ with heap:=h₁,toks:=tk }:=fun tk=>by
  subst hY
  refine ⟨okY,rfl,I2.bare,Un.kept old,⟨_,hns₁,fun i y v e1 e2 e3=>?_⟩,fun y c e=>?_,freshC,fun y c e=>?_,fun p hp=>?_,I2.hok.kept old,?_,I2.fzd⟩
  ·cases i with
   | zero=>simp [capSt] at e2
   | succ j =>
    have e1':(caps.map (·.1))[j]? = some y:=e1
    have e2':(caps.map fun c=>(σ[c.2]?).join)[j]? = some (some v):=by simpa [capSt] using e2
    rw [List.getElem?_map] at e1' e2'
    cases ec:caps[j]? with
    | none=>rw [ec] at e1';cases e1'
    | some c =>
     rw [ec] at e1' e2'
     have e1'':c.1=y:=by simpa using e1'
     have e2'':(σ[c.2]?).join=some v:=by simpa using e2'
     have hv:σ[c.2]? = some (some v):=by
      cases q:σ[c.2]? with
      | none=>rw [q] at e2'';cases e2''
      | some w'=>rw [q] at e2'';rw [show w'=some v from e2'']
     obtain ⟨k1,k2,k3⟩:=B.hcaps c (List.mem_of_getElem? ec)
     obtain ⟨m,_,hl⟩:=I2.loc
     obtain ⟨u,ru,lk⟩:=hl c.2 c.1 v k2 hv (.inr k3)
     refine ⟨u,ru,.inr ?_⟩
     rcases lk with ⟨z,_⟩|⟨_,cc,ce,ci⟩
     ·rcases k3 with k3|k3
      ·rw [k3] at z;cases z
      ·rw [k3] at z;cases z
     ·obtain ⟨c',hc'⟩:=cap_has (env:=X.env) scope.names [] (.inr (lookup_mem k1))
      have hs':=cap_sound scope.names [] hcl (fun _ _ e=>by simp at e) _ _ hc'
      rw [ce] at hs'
      cases hs'
      refine ⟨?_,cc,?_,?_⟩
      ·rw [<- e1''];exact relabel_free k1
      ·rw [<- e1''];exact hc'
      ·obtain ⟨o,ho,hd⟩:=ci
       exact ⟨o,old _ _ ho,hd⟩
  ·obtain ⟨v,o,ho,hd⟩:=I2.cell y c (cap_sound _ _ hcl (fun _ _ e=>by simp at e) _ _ e)
   exact ⟨v,o,old _ _ ho,hd⟩
  ·exact I2.freeC y c (cap_sound _ _ hcl (fun _ _ e=>by simp at e) _ _ e)
  ·rcases List.mem_append.mp hp with hp|hp
   ·obtain ⟨e,n,ne,nf,d⟩:=I2.pin p hp
    refine ⟨old _ _ e,n,fun z=>?_,fun hs=>?_,d⟩
    ·exact absurd (show p.1=G2.objs.size from z) (Nat.ne_of_lt (by rw [hC];exact Nat.lt_succ_of_lt (Heap.lt_size e)))
    ·rcases List.mem_cons.mp (I2.stkSub _ hs) with z|z
     ·exact ne z
     ·exact nf z
   ·have e:p=(s₂.heap.objs.size,lobj [] 0):=by simpa using hp
    subst e
    refine ⟨hacc,freshD,hDC,fun hs=>?_,fun v z=>by cases z⟩
    rcases List.mem_cons.mp (I2.stkSub _ hs) with z|z
    ·exact absurd z (Nat.ne_of_gt I2.lt)
    ·exact I2.nofs (Nat.le_refl _) z
  ·simp [capSt,blk]
 have fpY:∀ {H':Hp} {l:Obj},(∀ b∈fp,H' b=none)->∀ b∈fp,FpOk Y [(s₂.heap.objs.size,l)] H' b:=fun {H' l} hn b hb=>by
  subst hY
  obtain ⟨o,ho⟩:=hfo b hb
  have:=Heap.lt_size ho
  refine ⟨hn b hb,(okY.exf b hb).1,okY.exfs b hb,.inl hb,(okY.exf b hb).2,fun p hp=>?_⟩
  rcases List.mem_append.mp hp with hp|hp
  ·exact (f2 b hb).2.2.2.2.2 p hp
  ·have e:p=(s₂.heap.objs.size,l):=by simpa using hp
   subst e
   exact fun z=>absurd (show s₂.heap.objs.size=b from z) (Nat.ne_of_gt (Heap.lt_size ho))
 have loop:∀ s₃:Shared,s₃={ s₂ with heap:=h₁,toks:=s₂.toks+([]:List (Str×Value)).length } ->
   codeAny (model X.prog X.w) X.A (.compLoop (.ListComp elt [⟨.Name x px,iter,ifs,0⟩] scope pos) 0 (.ref itA) (.ref s₂.heap.objs.size) (compEnvC scope (capAll X.env scope.names []) G2.objs.size X.env))
    (RR (.ref s₂.heap.objs.size) G2.objs.size) s₃:=by
  rintro s₃ rfl
  refine codeAny_compLoop_any (fun k s'=>∃ i ys H' v its l,k+i=n+1/\Inv Y [(s₂.heap.objs.size,lobj its l)] (capSt σ caps v) H' s'/\tn i s'.heap/\(∀ b∈fp,H' b=none)/\W i ys H'/\Vals ys its) ?_ (n+1)
   ⟨0,[],H2,none,[],0,rfl,IY _,T.keep _ _ _ st2 fun b hb o e=>old b o e,fun b hb=>(f2 b hb).1,w0,.nil⟩
  rintro k s' ⟨i,ys,H',v,its,l,hk,J1,st,fr,w1,rv⟩
  have hYe:Y.prog=X.prog/\Y.w=X.w/\Y.K=X.K/\Y.calm=true/\Y.A=X.A/\Y.env=compEnvC scope (capAll X.env scope.names []) G2.objs.size X.env/\Y.N=x::caps.map (·.1)/\(∀ e s,Y.xe e s->False)/\Y.fz=X.fz:=by
   subst hY
   exact ⟨rfl,rfl,rfl,hc,rfl,rfl,rfl,fun _ _ h=>h,rfl⟩
  obtain ⟨y1,y2,y3,y4,y5,y6,y7,y8,yF⟩:=hYe
  rcases turn i ys H' w1 with ⟨stop,hz,qn⟩|⟨go,hin,hz,step⟩
  ·have d:=T.done Y y1 y2 y3 yF y4 i _ s' _ H' (fun _ _=>False) J1 (fpY fr) st stop
   rw [y5] at d
   refine wpAny_mono d (fun r s4 ⟨hr,J4⟩=>?_) fun _ _ f=>f.elim
   subst hr
   have pD:=J4.pin (s₂.heap.objs.size,lobj its l) (List.mem_append_right _ (by simp))
   obtain ⟨m,hm,_⟩:=J4.loc
   have hC4:s4.heap.Ns G2.objs.size m:=by subst hY;exact hm
   have fC:H' G2.objs.size=none:=by subst hY;exact J4.free
   have baseY:Un (frs X.stack) fp H2 H' s₂.heap s4.heap:=by subst hY;exact J4.base
   have hokY:HOk X.prog X.w H' s4.heap:=by rw [<- y1,<- y2];exact J4.hok
   have osY:s4.os=s₂.os:=by subst hY;exact J4.os
   have I4:Inv X pins σ H' s4:=I2.call' osY baseY hokY J4.bare fun b hb=>⟨(f2 b hb).2.2.2.1,(f2 b hb).2.1,(f2 b hb).2.2.2.2.1,(f2 b hb).2.2.2.2.2⟩
   have fD4:FpOk X pins H' s₂.heap.objs.size:=I2.fpOk (Nat.le_refl _) pD.2.1
   have fC4:FpOk X pins H' G2.objs.size:=I2.fpOk (by omega) fC
   have I5:Inv X pins σ (upd H' s₂.heap.objs.size (.lst ys)) s4:=I4.track fD4 ⟨hz,its,l,rv,pD.1⟩
   refine hRR _ _ s4 H' ys m I5 ⟨by rw [upd_ne hDC.symm];exact fC4.1,fC4.2⟩ hC4 (qn _ pD.2.1)
  ·have d:=T.item Y y1 y2 y3 yF y4 i _ s' _ H' (fun _ _=>False) J1 (fpY fr) st go
   rw [y5] at d
   refine wpAny_mono d (fun r s4 ⟨u,hr,h4⟩=>?_) fun _ _ f=>f.elim
   subst hr
   refine wpAny_mono h4 (fun _ s5 ⟨v5,H5,J5,r5,yl5,st5,fr5⟩=>?_) fun _ _ f=>f.elim
   have J5':=J5.pinned (fpY fr5) (T.obj _ _ st5)
   have hg:PG Y (.Name x px) (gName 0):=pg_name (by rw [y7];exact B.nd) (by rw [y7];rfl) (.inl (by rw [y6];exact lookup_relabel_local B.var)) (.inr (by rw [y6];exact lookup_relabel_local B.var))
   have d6:=hg _ s5 _ H5 v5 u (fun σ' H'=>σ'=capSt σ caps (some v5)/\H5=H') J5' r5 ⟨rfl,rfl⟩
   rw [y1,y2,y5,y6] at d6
   refine wpAny_mono d6 (fun _ s6 ⟨σ6,H6,J6,e6,e6'⟩=>?_) fun e s z=>(y8 e s z).elim
   subst e6 e6'
   have again:∀ {s7:Shared} {H7:Hp} {ys7:List V} {its7:List Value} {l7:Nat},Inv Y [(s₂.heap.objs.size,lobj its7 l7)] (capSt σ caps (some v5)) H7 s7->(∀ b∈fp,∀ o,s5.heap.get? b=some o->s7.heap.get? b=some o/\H7 b=none)->W (i+1) ys7 H7->Vals ys7 its7 ->
     ∃ m,m<k/\∃ i ys H' v its l,m+i=n+1/\Inv Y [(s₂.heap.objs.size,lobj its l)] (capSt σ caps v) H' s7/\tn i s7.heap/\(∀ b∈fp,H' b=none)/\W i ys H'/\Vals ys its:=fun {s7 H7 ys7 its7 l7} K7 hb w7 r7=>by
    refine ⟨k-1,by omega,i+1,ys7,H7,some v5,its7,l7,by omega,K7,T.keep _ _ _ st5 fun b hb' o e=>(hb b hb' o e).1,fun b hb'=>?_,w7,r7⟩
    obtain ⟨o,e,_⟩:=T.obj _ _ st5 b hb'
    exact (hb b hb' o e).2
   have pinD:∀ {σ7:St} {H7:Hp} {s7:Shared},Inv Y ([(s₂.heap.objs.size,lobj its l)]++pinsAt fp s5.heap) σ7 H7 s7->(∀ b∈fp,∀ o,s5.heap.get? b=some o->s7.heap.get? b=some o/\H7 b=none):=fun K7 b hb o e=>by
    have z:=K7.pin (b,o) (List.mem_append_right _ (List.mem_append_right _ (mem_pinsAt hb e)))
    exact ⟨z.1,z.2.1⟩
   have dt:wpAny (model X.prog X.w) X.A (forIn ifs true fun c r=>if r=true then do let ok <- isTrue c (compEnvC scope (capAll X.env scope.names []) G2.objs.size X.env) (eval c (compEnvC scope (capAll X.env scope.names []) G2.objs.size X.env));pure (ForInStep.yield ok) else pure (ForInStep.yield r))
     (fun ok s7=>∃ H7,Inv Y ([(s₂.heap.objs.size,lobj its l)]++pinsAt fp s5.heap) (capSt σ caps (some v5)) H7 s7/\(if ok=true then te (capSt σ caps (some v5)) H7 fun y H3=>W (i+1) (ys++[y]) H3 else W (i+1) ys H7)) (fun _ _=>False) s6:=by
    have q:=step v5 H5 yl5
    have pif:=hif (capAll X.env scope.names []) G2.objs.size fp pins s₂ H2
    rw [hY] at pif
    cases pif with
    | nil=>exact wpAny_pure ⟨H5,J6,q⟩
    | one pt =>
     have z:=pt _ s6 _ H5 _ J6 q
     rw [y1,y2,y5,y6] at z
     exact wpAny_tests_one (wpAny_mono z (fun b s7 ⟨H7,J7,q7⟩=>⟨H7,J7,q7⟩) fun e s z=>(y8 e s z).elim)
   refine wpAny_mono dt (fun ok s7 ⟨H7,J7,q7⟩=>?_) fun _ _ f=>f.elim
   cases ok with
   | false =>
    rw [if_neg Bool.false_ne_true] at q7 ⊢
    exact again J7.unpinned (pinD J7) q7 rv
   | true =>
    rw [if_pos rfl] at q7 ⊢
    have pe:=he (capAll X.env scope.names []) G2.objs.size fp pins s₂ H2
    rw [hY] at pe
    have z:=pe _ s7 _ H7 _ J7 q7
    rw [y1,y2,y5,y6] at z
    refine wpAny_mono z (fun u8 s8 ⟨v8,H8,J8,r8,w8⟩=>?_) fun e s z=>(y8 e s z).elim
    have pD:=J8.pin (s₂.heap.objs.size,lobj its l) (List.mem_append_right _ (List.mem_append_left _ (by simp)))
    have lits:=rv.length
    refine wpAny_list_append_plain (items:=its.toArray) (hsz:=by simp;omega) ⟨l,pD.1⟩ fun h9 pl9 sb9=>?_
    obtain ⟨l9,e9⟩:=pl9
    have J9:Inv Y (pinsAt fp s5.heap) (capSt σ caps (some v5)) H8 { s8 with heap:=h9 }:=by
     refine (J8.pins_of (pins':=pinsAt fp s5.heap) fun p hp=>J8.pin p (List.mem_append_right _ (List.mem_append_right _ hp))).turned (t':=s8.toks) (it:=s₂.heap.objs.size) (fun b o hb e=>(sb9.2 b hb).trans e) pD.2.1 pD.2.2.1 ?_ (fun y c e z=>?_) fun p hp z=>?_
     ·subst hY;exact .inr (Nat.le_refl _)
     ·obtain ⟨v',o',ho',hd'⟩:=J8.cell y c e
      rw [z,pD.1] at ho'
      cases ho'
      exact pD.2.2.2.2 _ hd'
     ·rcases List.mem_append.mp hp with hp|hp
      ·have hp':p∈X.pn++pins:=by subst hY;exact hp
       exact absurd z (Nat.ne_of_lt (Heap.lt_size (I2.pin p hp').1))
      ·obtain ⟨hb,_⟩:=of_pinsAt hp
       obtain ⟨o,ho⟩:=hfo _ hb
       exact absurd z (Nat.ne_of_lt (Heap.lt_size ho))
    have J10:Inv Y [(s₂.heap.objs.size,lobj (its++[u8]) l9)] (capSt σ caps (some v5)) H8 { s8 with heap:=h9 }:=J9.pins_of fun p hp=>by
     have e:p=(s₂.heap.objs.size,lobj (its++[u8]) l9):=by simpa using hp
     subst e
     refine ⟨?_,pD.2.1,pD.2.2.1,pD.2.2.2.1,fun v z=>by cases z⟩
     rw [e9]
     simp [lobj]
    refine again J10 (fun b hb o e=>?_) w8 (rv.append (.cons r8 .nil))
    have z:=J9.pin (b,o) (List.mem_append_right _ (mem_pinsAt hb e))
    exact ⟨z.1,z.2.1⟩
 exact codeAny_compStart_list (loop _ rfl) (T.self _ 0 _ _ _ (T.keep _ _ _ st2 fun b hb o e=>old b o e) (loop _ rfl))
theorem pe_comp {wi:TI}(B:BlkOk X scope x caps) (hc:X.calm=true) (hi:PI X (.Name x px) iter wi)
  (he:∀ cl C fp pn s H,PE (blk X scope cl C (x::caps.map (·.1)) fp pn s H) elt te) (hif:∀ cl C fp pn s H,PIfs (blk X scope cl C (x::caps.map (·.1)) fp pn s H) ifs tt)
  (hs:∀ x,foldedSetIterable iter X.env x=pure x:=by intro _;rfl):PE X (.ListComp elt [⟨.Name x px,iter,ifs,0⟩] scope pos) (tComp wi caps tt te):=by
 intro pins s σ H Q I h
 rw [eval_ListComp]
 have hcl:∀ y∈scope.names,y.2=.free->∃ c,X.env.cells.lookup y.1=some c:=fun y hy hf=>I.ok.has y.1 (B.hfree y hy hf)
 refine wpAny_comprehension_free (use:=none) rfl hs (closureFor_eq hcl) B.kind B.hloc (thn (hi pins s σ H _ I h) fun v s1 h1=>thn h1 fun itv s2 h2=>?_)
 refine comp_core (Q:=Q) (RR:=fun acc C=>compPost (model X.prog X.w) X.A X.xe none (EP X pins σ Q) acc C) B hc he hif (fun D C s' H' ys m I' f' hn q=>?_) h2
 refine ⟨m,hn,fun h' sb=>⟨.ref D,upd H' D (.lst ys),?_,rfl,q⟩⟩
 obtain ⟨g0,g1,g2,g3,g4,g5⟩:=f'
 exact I'.turned (t':=s'.toks) (fun b o hb e=>(sb.2 b hb).trans e) g0 g1 g3 g4 g5
end
section
variable {K:PySem.W.Frag}{a:Addr}{xs:List V}{caps:List (Str×Nat)}{tt:TT}{te:TE}{σ:St}{H:Hp}{Q:VK}
end
section
variable {κ:Type} [DecidableEq κ]
def valV (kvs:List (κ×V)) (k:κ):Option V:=(kvs.find? fun kv=>decide (kv.1=k)).map (·.2)
def putK (kvs:List (κ×V)) (k:κ) (v:V):List (κ×V) :=
 if (kvs.any fun kv=>decide (kv.1=k))=true then kvs.map (fun kv=>if kv.1=k then (kv.1,v) else kv) else kvs++[(k,v)]
def dropK (kvs:List (κ×V)) (k:κ):List (κ×V):=kvs.filter fun kv=>decide (kv.1≠k)
theorem valV_pos {p:κ×V}{r:List (κ×V)}{k:κ}(e:p.1=k):valV (p::r) k=some p.2:=by simp [valV,List.find?_cons,e]
theorem valV_neg {p:κ×V}{r:List (κ×V)}{k:κ}(e:¬ p.1=k):valV (p::r) k=valV r k:=by simp [valV,List.find?_cons,e]
theorem valV_any (k:κ):∀ kvs:List (κ×V),(kvs.any fun kv=>decide (kv.1=k))=(valV kvs k).isSome
 | []=>rfl
 | p::r=>by
  rw [List.any_cons]
  by_cases e:p.1=k
  ·simp only [valV_pos e,decide_eq_true e,Bool.true_or,Option.isSome_some]
  ·rw [valV_neg e,decide_eq_false e,Bool.false_or];exact valV_any k r
theorem length_putK (kvs:List (κ×V)) (k:κ) (v:V):(putK kvs k v).length<=kvs.length+1:=by
 unfold putK
 split
 ·rw [List.length_map];omega
 ·rw [List.length_append,List.length_cons,List.length_nil];omega
theorem RelO.isSome_eq {o:Option V}{u:Option Value}(r:RelO o u):o.isSome=u.isSome:=by
 cases o with
 | none=>cases u with
  | none=>rfl
  | some _=>exact (show False from r).elim
 | some _=>cases u with
  | none=>exact (show False from r).elim
  | some _=>rfl
theorem RelO.getD {o:Option V}{u:Option Value}{d:V}{d':Value}(r:RelO o u) (rd:RelV d d'):RelV (o.getD d) (u.getD d'):=by
 cases o with
 | none=>cases u with
  | none=>exact rd
  | some _=>exact (show False from r).elim
 | some _=>cases u with
  | none=>exact (show False from r).elim
  | some _=>exact r
theorem KV.val {kvs:List (κ×V)}{vs:List (κ×Value)}(r:KV kvs vs) (k:κ):RelO (valV kvs k) (valueAt vs k):=by
 unfold KV at r
 induction r with
 | nil=>exact True.intro
 | @cons p q ps qs h t ih =>
  obtain ⟨h1,h2⟩:=h
  by_cases e:p.1=k
  ·have e':q.1=k:=h1.symm.trans e
   have b:valueAt (q::qs) k=some q.2:=by simp [valueAt,List.find?_cons,e']
   rw [valV_pos e,b];exact h2
  ·have e':¬ q.1=k:=fun z=>e (h1.trans z)
   have b:valueAt (q::qs) k=valueAt qs k:=by simp [valueAt,List.find?_cons,e']
   rw [valV_neg e,b];exact ih
theorem KV.any {kvs:List (κ×V)}{vs:List (κ×Value)}(r:KV kvs vs) (k:κ):(kvs.any fun kv=>decide (kv.1=k))=vs.any fun kv=>decide (kv.1=k):=by
 unfold KV at r
 induction r with
 | nil=>rfl
 | cons h t ih=>rw [List.any_cons,List.any_cons,ih,h.1]
theorem KV.repl {kvs:List (κ×V)}{vs:List (κ×Value)}(r:KV kvs vs) (k:κ) {y:V}{u:Value}(ry:RelV y u) :
  KV (kvs.map fun kv=>if kv.1=k then (kv.1,y) else kv) (vs.map fun kv=>if kv.1=k then (kv.1,u) else kv):=by
 unfold KV at r ⊢
 induction r with
 | nil=>exact .nil
 | @cons p q ps qs h t ih =>
  rw [List.map_cons,List.map_cons]
  refine .cons ?_ ih
  obtain ⟨h1,h2⟩:=h
  by_cases e:p.1=k
  ·rw [if_pos e,if_pos (h1.symm.trans e)];exact ⟨h1,ry⟩
  ·rw [if_neg e,if_neg (fun z=>e (h1.trans z))];exact ⟨h1,h2⟩
theorem KV.put {kvs:List (κ×V)}{vs:List (κ×Value)}(r:KV kvs vs) (k:κ) {y:V}{u:Value}(ry:RelV y u):KV (putK kvs k y) (stored vs k u):=by
 unfold putK stored
 rw [r.any k]
 by_cases e:(vs.any fun kv=>decide (kv.1=k))=true
 ·rw [if_pos e,if_pos e];exact r.repl k ry
 ·rw [if_neg e,if_neg e];exact Paired.snoc r ⟨rfl,ry⟩
theorem KV.drop {kvs:List (κ×V)}{vs:List (κ×Value)}(r:KV kvs vs) (k:κ):KV (dropK kvs k) (without vs k):=by
 unfold KV at r ⊢
 unfold dropK without
 induction r with
 | nil=>exact .nil
 | @cons p q ps qs h t ih =>
  obtain ⟨h1,h2⟩:=h
  rw [List.filter_cons,List.filter_cons]
  by_cases e:p.1=k
  ·have a:¬ decide (p.1≠k)=true:=by simp [e]
   have b:¬ decide (q.1≠k)=true:=by simp [h1.symm.trans e]
   rw [if_neg a,if_neg b];exact ih
  ·have e':¬ q.1=k:=fun z=>e (h1.trans z)
   have a:decide (p.1≠k)=true:=by simp [e]
   have b:decide (q.1≠k)=true:=by simp [e']
   rw [if_pos a,if_pos b];exact .cons ⟨h1,h2⟩ ih
theorem KV.keys {kvs:List (κ×V)}{vs:List (κ×Value)}(r:KV kvs vs):kvs.map (·.1)=vs.map (·.1):=by
 unfold KV at r
 induction r with
 | nil=>rfl
 | cons h t ih=>rw [List.map_cons,List.map_cons,ih,h.1]
theorem KV.length {kvs:List (κ×V)}{vs:List (κ×Value)}(r:KV kvs vs):kvs.length=vs.length:=Paired.length r
end
theorem kV_is {P:Program}{w:World}{k:Key}{u:Value}(r:RelV (kV k) u):(mixKind P w).is k u=true:=by
 cases k with
 | inl i=>obtain ⟨t,e⟩:=(show ∃ t,u=Value.int i t from r);subst e;exact mixKind_int P w i t
 | inr x=>obtain ⟨t,e⟩:=(show ∃ t,u=Value.str x t from r);subst e;exact mixKind_str P w x t
theorem items_are {P:Program}{w:World}:∀ {ks:List Key}{us:List Value},Vals (ks.map kV) us->ItemsAre (mixKind P w) ks us
 | [],_,r=>by rw [List.map_nil] at r;cases r;exact .nil
 | k::ks,_,r=>by
  rw [List.map_cons] at r
  cases r with
  | cons h t=>exact .cons (kV_is h) (items_are t)
abbrev KT (H:Hp):List (List Key×V)->List (List Key×Addr×Value)->Prop:=Paired fun p q=>p.1=q.1/\H q.2.1=some (.tup (p.1.map kV))/\RelV p.2 q.2.2
theorem KT.val {H:Hp}{kvs:List (List Key×V)}{xs:List (List Key×Addr×Value)}(r:KT H kvs xs) (k:List Key):RelO (valV kvs k) ((atKey xs k).map (·.2)):=by
 induction r with
 | nil=>exact True.intro
 | @cons p q ps qs h t ih =>
  obtain ⟨h1,_,h2⟩:=h
  by_cases e:p.1=k
  ·have e':q.1=k:=h1.symm.trans e
   have b:atKey (q::qs) k=some q.2:=by simp [atKey,List.find?_cons,e']
   rw [valV_pos e,b];exact h2
  ·have e':¬ q.1=k:=fun z=>e (h1.trans z)
   have b:atKey (q::qs) k=atKey qs k:=by simp [atKey,List.find?_cons,e']
   rw [valV_neg e,b];exact ih
theorem KT.repl {H:Hp}{kvs:List (List Key×V)}{xs:List (List Key×Addr×Value)}(r:KT H kvs xs) (k:List Key) {y:V}{u:Value}(ry:RelV y u) :
  KT H (kvs.map fun kv=>if kv.1=k then (kv.1,y) else kv) (xs.map (putAt k u)):=by
 induction r with
 | nil=>exact .nil
 | @cons p q ps qs h t ih =>
  rw [List.map_cons,List.map_cons]
  refine .cons ?_ ih
  obtain ⟨h1,h2,h3⟩:=h
  unfold putAt
  by_cases e:p.1=k
  ·rw [if_pos e,if_pos (h1.symm.trans e)];exact ⟨h1,h2,ry⟩
  ·rw [if_neg e,if_neg (fun z=>e (h1.trans z))];exact ⟨h1,h2,h3⟩
theorem KT.put {H:Hp}{kvs:List (List Key×V)}{xs:List (List Key×Addr×Value)}(r:KT H kvs xs) (k:List Key) {b:Addr}{y:V}{u:Value}(hb:H b=some (.tup (k.map kV))) (ry:RelV y u) :
  KT H (putK kvs k y) (storedH xs k b u):=by
 have e:(kvs.any fun kv=>decide (kv.1=k))=(atKey xs k).isSome:=by
  rw [valV_any,(r.val k).isSome_eq,Option.isSome_map]
 unfold putK storedH
 rw [e]
 by_cases q:(atKey xs k).isSome=true
 ·rw [if_pos q,if_pos q];exact r.repl k ry
 ·rw [if_neg q,if_neg q];exact Paired.snoc r ⟨rfl,hb,ry⟩
theorem KT.keeps {H H':Hp}{kvs:List (List Key×V)}{xs:List (List Key×Addr×Value)}(r:KT H kvs xs) (ht:∀ b ys,H b=some (.tup ys)->H' b=some (.tup ys)):KT H' kvs xs :=
 Paired.mapP r fun _ _ z=>⟨z.1,ht _ _ z.2.1,z.2.2⟩
section
variable {P:Program}{w:World}{H:Hp}{h:Heap}{a:Addr}
theorem rd_of {u:HO}(ok:HOk P w H h) (e:Rd H a u):ObjOk P w H h a u:=e.ok ok
theorem dk_rd {kvs:List (Key×V)}(ok:HOk P w H h) (e:Rd H a (.dK kvs)):kvs.length<=sizeLine/\(a == sysModules)=false/\∃ vs,KV kvs vs/\h.DictOf (mixKind P w) a vs :=
 show ObjOk P w H h a (.dK kvs) from rd_of ok e
theorem dk_of {kvs:List (Key×V)}(ok:HOk P w H h) (e:H a=some (.dK kvs)):kvs.length<=sizeLine/\(a == sysModules)=false/\∃ vs,KV kvs vs/\h.DictOf (mixKind P w) a vs:=dk_rd ok (.inl e)
theorem key_of {ks:List Key}(ok:HOk P w H h) (e:H a=some (.tup (ks.map kV))):(tupleKind (mixKind P w)).is h ks a:=by
 obtain ⟨_,its,r,o,h1,h2,n,h3⟩:=(show ObjOk P w H h a (.tup (ks.map kV)) from ok a _ e)
 exact ⟨o,its.toArray,n,h1,h2,h3,by simpa using items_are r⟩
theorem dt_rd {kvs:List (List Key×V)}(ok:HOk P w H h) (e:Rd H a (.dT kvs)):kvs.length<=sizeLine/\(a == sysModules)=false /\
  ∃ xs,KT H kvs xs/\h.DictOfH (tupleKind (mixKind P w)) a xs:=by
 obtain ⟨z,y,xs,r,o,es,ep,h1,h2,h3,h4,h5⟩:=(show ObjOk P w H h a (.dT kvs) from rd_of ok e)
 refine ⟨z,y,xs,r,o,es,ep,h1,h2,h3,h4,fun x hx=>?_,h5⟩
 have all:∀ {l:List (List Key×V)} {m:List (List Key×Addr×Value)},KT H l m->∀ x∈m,(tupleKind (mixKind P w)).is h x.1 x.2.1:=by
  intro l m q
  induction q with
  | nil=>intro x hx;exact nomatch hx
  | @cons p q ps qs hq t ih =>
   intro x hx
   rcases List.mem_cons.mp hx with e|hx
   ·subst e
    exact key_of ok (by rw [<- hq.1];exact hq.2.1)
   ·exact ih x hx
 exact all r x hx
theorem dt_of {kvs:List (List Key×V)}(ok:HOk P w H h) (e:H a=some (.dT kvs)):kvs.length<=sizeLine/\(a == sysModules)=false /\
  ∃ xs,KT H kvs xs/\h.DictOfH (tupleKind (mixKind P w)) a xs:=dt_rd ok (.inl e)
end
def DGet (H:Hp) (a:Addr) (y:V) (r:Option V):Prop :=
 (∃ kvs k,Rd H a (.dK kvs)/\y=kV k/\r=valV kvs k)\/∃ kvs k b,Rd H a (.dT kvs)/\y=.ref b/\H b=some (.tup (k.map kV))/\r=valV kvs k
def DPut (H:Hp) (a:Addr) (y v:V) (H':Hp):Prop :=
 (∃ kvs k,H a=some (.dK kvs)/\y=kV k/\kvs.length<sizeLine/\H'=upd H a (.dK (putK kvs k v))) \/
 ∃ kvs k b,H a=some (.dT kvs)/\y=.ref b/\H b=some (.tup (k.map kV))/\kvs.length<sizeLine/\H'=upd H a (.dT (putK kvs k v))
theorem DGet.k {H:Hp}{a:Addr}{kvs:List (Key×V)}{k:Key}(e:H a=some (.dK kvs)):DGet H a (kV k) (valV kvs k):=.inl ⟨kvs,k,.inl e,rfl,rfl⟩
theorem DGet.t {H:Hp}{a b:Addr}{kvs:List (List Key×V)}{k:List Key}(e:H a=some (.dT kvs)) (eb:H b=some (.tup (k.map kV))):DGet H a (.ref b) (valV kvs k):=.inr ⟨kvs,k,b,.inl e,rfl,eb,rfl⟩
theorem DPut.k {H:Hp}{a:Addr}{kvs:List (Key×V)}{k:Key}{v:V}(e:H a=some (.dK kvs)) (hl:kvs.length<sizeLine):DPut H a (kV k) v (upd H a (.dK (putK kvs k v))):=.inl ⟨kvs,k,e,rfl,hl,rfl⟩
theorem DPut.t {H:Hp}{a b:Addr}{kvs:List (List Key×V)}{k:List Key}{v:V}(e:H a=some (.dT kvs)) (eb:H b=some (.tup (k.map kV))) (hl:kvs.length<sizeLine) :
  DPut H a (.ref b) v (upd H a (.dT (putK kvs k v))):=.inr ⟨kvs,k,b,e,rfl,eb,hl,rfl⟩
section
variable {X:Cx}{pins:List (Addr×Obj)}{σ:St}{H:Hp}{s:Shared}{a:Addr}{y v:V}{u r:Value}{o:Option V}{A:Around}{E:Value->Shared->Prop}
theorem Inv.big (I:Inv X pins σ H s):sysModules<s.heap.objs.size:=by
 have h:mainGlobals<s.heap.objs.size:=(I.mod.glob.keeps I.bk).lt
 exact Nat.lt_trans (by decide) h
theorem d_getItem {Q:Value->Shared->Prop}(hu:A.units+1<cLine) (I:Inv X pins σ H s) (g:DGet H a y (some v)) (ry:RelV y u) (h:∀ w' s',Inv X pins σ H s'->RelV v w'->Q w' s') :
  wpAny (model X.prog X.w) A (getItem (.ref a) u) Q E s:=by
 rcases g with ⟨kvs,k,e,ey,l⟩|⟨kvs,k,b,e,ey,eb,l⟩
 ·subst ey
  obtain ⟨z,hd,vs,rel,dd⟩:=dk_rd I.hok e
  obtain ⟨w',hw,rw'⟩:=RelO.some_of (v:=v) (o:=valueAt vs k) (by rw [l];exact rel.val k)
  exact wpAny_getItem_of (kV_is ry) dd.mapOf hw (h w' _ (I.tok _) rw')
 ·subst ey
  cases (show u=Value.ref b from ry)
  obtain ⟨z,hd,xs,rel,dd⟩:=dt_rd I.hok e
  obtain ⟨w',hw,rw'⟩:=RelO.some_of (v:=v) (o:=(atKey xs k).map (·.2)) (by rw [l];exact rel.val k)
  obtain ⟨p,hp,hp2⟩:=Option.map_eq_some_iff.mp hw
  refine wpAny_getItem_heap (tupleKind_room_in1 hu) (key_of I.hok eb) dd hp ?_
  rw [hp2]
  exact h w' _ (I.tok _) rw'
theorem d_notIn {Q:Value->Shared->Prop}(hu:A.units+1<cLine) (I:Inv X pins σ H s) (g:DGet H a y o) (ry:RelV y u) (h:∀ s',Inv X pins σ H s'->Q (.bool (!o.isSome)) s') :
  wpAny (model X.prog X.w) A (compareOp .NotIn u (.ref a)) Q E s:=by
 rcases g with ⟨kvs,k,e,ey,l⟩|⟨kvs,k,b,e,ey,eb,l⟩
 ·subst ey
  obtain ⟨z,hd,vs,rel,dd⟩:=dk_rd I.hok e
  refine wpAny_notIn_of (kV_is ry) hd dd.mapOf ?_
  rw [<- (rel.val k).isSome_eq,<- l]
  exact h _ (I.tok _)
 ·subst ey
  cases (show u=Value.ref b from ry)
  obtain ⟨z,hd,xs,rel,dd⟩:=dt_rd I.hok e
  refine wpAny_notIn_heap (tupleKind_room_in1 hu) (key_of I.hok eb) hd dd ?_
  have q:=(rel.val k).isSome_eq
  rw [Option.isSome_map] at q
  rw [<- q,<- l]
  exact h _ (I.tok _)
theorem d_write {h':Heap}{t':Nat}{ob:HO}(I:Inv X pins σ H s) (mu:Mut (H a)) (hs:Heap.SameBut a s.heap h') (he:∃ q,h'.get? a=some q) (new:ObjOk X.prog X.w (upd H a ob) h' a ob) :
  Inv X pins σ (upd H a ob) { s with heap:=h',toks:=t' } :=
 I.write (x:=a) (e:=a) mu (.inl rfl) (fun b q hb z=>(hs.2 b hb).trans z) he new
theorem dk_new {P:Program}{w:World}{H':Hp}{h':Heap}{kvs:List (Key×V)}{vs:List (Key×Value)}(z:kvs.length<=sizeLine) (hd:(a == sysModules)=false) (rel:KV kvs vs) (dd:h'.DictOf (mixKind P w) a vs) :
  ObjOk P w H' h' a (.dK kvs):=⟨z,hd,vs,rel,dd⟩
theorem d_setItem {H':Hp}{Q:Unit->Shared->Prop}(hu:A.units+1<cLine) (I:Inv X pins σ H s) (g:DPut H a y v H') (ry:RelV y u) (rv:RelV v r) (h:∀ s',Inv X pins σ H' s'->Q () s') :
  wpAny (model X.prog X.w) A (setItem (.ref a) u r) Q E s:=by
 rcases g with ⟨kvs,k,e,ey,l,eH⟩|⟨kvs,k,b,e,ey,eb,l,eH⟩
 ·subst ey eH
  obtain ⟨z,hd,vs,rel,dd⟩:=dk_of I.hok e
  have hz:vs.length<=sizeLine:=by rw [<- rel.length];exact z
  have hl:(putK kvs k v).length<=sizeLine:=by have:=length_putK kvs k v;omega
  refine wpAny_setItem_pairs (hsz:=hz) (kV_is ry) dd fun h' dd' hs=>h _ ?_
  have he:∃ q,h'.get? a=some q:=let ⟨q,_,_,hq,_⟩:=dd';⟨q,hq⟩
  exact d_write I (by rw [e];exact True.intro) hs he (dk_new hl hd (rel.put k rv) dd')
 ·subst ey eH
  cases (show u=Value.ref b from ry)
  obtain ⟨z,hd,xs,rel,dd⟩:=dt_of I.hok e
  have hz:xs.length<=sizeLine:=by rw [<- Paired.length rel];exact z
  have hl:(putK kvs k v).length<=sizeLine:=by have:=length_putK kvs k v;omega
  refine wpAny_setItem_heap (hsz:=hz) (tupleKind_room_in1 hu) (key_of I.hok eb) dd fun h' dd' hs=>h _ ?_
  obtain ⟨q,es,ep,hq,h2,h3,h4,_,h5⟩:=dd'
  refine d_write I (by rw [e];exact True.intro) hs ⟨q,hq⟩ ⟨hl,hd,_,(rel.put k eb rv).keeps fun c ys ec=>?_,q,es,ep,hq,h2,h3,h4,h5⟩
  rw [upd_ne (ne_of ec e (fun z=>nomatch z))]
  exact ec
end
section
variable {X:Cx}{pins:List (Addr×Obj)}{σ:St}{H:Hp}{s:Shared}{a:Addr}{kvs:List (Key×V)}{k:Key}{u:Value}{A:Around}{E:Value->Shared->Prop}
end
def NoSl (i:Expr):Prop:=∀ ov iv,subscripted i false ov iv=operate [ov,iv] (getItem ov iv)
theorem subD_of {prog:Program}{w:World}{A:Around}{E:Value->Shared->Prop}{s:Shared}{env:Env}{value slice:Expr}{pos:Pos}{T id:String}{Q:Value->Shared->Prop}
  (hl:typeLookup (.type T) "__getitem__" = pure (some (.builtin id))) (hs:NoSl slice)
  (h:wpAny (model prog w) A (eval value env) (fun o s₁=>wpAny (model prog w) A (eval slice env) (fun i s₂=>s₂.TypeIs o T/\wpAny (model prog w) A (getItem o i) Q E s₂) E s₁) E s) :
  wpAny (model prog w) A (eval (.Subscript value slice pos) env) Q E s:=by
 refine Subscript_ (wpAny_mono h (fun o s₁ h₁=>wpAny_mono h₁ (fun i s₂ h₂=>?_) fun _ _ x=>x) fun _ _ x=>x)
 obtain ⟨hT,h₂⟩:=h₂
 unfold subscriptTail
 refine wpAny_bind ?_
 rw [getitemInPython_of_ne hT.not_modules]
 refine wpAny_bind (wpAny_specialOf hT hl ?_)
 have fin:wpAny (model prog w) A (subscripted slice false o i) (fun r s₃=>wpAny (model prog w) A (letTemporaryGo value o r >>= fun _=>pure r) Q E s₃) E s₂:=by
  rw [hs o i]
  exact wpAny_operating (wpAny_mono h₂ (fun r s₃ h₃=>wpAny_bind (wpAny_letTemporaryGo (wpAny_pure h₃))) fun _ _ x=>x)
 first
  | exact wpAny_pure (wpAny_bind fin)
  | exact wpAny_bind (wpAny_pure (wpAny_bind fin))
  | exact wpAny_bind fin
theorem dict_typeIs {X:Cx}{pins:List (Addr×Obj)}{σ:St}{H:Hp}{s:Shared}{a:Addr}{y:V}{o:Option V}(I:Inv X pins σ H s) (g:DGet H a y o):s.TypeIs (.ref a) "dict":=by
 rcases g with ⟨kvs,k,e,_,_⟩|⟨kvs,k,b,e,_,_,_⟩
 ·obtain ⟨_,_,vs,_,dd⟩:=dk_rd I.hok e
  exact dd.typeIs
 ·obtain ⟨_,_,xs,_,dd⟩:=dt_rd I.hok e
  exact dd.typeIs
def tDGet (td ty:TE):TE:=fun σ H Q=>td σ H fun x H1=>ty σ H1 fun y H2=>∃ a v,x=.ref a/\DGet H2 a y (some v)/\Q v H2
def sDPut (td ty tv:TE):TS:=fun D σ H=>tv σ H fun v H1=>td σ H1 fun x H2=>ty σ H2 fun y H3=>∃ a H4,x=.ref a/\DPut H3 a y v H4/\D.nx σ H4
section
variable {X:Cx}{o i e value:Expr}{pos pos' tpos:Pos}{td ty tv:TE}
theorem pe_dget (hu:X.A.units+1<cLine) (ho:PE X o td) (hi:PE X i ty) (hs:NoSl i):PE X (.Subscript o i pos) (tDGet td ty):=by
 intro pins s σ H Q I h
 refine subD_of PySem.F.slot_dict_getitem.lookup hs (thn (ho pins s σ H _ I h) fun u s1 ⟨x,H1,I1,rx,q1⟩=>thn (hi pins s1 σ H1 _ I1 q1) fun iv s2 ⟨y,H2,I2,ry,a,v,ex,g,q2⟩=>?_)
 subst ex
 obtain rfl:u=Value.ref a:=rx
 exact ⟨dict_typeIs I2 g,d_getItem hu I2 g ry fun w' s3 I3 rw'=>⟨v,H2,I3,rw',q2⟩⟩
theorem ps_dput (hu:X.A.units+1<cLine) (ho:PE X o td) (hi:PE X i ty) (hv:PE X value tv) (hs:swapsWith value (some (.Subscript o i pos')) pos.line X.env=pure false) :
  PS X (.Assign [.Subscript o i pos'] value pos) (sDPut td ty tv):=by
 intro pins s σ H D I h
 refine wpAny_Assign_Subscript (thn (hv pins s σ H _ I h) fun r s1 ⟨v,H1,I1,rv,q1⟩=>thn (ho pins s1 σ H1 _ I1 q1) fun u s2 ⟨x,H2,I2,rx,q2⟩=>thn (hi pins s2 σ H2 _ I2 q2) fun iv s3 ⟨y,H3,I3,ry,a,H4,ex,g,q3⟩=>?_) hs
 subst ex
 obtain rfl:u=Value.ref a:=rx
 exact d_setItem hu I3 g ry rv fun s4 I4=>⟨σ,H4,I4,q3⟩
end
theorem dt_empty {P:Program}{w:World}{H:Hp}(h:Heap) (hb:sysModules<h.objs.size):ObjOk P w H (h.push { cls:=.type "dict",data:=.dict #[] }) h.objs.size (.dT []) :=
 ⟨Nat.zero_le _,beq_eq_false_iff_ne.mpr (Ne.symm (Nat.ne_of_lt hb)),[],.nil,_,#[],0,Heap.get?_push_size _ rfl,⟨rfl,rfl,rfl⟩,rfl,rfl,List.nodup_nil⟩
def tDNewT:TE:=fun _ H Q=>∀ p,H p=none->Q (.ref p) (upd H p (.dT []))
section
variable {X:Cx}{pos:Pos}
theorem pe_dnewT:PE X (.Dict [] [] pos) tDNewT:=fun pins s σ H Q I h =>
 wpAny_Dict_empty ⟨.ref s.heap.objs.size,_,I.laid (a:=s.heap.objs.size) (o:=.dT []) (t':=s.toks) (fun _ _ q=>Heap.get?_push_of_some _ q) (Nat.le_refl _) (dt_empty s.heap I.big),rfl,h _ (I.hok.fresh (Nat.le_refl _))⟩
end
structure M1 (X:Cx) (o:Expr) (m:Str) (apos:Pos) (e:Expr) (cpos:Pos):Prop where
 base:attributeBase o m X.env (eval o X.env)=eval o X.env
 few:((backTo cpos (starEach [e] X.env)).all (fun x=>!x.1) && (backToKw cpos (keywordEach [] X.env)).all (fun x=>x.1.isSome)
  && decide (([e]:List Expr).length+([]:List Keyword).length+(if ([]:List Keyword).isEmpty then 0 else 1)<30))=true
 line:(apos.endLine == cpos.line)=true
 trees:backTo cpos (starEach [e] X.env)=[(false,eval e X.env)]
structure M2 (X:Cx) (o:Expr) (m:Str) (apos:Pos) (e f:Expr) (cpos:Pos):Prop where
 base:attributeBase o m X.env (eval o X.env)=eval o X.env
 few:((backTo cpos (starEach [e,f] X.env)).all (fun x=>!x.1) && (backToKw cpos (keywordEach [] X.env)).all (fun x=>x.1.isSome)
  && decide (([e,f]:List Expr).length+([]:List Keyword).length+(if ([]:List Keyword).isEmpty then 0 else 1)<30))=true
 line:(apos.endLine == cpos.line)=true
 trees:backTo cpos (starEach [e,f] X.env)=[(false,eval e X.env),(false,eval f X.env)]
section
variable {X:Cx}{pins:List (Addr×Obj)}{σ:St}{H:Hp}{s:Shared}{a:Addr}{y d:V}{u r:Value}{o:Option V}{A:Around}{E:Value->Shared->Prop}
end
section
variable {X:Cx}{o e f:Expr}{apos cpos:Pos}{td ty tx:TE}
end
section
variable {X:Cx}{pins:List (Addr×Obj)}{σ:St}{H:Hp}{s:Shared}{a:Addr}{kvs:List (Key×V)}{A:Around}{E:Value->Shared->Prop}
end
section
variable {X:Cx}{pins:List (Addr×Obj)}{σ:St}{H:Hp}{s:Shared}{a:Addr}{y:V}{u:Value}{A:Around}{E:Value->Shared->Prop}
end
section
variable {X:Cx}
end
section
variable {κ:Type} [DecidableEq κ]
end
structure Df (K:PySem.W.Frag) (mg:Str->Option Value) (x:Str) (st:Stmt) (ps:List Str) (f:Addr) (fd:FuncData):Prop where
 F:Fun K x x st f fd
 b:Binds K fd ps []
 m:mg x=some (.ref f)
structure Blt (mg:Str->Option Value):Prop where
 len:mg "len" = none
 range:mg "range" = none
 isinstance:mg "isinstance" = none
 int:mg "int" = none
 bool:mg "bool" = none
 list:mg "list" = none
 tuple:mg "tuple" = none
 max:mg "max" = none
 min:mg "min" = none
 dict:mg "dict" = none
 reversed:mg "reversed" = none
 sorted:mg "sorted" = none
 set:mg "set" = none
 str:mg "str" = none
 sum:mg "sum" = none
 enumerate:mg "enumerate" = none
 zip:mg "zip" = none
 all:mg "all" = none
section
variable {X:Cx}{x:Str}{pos p:Pos}
theorem pcall {k:Nat}{st:Stmt}{ps:List Str}{f:Addr}{fd:FuncData}{sp:Sp}{e:Expr}{es:List Expr}{t:TA}(d:Df X.K X.mg x st ps f fd) (G:FnOk X.prog X.w X.K X.mg X.base CX0 k f fd ps sp) (hr:Room k X.A) (ha:PA X (e::es) t)
  (hg:Gl X x:=by rfl) (hdb:(x == ("__debug__":Str))=false:=by decide) (he:starEach (e::es) X.env=(false,eval e X.env)::starEach es X.env:=by rfl) (hpl:(backTo pos (starEach es X.env)).any (·.1)=false:=by rfl) :
  PE X (.Call (.Name x p) (e::es) [] pos) (tCall sp [] E0 t):=pe_call G hr hg d.m d.F.kp d.b .nil pass0 ha hdb he hpl
theorem pty {T:String}(hm:X.mg x=none) (hv:bootBuiltins x=some (.type T)) (hg:Gl X x:=by rfl) (hn:x≠"__name__":=by decide) (hd:(x == ("__debug__":Str))=false:=by decide):PE X (.Name x pos) (tC (.ty T)):=pe_bltn hg hm hv rfl hn hd
end
theorem Same.at {H H':Hp}(e:Same H H') {a:Addr}{o:HO}(h:H a=some o):H' a=some o:=e a o h
theorem small {n:Nat}(h:n<=1000):n<=sizeLine:=Nat.le_of_lt (small1000 h)
theorem Same.over {H0 H:Hp}(e:Same H0 H) {l:Addr}(h:H0 l=none) (o:HO):Same H0 (upd H l o):=fun b u q=>by
 rw [upd_ne (ne_of_none q h)]
 exact e b u q
end L2
namespace L3
open PySem PySem.Spec PyProof.Rows L2
inductive D where
 | non | bl (b:Bool) | int (i:Int) | str (x:Str) | ref (a:Addr) | ty (n:String)
 | tup (xs:List D) | lst (xs:List D) | dic (kvs:List (Key×D)) | dct (kvs:List (List Key×D))
def gTup:Bool:=false
abbrev Zt:=Addr->D->Prop
def At (Z:Zt) (v:V):D->Prop
 | .non=>v=.non
 | .bl b=>v=.bl b
 | .int i=>v=.int i
 | .str x=>v=.str x
 | .ref a=>v=.ref a
 | .ty n=>v=.ty n
 | .tup xs=>∃ p,v=.ref p/\Z p (.tup xs)
 | .lst xs=>∃ p,v=.ref p/\Z p (.lst xs)
 | .dic kvs=>∃ p,v=.ref p/\Z p (.dic kvs)
 | .dct kvs=>∃ p,v=.ref p/\Z p (.dct kvs)
abbrev Ats (Z:Zt):List V->List D->Prop:=Paired (At Z)
def KAt {κ:Type}(Z:Zt) (p:κ×V) (q:κ×D):Prop:=p.1=q.1/\At Z p.2 q.2
abbrev KAts {κ:Type}(Z:Zt):List (κ×V)->List (κ×D)->Prop:=Paired (KAt Z)
def Le (Z Z':Zt):Prop:=∀ p d,Z p d->Z' p d
theorem Le.refl (Z:Zt):Le Z Z:=fun _ _ h=>h
theorem Le.trans {Z Z1 Z2:Zt}(a:Le Z Z1) (b:Le Z1 Z2):Le Z Z2:=fun p d h=>b p d (a p d h)
theorem At.mono {Z Z':Zt}(l:Le Z Z') {v:V}{d:D}(h:At Z v d):At Z' v d:=by
 cases d with
 | tup xs=>obtain ⟨p,e,z⟩:=h;exact ⟨p,e,l _ _ z⟩
 | lst xs=>obtain ⟨p,e,z⟩:=h;exact ⟨p,e,l _ _ z⟩
 | dic xs=>obtain ⟨p,e,z⟩:=h;exact ⟨p,e,l _ _ z⟩
 | dct xs=>obtain ⟨p,e,z⟩:=h;exact ⟨p,e,l _ _ z⟩
 | _=>exact h
theorem Ats.mono {Z Z':Zt}(l:Le Z Z'):∀ {vs:List V}{ds:List D},Ats Z vs ds->Ats Z' vs ds
 | _,_,.nil=>.nil
 | _,_,.cons r t=>.cons (At.mono l r) (Ats.mono l t)
theorem KAts.mono {κ:Type}{Z Z':Zt}(l:Le Z Z'):∀ {vs:List (κ×V)}{ds:List (κ×D)},KAts Z vs ds->KAts Z' vs ds
 | _,_,.nil=>.nil
 | _,_,.cons r t=>.cons ⟨r.1,At.mono l r.2⟩ (KAts.mono l t)
theorem Ats.length {Z:Zt}{vs:List V}{ds:List D}(h:Ats Z vs ds):vs.length=ds.length:=Paired.length h
theorem Ats.get {Z:Zt}:∀ {vs:List V}{ds:List D}{i:Nat}{d:D},Ats Z vs ds->ds[i]? = some d->∃ v,vs[i]? = some v/\At Z v d
 | _,_,_,_,.nil,e=>by simp at e
 | _,_,0,_,.cons r _,e=>by simp at e;subst e;exact ⟨_,rfl,r⟩
 | _,_,i+1,d,.cons _ t,e=>by
  obtain ⟨v,h1,h2⟩:=Ats.get (i:=i) (d:=d) t (by simpa using e)
  exact ⟨v,by simpa using h1,h2⟩
theorem Ats.got {Z:Zt}:∀ {vs:List V}{ds:List D}{i:Nat}{v:V},Ats Z vs ds->vs[i]? = some v->∃ d,ds[i]? = some d/\At Z v d
 | _,_,_,_,.nil,e=>by simp at e
 | _,_,0,_,.cons r _,e=>by simp at e;subst e;exact ⟨_,rfl,r⟩
 | _,_,i+1,d,.cons _ t,e=>by
  obtain ⟨v,h1,h2⟩:=Ats.got (i:=i) (v:=d) t (by simpa using e)
  exact ⟨v,by simpa using h1,h2⟩
theorem Ats.append {Z:Zt}:∀ {xs ys:List V}{us ws:List D},Ats Z xs us->Ats Z ys ws->Ats Z (xs++ys) (us++ws)
 | _,_,_,_,.nil,s=>s
 | _,_,_,_,.cons r t,s=>.cons r (Ats.append t s)
theorem Ats.take {Z:Zt}:∀ {xs:List V}{us:List D}(n:Nat),Ats Z xs us->Ats Z (xs.take n) (us.take n)
 | _,_,0,_=>.nil
 | _,_,_+1,.nil=>.nil
 | _,_,n+1,.cons r t=>.cons r (Ats.take n t)
theorem Ats.drop {Z:Zt}:∀ {xs:List V}{us:List D}(n:Nat),Ats Z xs us->Ats Z (xs.drop n) (us.drop n)
 | _,_,0,r=>r
 | _,_,_+1,.nil=>.nil
 | _,_,n+1,.cons _ t=>Ats.drop n t
theorem Ats.set {Z:Zt}{x:V}{d:D}(r:At Z x d):∀ {xs:List V}{us:List D}(i:Nat),Ats Z xs us->Ats Z (xs.set i x) (us.set i d)
 | _,_,_,.nil=>.nil
 | _,_,0,.cons _ t=>.cons r t
 | _,_,i+1,.cons q t=>.cons q (Ats.set r i t)
inductive MO where
 | lst (xs:List D) | dic (kvs:List (Key×D)) | dct (kvs:List (List Key×D)) | obj (C:Addr) (fs:List (Str×D))
abbrev Mp:=Addr->Option MO
def put (M:Mp) (a:Addr) (o:MO):Mp:=fun b=>if b=a then some o else M b
def del (M:Mp) (a:Addr):Mp:=fun b=>if b=a then none else M b
theorem put_same {M:Mp}{a:Addr}{o:MO}:put M a o a=some o:=by unfold put;rw [if_pos rfl]
theorem put_ne {M:Mp}{a b:Addr}{o:MO}(h:b≠a):put M a o b=M b:=by unfold put;rw [if_neg h]
theorem put_put {M:Mp}{a:Addr}{o u:MO}:put (put M a o) a u=put M a u:=by funext b;unfold put;split<;>rfl
theorem del_put {M:Mp}{a:Addr}{o:MO}(h:M a=none):del (put M a o) a=M:=by
 funext b;unfold del put
 split
 ·next e=>rw [e,h]
 ·rfl
def Sub (M M':Mp):Prop:=∀ a o,M a=some o->M' a=some o
theorem Sub.refl (M:Mp):Sub M M:=fun _ _ h=>h
theorem Sub.trans {M M1 M2:Mp}(a:Sub M M1) (b:Sub M1 M2):Sub M M2:=fun p o h=>b p o (a p o h)
theorem Sub.put {M:Mp}{a:Addr}{o:MO}(h:M a=none):Sub M (put M a o):=fun b u e=>by
 rw [put_ne (fun z=>by rw [z,h] at e;cases e)];exact e
theorem Sub.puts {M M':Mp}{a:Addr}{o:MO}(s:Sub M M') (h:M a=none):Sub M (L3.put M' a o):=fun b u e=>by
 rw [put_ne (fun z=>by rw [z,h] at e;cases e)];exact s b u e
section
variable (K:PySem.W.Frag)
def HB (H:Hp) (Z:Zt) (p:Addr):D->Prop
 | .tup ds=>∃ vs,H p=some (.tup vs)/\Ats Z vs ds
 | .lst ds=>∃ vs,Rd H p (.lst vs)/\Ats Z vs ds
 | .dic kvs=>∃ ks,Rd H p (.dK ks)/\KAts Z ks kvs
 | .dct kvs=>∃ ks,Rd H p (.dT ks)/\KAts Z ks kvs
 | _=>False
def KB (Z:Zt) (p:Addr):D->Prop
 | .tup ds=>gTup=true/\∃ vs,(∃ (o:Obj) (its:Array Value) (n:Nat),K.lookup p=some o/\o.cls=.type "tuple"/\o.data=.seq its n/\its.size<=sizeLine/\Vals vs its.toList)/\Ats Z vs ds
 | .lst ds=>∃ vs,(∃ (o:Obj) (its:Array Value) (n:Nat),K.lookup p=some o/\o.cls=.type "list"/\o.dict=none/\o.data=.seq its n/\its.size<=sizeLine/\Vals vs its.toList)/\Ats Z vs ds
 | _=>False
def MB (H:Hp) (Z:Zt) (p:Addr):MO->Prop
 | .lst ds=>∃ vs,H p=some (.lst vs)/\Ats Z vs ds
 | .dic kvs=>∃ ks,H p=some (.dK ks)/\KAts Z ks kvs
 | .dct kvs=>∃ ks,H p=some (.dT ks)/\KAts Z ks kvs
 | .obj C fs=>∃ dx ks,H p=some (.ins C dx ks)/\KAts Z ks fs
structure HR (H:Hp) (M:Mp) (Z:Zt):Prop where
 z:∀ p d,Z p d->HB H Z p d\/KB K Z p d
 m:∀ p o,M p=some o->(∀ d,Z p d->KB K Z p d)/\MB H Z p o
end
section
variable {K:PySem.W.Frag}{H H':Hp}{M M':Mp}{Z Z':Zt}{p:Addr}{d:D}
theorem HB.mono (l:Le Z Z') (h:HB H Z p d):HB H Z' p d:=by
 cases d with
 | tup ds=>obtain ⟨vs,r,a⟩:=h;exact ⟨vs,r,a.mono l⟩
 | lst ds=>obtain ⟨vs,r,a⟩:=h;exact ⟨vs,r,a.mono l⟩
 | dic ds=>obtain ⟨vs,r,a⟩:=h;exact ⟨vs,r,a.mono l⟩
 | dct ds=>obtain ⟨vs,r,a⟩:=h;exact ⟨vs,r,a.mono l⟩
 | _=>exact h.elim
theorem KB.mono (l:Le Z Z') (h:KB K Z p d):KB K Z' p d:=by
 cases d with
 | tup ds=>obtain ⟨g,vs,r,a⟩:=h;exact ⟨g,vs,r,a.mono l⟩
 | lst ds=>obtain ⟨vs,r,a⟩:=h;exact ⟨vs,r,a.mono l⟩
 | _=>exact h.elim
theorem MB.mono {o:MO}(l:Le Z Z') (h:MB H Z p o):MB H Z' p o:=by
 cases o with
 | lst ds=>obtain ⟨vs,r,a⟩:=h;exact ⟨vs,r,a.mono l⟩
 | dic ds=>obtain ⟨vs,r,a⟩:=h;exact ⟨vs,r,a.mono l⟩
 | dct ds=>obtain ⟨vs,r,a⟩:=h;exact ⟨vs,r,a.mono l⟩
 | obj C fs=>obtain ⟨dx,vs,r,a⟩:=h;exact ⟨dx,vs,r,a.mono l⟩
theorem Rd.at {u:HO}(e:H' p=H p) (h:Rd H p u):Rd H' p u:=by
 rcases h with h|⟨o,h⟩
 ·exact .inl (e.trans h)
 ·exact .inr ⟨o,e.trans h⟩
theorem HB.at (e:H' p=H p) (h:HB H Z p d):HB H' Z p d:=by
 cases d with
 | tup ds=>obtain ⟨vs,r,a⟩:=h;exact ⟨vs,e.trans r,a⟩
 | lst ds=>obtain ⟨vs,r,a⟩:=h;exact ⟨vs,Rd.at e r,a⟩
 | dic ds=>obtain ⟨vs,r,a⟩:=h;exact ⟨vs,Rd.at e r,a⟩
 | dct ds=>obtain ⟨vs,r,a⟩:=h;exact ⟨vs,Rd.at e r,a⟩
 | _=>exact h.elim
theorem MB.at {o:MO}(e:H' p=H p) (h:MB H Z p o):MB H' Z p o:=by
 cases o with
 | lst ds=>obtain ⟨vs,r,a⟩:=h;exact ⟨vs,e.trans r,a⟩
 | dic ds=>obtain ⟨vs,r,a⟩:=h;exact ⟨vs,e.trans r,a⟩
 | dct ds=>obtain ⟨vs,r,a⟩:=h;exact ⟨vs,e.trans r,a⟩
 | obj C fs=>obtain ⟨dx,vs,r,a⟩:=h;exact ⟨dx,vs,e.trans r,a⟩
theorem HB.some (h:HB H Z p d):H p≠none:=fun e=>by
 cases d with
 | tup ds=>obtain ⟨vs,r,a⟩:=h;rw [e] at r;cases r
 | lst ds=>obtain ⟨vs,r | ⟨o,r⟩,a⟩:=h<;>rw [e] at r<;>cases r
 | dic ds=>obtain ⟨vs,r | ⟨o,r⟩,a⟩:=h<;>rw [e] at r<;>cases r
 | dct ds=>obtain ⟨vs,r | ⟨o,r⟩,a⟩:=h<;>rw [e] at r<;>cases r
 | _=>exact h.elim
theorem MB.some {o:MO}(h:MB H Z p o):H p≠none:=fun e=>by
 cases o with
 | lst ds=>obtain ⟨vs,r,a⟩:=h;rw [e] at r;cases r
 | dic ds=>obtain ⟨vs,r,a⟩:=h;rw [e] at r;cases r
 | dct ds=>obtain ⟨vs,r,a⟩:=h;rw [e] at r;cases r
 | obj C fs=>obtain ⟨dx,vs,r,a⟩:=h;rw [e] at r;cases r
theorem HR.fresh (h:HR K H M Z) (e:H p=none):M p=none:=by
 cases q:M p with
 | none=>rfl
 | some o=>exact absurd e (h.m p o q).2.some
theorem HR.sub (h:HR K H M Z) (s:Sub M' M):HR K H M' Z:=⟨h.z,fun p o e=>h.m p o (s p o e)⟩
def ext (Z:Zt) (p:Addr) (d:D):Zt:=fun b u=>Z b u\/(b=p/\u=d)
theorem Le.ext:Le Z (ext Z p d):=fun _ _ h=>.inl h
theorem HR.lay (h:HR K H M Z) (e:H p=none) (o:HO):(∀ b u,Z b u->HB (upd H p o) Z b u\/KB K Z b u)/\∀ b u,M b=some u->(∀ d,Z b d->KB K Z b d)/\MB (upd H p o) Z b u:=by
 refine ⟨fun b u z=>?_,fun b u q=>?_⟩
 ·rcases h.z b u z with k|k
  ·exact .inl (k.at (upd_ne fun q=>k.some (by rw [q];exact e)))
  ·exact .inr k
 ·obtain ⟨k1,k2⟩:=h.m b u q
  exact ⟨k1,k2.at (upd_ne fun q=>k2.some (by rw [q];exact e))⟩
theorem HR.datum (h:HR K H M Z) (e:H p=none) {o:HO}(hb:HB (upd H p o) Z p d):HR K (upd H p o) M (ext Z p d):=by
 obtain ⟨h1,h2⟩:=h.lay e o
 have mn:=h.fresh e
 refine ⟨fun b u z=>?_,fun b u q=>?_⟩
 ·rcases z with z|⟨rfl,rfl⟩
  ·rcases h1 b u z with k|k
   ·exact .inl (k.mono Le.ext)
   ·exact .inr (k.mono Le.ext)
  ·exact .inl (hb.mono Le.ext)
 ·obtain ⟨k1,k2⟩:=h2 b u q
  refine ⟨fun d' z=>?_,k2.mono Le.ext⟩
  rcases z with z|⟨rfl,rfl⟩
  ·exact (k1 d' z).mono Le.ext
  ·rw [mn] at q;cases q
theorem HR.newT (h:HR K H M Z) (e:H p=none) {vs:List V}{ds:List D}(a:Ats Z vs ds):HR K (upd H p (.tup vs)) M (ext Z p (.tup ds)):=h.datum e ⟨vs,upd_same,a⟩
theorem HR.newF (h:HR K H M Z) (e:H p=none) {vs:List V}{ds:List D}(a:Ats Z vs ds):HR K (upd H p (.lst vs)) M (ext Z p (.lst ds)):=h.datum e ⟨vs,.inl upd_same,a⟩
theorem HR.newFD (h:HR K H M Z) (e:H p=none) {vs:List (Key×V)}{ds:List (Key×D)}(a:KAts Z vs ds):HR K (upd H p (.dK vs)) M (ext Z p (.dic ds)):=h.datum e ⟨vs,.inl upd_same,a⟩
theorem at_extTD {xs:List (List Key×D)}:At (ext Z p (.dct xs)) (.ref p) (.dct xs):=⟨p,rfl,.inr ⟨rfl,rfl⟩⟩
theorem at_extT {xs:List D}:At (ext Z p (.tup xs)) (.ref p) (.tup xs):=⟨p,rfl,.inr ⟨rfl,rfl⟩⟩
theorem at_extL {xs:List D}:At (ext Z p (.lst xs)) (.ref p) (.lst xs):=⟨p,rfl,.inr ⟨rfl,rfl⟩⟩
theorem at_extD {xs:List (Key×D)}:At (ext Z p (.dic xs)) (.ref p) (.dic xs):=⟨p,rfl,.inr ⟨rfl,rfl⟩⟩
theorem HR.newM (h:HR K H M Z) (e:H p=none) {o:HO}{u:MO}(hb:MB (upd H p o) Z p u):HR K (upd H p o) (put M p u) Z:=by
 obtain ⟨h1,h2⟩:=h.lay e o
 refine ⟨h1,fun b w q=>?_⟩
 by_cases hbp:b=p
 ·subst hbp
  rw [put_same] at q
  cases q
  refine ⟨fun d z=>?_,hb⟩
  rcases h.z b d z with k|k
  ·exact absurd e k.some
  ·exact k
 ·rw [put_ne hbp] at q
  exact h2 b w q
theorem HR.newL (h:HR K H M Z) (e:H p=none) {vs:List V}{ds:List D}(a:Ats Z vs ds):HR K (upd H p (.lst vs)) (put M p (.lst ds)) Z:=h.newM e ⟨vs,upd_same,a⟩
theorem HR.newD (h:HR K H M Z) (e:H p=none) {vs:List (Key×V)}{ds:List (Key×D)}(a:KAts Z vs ds):HR K (upd H p (.dK vs)) (put M p (.dic ds)) Z:=h.newM e ⟨vs,upd_same,a⟩
theorem HR.newDT (h:HR K H M Z) (e:H p=none) {vs:List (List Key×V)}{ds:List (List Key×D)}(a:KAts Z vs ds):HR K (upd H p (.dT vs)) (put M p (.dct ds)) Z:=h.newM e ⟨vs,upd_same,a⟩
theorem HR.chg (h:HR K H M Z) {u u':MO}{o:HO}(e:M p=some u) (hb:MB (upd H p o) Z p u'):HR K (upd H p o) (put M p u') Z:=by
 obtain ⟨hk,_⟩:=h.m p u e
 refine ⟨fun b d z=>?_,fun b w q=>?_⟩
 ·by_cases hbp:b=p
  ·subst hbp;exact .inr (hk d z)
  ·rcases h.z b d z with k|k
   ·exact .inl (k.at (upd_ne hbp))
   ·exact .inr k
 ·by_cases hbp:b=p
  ·subst hbp
   rw [put_same] at q
   cases q
   exact ⟨hk,hb⟩
  ·rw [put_ne hbp] at q
   obtain ⟨k1,k2⟩:=h.m b w q
   exact ⟨k1,k2.at (upd_ne hbp)⟩
theorem HR.chgL (h:HR K H M Z) {u:MO}(e:M p=some u) {vs:List V}{ds:List D}(a:Ats Z vs ds):HR K (upd H p (.lst vs)) (put M p (.lst ds)) Z:=h.chg e ⟨vs,upd_same,a⟩
theorem HR.chgDT (h:HR K H M Z) {u:MO}(e:M p=some u) {vs:List (List Key×V)}{ds:List (List Key×D)}(a:KAts Z vs ds):HR K (upd H p (.dT vs)) (put M p (.dct ds)) Z:=h.chg e ⟨vs,upd_same,a⟩
theorem HR.frzM (h:HR K H M Z) {u:MO}(e:M p=some u) (hb:HB H Z p d):HR K H (del M p) (ext Z p d):=by
 refine ⟨fun b d' z=>?_,fun b w q=>?_⟩
 ·rcases z with z|⟨rfl,rfl⟩
  ·rcases h.z b d' z with k|k
   ·exact .inl (k.mono Le.ext)
   ·exact .inr (k.mono Le.ext)
  ·exact .inl (hb.mono Le.ext)
 ·unfold del at q
  split at q
  ·cases q
  ·next hbp =>
   obtain ⟨k1,k2⟩:=h.m b w q
   refine ⟨fun d' z=>?_,k2.mono Le.ext⟩
   rcases z with z|⟨z,_⟩
   ·exact (k1 d' z).mono Le.ext
   ·exact absurd z hbp
theorem HR.frzL (h:HR K H M Z) {ds:List D}(e:M p=some (.lst ds)):HR K H (del M p) (ext Z p (.lst ds)):=by
 obtain ⟨_,vs,r,a⟩:=h.m p _ e
 exact h.frzM e ⟨vs,.inl r,a⟩
theorem HR.frzD (h:HR K H M Z) {ds:List (Key×D)}(e:M p=some (.dic ds)):HR K H (del M p) (ext Z p (.dic ds)):=by
 obtain ⟨_,vs,r,a⟩:=h.m p _ e
 exact h.frzM e ⟨vs,.inl r,a⟩
theorem HR.frzDT (h:HR K H M Z) {ds:List (List Key×D)}(e:M p=some (.dct ds)):HR K H (del M p) (ext Z p (.dct ds)):=by
 obtain ⟨_,vs,r,a⟩:=h.m p _ e
 exact h.frzM e ⟨vs,.inl r,a⟩
theorem HR.rdT (h:HR K H M Z) {v:V}{ds:List D}(a:At Z v (.tup ds)):∃ p vs,v=.ref p/\SqT K H p vs/\Ats Z vs ds:=by
 obtain ⟨p,rfl,z⟩:=a
 rcases h.z p _ z with ⟨vs,r,a⟩|⟨_,vs,r,a⟩
 ·exact ⟨p,vs,rfl,.inl (.inl r),a⟩
 ·exact ⟨p,vs,rfl,.inr r,a⟩
theorem HR.rdK (hg:gTup=false) (h:HR K H M Z) {v:V}{ds:List D}(a:At Z v (.tup ds)):∃ p vs,v=.ref p/\H p=some (.tup vs)/\Ats Z vs ds:=by
 obtain ⟨p,rfl,z⟩:=a
 rcases h.z p _ z with ⟨vs,r,a⟩|⟨g,_⟩
 ·exact ⟨p,vs,rfl,r,a⟩
 ·rw [hg] at g;cases g
theorem HR.rdF (h:HR K H M Z) {v:V}{ds:List D}(a:At Z v (.lst ds)):∃ p vs,v=.ref p/\SqL K H p vs/\Ats Z vs ds:=by
 obtain ⟨p,rfl,z⟩:=a
 rcases h.z p _ z with ⟨vs,r,a⟩|⟨vs,r,a⟩
 ·exact ⟨p,vs,rfl,.inl r,a⟩
 ·exact ⟨p,vs,rfl,.inr r,a⟩
theorem HR.rdM (h:HR K H M Z) {ds:List D}(e:M p=some (.lst ds)):∃ vs,H p=some (.lst vs)/\Ats Z vs ds:=(h.m p _ e).2
theorem HR.rdMT (h:HR K H M Z) {ds:List (List Key×D)}(e:M p=some (.dct ds)):∃ vs,H p=some (.dT vs)/\KAts Z vs ds:=(h.m p _ e).2
theorem HR.rdMO (h:HR K H M Z) {C:Addr}{fs:List (Str×D)}(e:M p=some (.obj C fs)):∃ dx vs,H p=some (.ins C dx vs)/\KAts Z vs fs:=(h.m p _ e).2
theorem HR.rdMD (h:HR K H M Z) {ds:List (Key×D)}(e:M p=some (.dic ds)):∃ vs,H p=some (.dK vs)/\KAts Z vs ds:=(h.m p _ e).2
def lsOf (M:Mp):D->Option (List D)
 | .lst ds=>some ds
 | .ref p=>match M p with
  | some (.lst ds)=>some ds
  | _=>none
 | _=>none
def sqOf (M:Mp):D->Option (List D)
 | .tup ds=>some ds
 | d=>lsOf M d
theorem HR.rdL (h:HR K H M Z) {v:V}{d:D}{ds:List D}(e:lsOf M d=some ds) (a:At Z v d):∃ p vs,v=.ref p/\SqL K H p vs/\Ats Z vs ds:=by
 cases d with
 | lst xs=>cases e;exact h.rdF a
 | ref p =>
  cases (show v=.ref p from a)
  unfold lsOf at e
  simp only at e
  split at e
  ·next q =>
   cases e
   obtain ⟨vs,r,a⟩:=h.rdM q
   exact ⟨p,vs,rfl,SqL.of r,a⟩
  ·cases e
 | _=>cases e
theorem HR.rdS (h:HR K H M Z) {v:V}{d:D}{ds:List D}(e:sqOf M d=some ds) (a:At Z v d):∃ p vs,v=.ref p/\(SqL K H p vs\/SqT K H p vs)/\Ats Z vs ds:=by
 have go:lsOf M d=some ds->∃ p vs,v=.ref p/\(SqL K H p vs\/SqT K H p vs)/\Ats Z vs ds:=fun e=>by
  obtain ⟨p,vs,e1,s,a⟩:=h.rdL e a
  exact ⟨p,vs,e1,.inl s,a⟩
 cases d with
 | tup xs =>
  cases e
  obtain ⟨p,vs,e1,s,a⟩:=h.rdT a
  exact ⟨p,vs,e1,.inr s,a⟩
 | lst xs=>exact go e
 | ref p=>exact go e
 | _=>cases e
end
abbrev St:=L2.St
abbrev St2:=List (Option D)
abbrev VK2:=D->Mp->Prop
abbrev TE2:=St2->Mp->VK2->Prop
abbrev TT2:=St2->Mp->(Bool->Mp->Prop)->Prop
abbrev TA2:=St2->Mp->(List D->Mp->Prop)->Prop
abbrev TO2:=St2->Mp->(Option Int->Mp->Prop)->Prop
structure Ends2 where
 nx:St2->Mp->Prop
 rt:VK2
 bk:St2->Mp->Prop:=fun _ _=>False
 ct:St2->Mp->Prop:=fun _ _=>False
abbrev TS2:=Ends2->St2->Mp->Prop
abbrev R22:=D->D->Mp->VK2->Prop
abbrev Sp2:=List D->Mp->VK2->Prop
def OA (Z:Zt):Option V->Option D->Prop
 | _,none=>True
 | some v,some d=>At Z v d
 | none,some _=>False
abbrev StR (Z:Zt):St->St2->Prop:=Paired (OA Z)
theorem OA.mono {Z Z':Zt}(l:Le Z Z') {v:Option V}{d:Option D}(h:OA Z v d):OA Z' v d:=by
 cases d with
 | none=>cases v<;>exact True.intro
 | some d=>cases v with
  | none=>exact h
  | some v=>exact At.mono l h
theorem StR.mono {Z Z':Zt}(l:Le Z Z'):∀ {σ:St}{τ:St2},StR Z σ τ->StR Z' σ τ
 | _,_,.nil=>.nil
 | _,_,.cons r t=>.cons (OA.mono l r) (StR.mono l t)
theorem StR.set {Z:Zt}{x:V}{d:D}(r:At Z x d):∀ {σ:St}{τ:St2}(i:Nat),StR Z σ τ->StR Z (σ.set i (some x)) (τ.set i (some d))
 | _,_,_,.nil=>.nil
 | _,_,0,.cons _ t=>.cons r t
 | _,_,i+1,.cons q t=>.cons q (StR.set r i t)
theorem StR.get {Z:Zt}:∀ {σ:St}{τ:St2}{i:Nat}{d:D},StR Z σ τ->τ[i]? = some (some d)->∃ v,σ[i]? = some (some v)/\At Z v d
 | _,_,_,_,.nil,e=>by simp at e
 | v::_,_,0,_,.cons r _,e=>by
  simp at e
  subst e
  cases v with
  | none=>exact r.elim
  | some v=>exact ⟨v,rfl,r⟩
 | _,_,i+1,d,.cons _ t,e=>by
  obtain ⟨v,h1,h2⟩:=StR.get (i:=i) (d:=d) t (by simpa using e)
  exact ⟨v,by simpa using h1,h2⟩
def onI (x:D) (k:Int->Prop):Prop:=match x with
 | .int i=>k i
 | _=>False
def onB (x:D) (k:Bool->Prop):Prop:=match x with
 | .bl b=>k b
 | _=>False
def onS (x:D) (k:Str->Prop):Prop:=match x with
 | .str b=>k b
 | _=>False
def onR (x:D) (k:Addr->Prop):Prop:=match x with
 | .ref b=>k b
 | _=>False
def onO {α:Type}(o:Option α) (k:α->Prop):Prop:=match o with
 | some x=>k x
 | none=>False
theorem of_I {x:D}{k:Int->Prop}(h:onI x k):∃ i,x=.int i/\k i:=by
 cases x with
 | int i=>exact ⟨i,rfl,h⟩
 | _=>exact h.elim
theorem of_B {x:D}{k:Bool->Prop}(h:onB x k):∃ i,x=.bl i/\k i:=by
 cases x with
 | bl i=>exact ⟨i,rfl,h⟩
 | _=>exact h.elim
theorem of_S {x:D}{k:Str->Prop}(h:onS x k):∃ i,x=.str i/\k i:=by
 cases x with
 | str i=>exact ⟨i,rfl,h⟩
 | _=>exact h.elim
theorem of_R {x:D}{k:Addr->Prop}(h:onR x k):∃ i,x=.ref i/\k i:=by
 cases x with
 | ref i=>exact ⟨i,rfl,h⟩
 | _=>exact h.elim
theorem of_O {α:Type}{x:Option α}{k:α->Prop}(h:onO x k):∃ i,x=some i/\k i:=by
 cases x with
 | some i=>exact ⟨i,rfl,h⟩
 | none=>exact h.elim
section
variable (K:PySem.W.Frag)
def VKr (Z:Zt) (Q2:VK2) (Q:VK):Prop:=∀ Z' v d H' M',Le Z Z'->HR K H' M' Z'->At Z' v d->Q2 d M'->Q v H'
def lE (t:TE2):TE:=fun σ H Q=>∃ Z τ M Q2,StR Z σ τ/\HR K H M Z/\t τ M Q2/\VKr K Z Q2 Q
def lT (t:TT2):TT:=fun σ H Q=>∃ Z τ M Q2,StR Z σ τ/\HR K H M Z/\t τ M Q2/\∀ Z' b H' M',Le Z Z'->HR K H' M' Z'->Q2 b M'->Q b H'
def lA (t:TA2):TA:=fun σ H Q=>∃ Z τ M Q2,StR Z σ τ/\HR K H M Z/\t τ M Q2/\∀ Z' vs ds H' M',Le Z Z'->HR K H' M' Z'->Ats Z' vs ds->Q2 ds M'->Q vs H'
def lO (t:TO2):TO:=fun σ H Q=>∃ Z τ M Q2,StR Z σ τ/\HR K H M Z/\t τ M Q2/\∀ Z' b H' M',Le Z Z'->HR K H' M' Z'->Q2 b M'->Q b H'
def SKr (Z:Zt) (Q2:St2->Mp->Prop) (Q:St->Hp->Prop):Prop:=∀ Z' σ τ H' M',Le Z Z'->StR Z' σ τ->HR K H' M' Z'->Q2 τ M'->Q σ H'
structure ER (Z:Zt) (D2:Ends2) (D:Ends):Prop where
 nx:SKr K Z D2.nx D.nx
 rt:VKr K Z D2.rt D.rt
 bk:SKr K Z D2.bk D.bk
 ct:SKr K Z D2.ct D.ct
def lS (t:TS2):TS:=fun D σ H=>∃ Z τ M D2,StR Z σ τ/\HR K H M Z/\t D2 τ M/\ER K Z D2 D
def lR (r:R22):R2:=fun x y H Q=>∃ Z dx dy M Q2,HR K H M Z/\At Z x dx/\At Z y dy/\r dx dy M Q2/\VKr K Z Q2 Q
def lC (r:List D->Mp->VK2->Prop):List V->Hp->VK->Prop:=fun xs H Q=>∃ Z ds M Q2,HR K H M Z/\Ats Z xs ds/\r ds M Q2/\VKr K Z Q2 Q
def lU (r:D->Mp->VK2->Prop):V->Hp->VK->Prop:=fun x H Q=>∃ Z d M Q2,HR K H M Z/\At Z x d/\r d M Q2/\VKr K Z Q2 Q
def lSp (sp:Sp2):Sp:=fun vs H Q _=>∃ Z ds M Q2,HR K H M Z/\Ats Z vs ds/\sp ds M Q2/\VKr K Z Q2 Q
end
section
variable {K:PySem.W.Frag}{Z Z' Z1:Zt}
theorem VKr.le {Q2:VK2}{Q:VK}(h:VKr K Z Q2 Q) (l:Le Z Z'):VKr K Z' Q2 Q:=fun Z1 v d H M l1 hr a q=>h Z1 v d H M (l.trans l1) hr a q
theorem SKr.le {Q2:St2->Mp->Prop}{Q:St->Hp->Prop}(h:SKr K Z Q2 Q) (l:Le Z Z'):SKr K Z' Q2 Q:=fun Z1 v d H M l1 hr a q=>h Z1 v d H M (l.trans l1) hr a q
theorem ER.le {D2:Ends2}{D:Ends}(h:ER K Z D2 D) (l:Le Z Z'):ER K Z' D2 D:=⟨h.nx.le l,h.rt.le l,h.bk.le l,h.ct.le l⟩
theorem VKr.dn {Q2:VK2}{Q:VK}(h:VKr K Z Q2 Q):VKr K Z (fun d M=>∃ M0,Sub M0 M/\Q2 d M0) Q:=fun Z1 v d H M l1 hr a ⟨M0,s,q⟩=>h Z1 v d H M0 l1 (hr.sub s) a q
end
@[irreducible] def PE2 (X:Cx) (e:Expr) (t:TE2):Prop:=PE X e (lE X.K t)
unseal PE2
@[irreducible] def PT2 (X:Cx) (e:Expr) (t:TT2):Prop:=PT X e (lT X.K t)
unseal PT2
@[irreducible] def PW2 (X:Cx) (e:Expr) (t:TT2):Prop:=PW X e (lT X.K t)
unseal PW2
@[irreducible] def PA2 (X:Cx) (es:List Expr) (t:TA2):Prop:=PA X es (lA X.K t)
unseal PA2
@[irreducible] def PO2 (X:Cx) (e:Option Expr) (t:TO2):Prop:=PO X e (lO X.K t)
unseal PO2
@[irreducible] def PS2 (X:Cx) (st:Stmt) (t:TS2):Prop:=PS X st (lS X.K t)
unseal PS2
@[irreducible] def PSs2 (X:Cx) (st:List Stmt) (t:TS2):Prop:=PSs X st (lS X.K t)
unseal PSs2
@[irreducible] def OpR2 (X:Cx) (f:Value->Value->Sem Value) (r:R22):Prop:=OpR X f (lR X.K r)
unseal OpR2
@[irreducible] def UnR2 (X:Cx) (f:Value->Sem Value) (r:D->Mp->VK2->Prop):Prop:=UnR X f (lU X.K r)
unseal UnR2
@[irreducible] def CallR2 (X:Cx) (f:Value) (r:List D->Mp->VK2->Prop):Prop:=CallR X f (lC X.K r)
unseal CallR2
@[irreducible] def IxR2 (X:Cx) (r:R22):Prop:=IxR X (lR X.K r)
unseal IxR2
section
variable {X:Cx}
theorem PE.mono {e:Expr}{t t':TE}(h:PE X e t) (m:∀ σ H Q,t' σ H Q->t σ H Q):PE X e t':=fun pins s σ H Q I q=>h pins s σ H Q I (m σ H Q q)
theorem PT.mono {e:Expr}{t t':TT}(h:PT X e t) (m:∀ σ H Q,t' σ H Q->t σ H Q):PT X e t':=fun pins s σ H Q I q=>h pins s σ H Q I (m σ H Q q)
theorem PW.mono {e:Expr}{t t':TT}(h:PW X e t) (m:∀ σ H Q,t' σ H Q->t σ H Q):PW X e t':=fun wh pins s σ H Q I q=>h wh pins s σ H Q I (m σ H Q q)
theorem PA.mono {e:List Expr}{t t':TA}(h:PA X e t) (m:∀ σ H Q,t' σ H Q->t σ H Q):PA X e t':=fun pos pins s σ H Q I q=>h pos pins s σ H Q I (m σ H Q q)
theorem PO.mono {e:Option Expr}{t t':TO}(h:PO X e t) (m:∀ σ H Q,t' σ H Q->t σ H Q):PO X e t':=fun pins s σ H Q I q=>h pins s σ H Q I (m σ H Q q)
theorem PS.mono {e:Stmt}{t t':TS}(h:PS X e t) (m:∀ D σ H,t' D σ H->t D σ H):PS X e t':=fun pins s σ H D I q=>h pins s σ H D I (m D σ H q)
theorem PSs.mono {e:List Stmt}{t t':TS}(h:PSs X e t) (m:∀ D σ H,t' D σ H->t D σ H):PSs X e t':=fun pins s σ H D I q=>h pins s σ H D I (m D σ H q)
theorem OpR.mono {f:Value->Value->Sem Value}{r r':R2}(h:OpR X f r) (m:∀ x y H Q,r' x y H Q->r x y H Q):OpR X f r':=fun pins s σ H x y v u Q I rx ry q=>h pins s σ H x y v u Q I rx ry (m x y H Q q)
theorem UnR.mono {f:Value->Sem Value}{r r':V->Hp->VK->Prop}(h:UnR X f r) (m:∀ x H Q,r' x H Q->r x H Q):UnR X f r':=fun pins s σ H x v Q I rx q=>h pins s σ H x v Q I rx (m x H Q q)
theorem CallR.mono {f:Value}{r r':List V->Hp->VK->Prop}(h:CallR X f r) (m:∀ x H Q,r' x H Q->r x H Q):CallR X f r':=fun pins s σ H x v Q I rx q=>h pins s σ H x v Q I rx (m x H Q q)
theorem IxR.mono {r r':R2}(h:IxR X r) (m:∀ x y H Q,r' x y H Q->r x y H Q):IxR X r':=fun value slice pins s σ H x y v u Q I rx ry q hs=>h value slice pins s σ H x y v u Q I rx ry (m x y H Q q) hs
def uVar (i:Nat):TE2:=fun τ M Q=>onO (τ[i]?).join fun d=>Q d M
def uC (d:D):TE2:=fun _ M Q=>Q d M
theorem qv (i:Nat) {x:Str}{pos:Pos}(hN:X.N[i]? = some x:=by rfl) (hv:Vis X.env.scope x:=by first | exact Or.inl rfl | exact Or.inr (Or.inl rfl) | exact Or.inr (Or.inr rfl)) (hd:(x == ("__debug__":Str))=false:=by decide)
  (hcd:(x == ("__classdict__":Str))=false:=by decide):PE2 X (.Name x pos) (uVar i):=PE.mono (pv i hN hv hd hcd) fun σ H Q ⟨Z,τ,M,Q2,st,hr,h,k⟩=>by
 obtain ⟨d,e,q⟩:=of_O h
 obtain ⟨v,e1,a⟩:=st.get (Option.join_eq_some_iff.mp e)
 exact ⟨v,e1,k Z v d H M (Le.refl _) hr a q⟩
theorem qc {e:Expr}{v:V}{d:D}(h:PE X e (tC v)) (a:∀ Z,At Z v d):PE2 X e (uC d):=PE.mono h fun σ H Q ⟨Z,τ,M,Q2,st,hr,q,k⟩=>k Z v d H M (Le.refl _) hr (a Z) q
theorem qint {i j pos}:PE2 X (.Constant (.int i) j pos) (uC (.int i)):=qc pe_int fun _=>rfl
theorem qbl {b j pos}:PE2 X (.Constant (.bool b) j pos) (uC (.bl b)):=qc pe_bl fun _=>rfl
theorem qstr {x j pos}:PE2 X (.Constant (.str x) j pos) (uC (.str x)):=qc pe_str fun _=>rfl
theorem qty {x:Str}{pos:Pos}{T:String}(hm:X.mg x=none) (hv:bootBuiltins x=some (.type T)) (hg:Gl X x:=by rfl) (hn:x≠"__name__":=by decide) (hd:(x == ("__debug__":Str))=false:=by decide):PE2 X (.Name x pos) (uC (.ty T)):=qc (pty hm hv hg hn hd) fun _=>rfl
variable {a b c e:Expr}{ta tb tc te:TE2}{pos:Pos}
theorem lE.bind {K:PySem.W.Frag}{σ:St}{H:Hp}{Z:Zt}{τ:St2}{M:Mp}{R:VK2}{Q:VK}(st:StR Z σ τ) (hr:HR K H M Z) (h:ta τ M R)
  (k:∀ Z' v d H' M',Le Z Z'->HR K H' M' Z'->At Z' v d->R d M'->Q v H'):lE K ta σ H Q:=⟨Z,τ,M,R,st,hr,h,k⟩
def uOp (r:R22) (ta tb:TE2):TE2:=fun τ M Q=>ta τ M fun x M1=>tb τ M1 fun y M2=>r x y M2 Q
theorem lOp {K:PySem.W.Frag}{r:R22}:∀ σ H Q,lE K (uOp r ta tb) σ H Q->tOp (lR K r) (lE K ta) (lE K tb) σ H Q:=by
 rintro σ H Q ⟨Z,τ,M,Q2,st,hr,h,k⟩
 refine lE.bind st hr h fun Z1 x dx H1 M1 l1 h1 a1 q1=>lE.bind (st.mono l1) h1 q1 fun Z2 y dy H2 M2 l2 h2 a2 q2=>?_
 exact ⟨Z2,dx,dy,M2,Q2,h2,a1.mono l2,a2,q2,k.le (l1.trans l2)⟩
theorem qop {op:Operator}{r:R22}(ho:OpR2 X (binaryOp op) r) (ha:PE2 X a ta) (hb:PE2 X b tb):PE2 X (.BinOp a op b pos) (uOp r ta tb):=PE.mono (pe_op ho ha hb) lOp
theorem qix {r:R22}(hr:IxR2 X r) (ha:PE2 X a ta) (hb:PE2 X b tb) (hs:PlainIx b):PE2 X (.Subscript a b pos) (uOp r ta tb):=PE.mono (pe_ix hr ha hb hs) lOp
theorem qcmp {op:CmpOp}{r:R22}(ho:OpR2 X (compareOp op) r) (ha:PE2 X a ta) (hb:PE2 X b tb) (hm:behindInMarks op b=false):PE2 X (.Compare a [op] [b] pos) (uOp r ta tb):=PE.mono (pe_cmpR ho ha hb hm) lOp
def uTest (t:TE2):TT2:=fun τ M Q=>t τ M fun x M1=>onB x fun c=>Q c M1
theorem lTest {K:PySem.W.Frag}{t1:TE}(m:∀ σ H Q,lE K te σ H Q->t1 σ H Q):∀ σ H Q,lT K (uTest te) σ H Q->t1 σ H fun x H1=>∃ k,x=.bl k/\Q k H1:=by
 rintro σ H Q ⟨Z,τ,M,Q2,st,hr,h,k⟩
 refine m _ _ _ (lE.bind st hr h fun Z1 x dx H1 M1 l1 h1 a1 q1=>?_)
 obtain ⟨c,rfl,q⟩:=of_B q1
 exact ⟨c,a1,k Z1 c H1 M1 l1 h1 q⟩
theorem qtcmp {op:CmpOp}{r:R22}(ho:OpR2 X (compareOp op) r) (ha:PE2 X a ta) (hb:PE2 X b tb) (hm:behindInMarks op b=false):PT2 X (.Compare a [op] [b] pos) (uTest (uOp r ta tb)):=PT.mono (pt_cmpR ho ha hb hm) (lTest lOp)
theorem qtval {t:TE2}(h:PE2 X e t) (he:∀ whole,isTrue e X.env whole=(do let v <- whole;standAt e.pos;holding [v] (truthy v)):=by intro _;rfl):PT2 X e (uTest t):=PT.mono (pt_val h he) (lTest fun _ _ _ h=>h)
def uChain (r r':R22) (ta tb tc:TE2):TE2:=fun τ M Q=>ta τ M fun x M1=>tb τ M1 fun y M2=>r x y M2 fun z M3=>onB z fun k=>if k=true then tc τ M3 fun w M4=>r' y w M4 Q else Q (.bl false) M3
theorem lChain {K:PySem.W.Frag}{r r':R22}:∀ σ H Q,lE K (uChain r r' ta tb tc) σ H Q->tChain (lR K r) (lR K r') (lE K ta) (lE K tb) (lE K tc) σ H Q:=by
 rintro σ H Q ⟨Z,τ,M,Q2,st,hr,h,k⟩
 refine lE.bind st hr h fun Z1 x dx H1 M1 l1 h1 a1 q1=>lE.bind (st.mono l1) h1 q1 fun Z2 y dy H2 M2 l2 h2 a2 q2=>?_
 refine ⟨Z2,dx,dy,M2,_,h2,a1.mono l2,a2,q2,fun Z3 z dz H3 M3 l3 h3 a3 q3=>?_⟩
 obtain ⟨c,rfl,q⟩:=of_B q3
 refine ⟨c,a3,?_⟩
 cases c with
 | false =>
  rw [if_neg Bool.false_ne_true] at q ⊢
  exact k Z3 (.bl false) (.bl false) H3 M3 (l1.trans (l2.trans l3)) h3 rfl q
 | true =>
  rw [if_pos rfl] at q ⊢
  refine lE.bind (st.mono (l1.trans (l2.trans l3))) h3 q fun Z4 w dw H4 M4 l4 h4 a4 q4=>?_
  exact ⟨Z4,dy,dw,M4,Q2,h4,a2.mono (l3.trans l4),a4,q4,k.le (l1.trans (l2.trans (l3.trans l4)))⟩
theorem qchain {op op':CmpOp}{r r':R22}(ho:OpR2 X (compareOp op) r) (ho':OpR2 X (compareOp op') r') (ha:PE2 X a ta) (hb:PE2 X b tb) (hc:PE2 X c tc)
  (hm:lastMarks [op,op'] [b,c]=false:=by with_unfolding_all rfl):PE2 X (.Compare a [op,op'] [b,c] pos) (uChain r r' ta tb tc):=PE.mono (pe_chain ho ho' ha hb hc hm) lChain
def uUn (r:D->Mp->VK2->Prop) (ta:TE2):TE2:=fun τ M Q=>ta τ M fun x M1=>r x M1 Q
theorem qun {op:UnaryOp}{r:D->Mp->VK2->Prop}(ho:UnR2 X (unaryOp op) r) (ha:PE2 X a ta):PE2 X (.UnaryOp op a pos) (uUn r ta):=PE.mono (pe_un ho ha) (by
 rintro σ H Q ⟨Z,τ,M,Q2,st,hr,h,k⟩
 exact lE.bind st hr h fun Z1 x dx H1 M1 l1 h1 a1 q1=>⟨Z1,dx,M1,Q2,h1,a1,q1,k.le l1⟩)
variable {tA tB tC:TT2}{rest:List Expr}
def uOr (t u:TT2):TT2:=fun τ M Q=>t τ M fun c M1=>if c=true then Q true M1 else u τ M1 Q
def uNot (t:TT2):TT2:=fun τ M Q=>t τ M fun c M1=>Q (!c) M1
theorem lT.bind {K:PySem.W.Frag}{σ:St}{H:Hp}{Z:Zt}{τ:St2}{M:Mp}{R:Bool->Mp->Prop}{Q:Bool->Hp->Prop}(st:StR Z σ τ) (hr:HR K H M Z) (h:tA τ M R)
  (k:∀ Z' b H' M',Le Z Z'->HR K H' M' Z'->R b M'->Q b H'):lT K tA σ H Q:=⟨Z,τ,M,R,st,hr,h,k⟩
theorem qw_or1 (ha:PT2 X a tA):PW2 X (.BoolOp .Or [a] pos) tA:=pw_or1 ha
theorem qw_or (ha:PT2 X a tA) (hb:PW2 X (.BoolOp .Or (b::rest) pos) tB):PW2 X (.BoolOp .Or (a::b::rest) pos) (uOr tA tB):=PW.mono (pw_or ha hb) (by
 rintro σ H Q ⟨Z,τ,M,Q2,st,hr,h,k⟩
 refine lT.bind st hr h fun Z1 c H1 M1 l1 h1 q1=>?_
 cases c with
 | false=>rw [if_neg Bool.false_ne_true] at q1 ⊢;exact lT.bind (st.mono l1) h1 q1 fun Z2 c H2 M2 l2 h2 q2=>k Z2 c H2 M2 (l1.trans l2) h2 q2
 | true=>rw [if_pos rfl] at q1 ⊢;exact k Z1 true H1 M1 l1 h1 q1)
theorem PW2.pt {e:Expr}{t:TT2}(h:PW2 X e t):PT2 X e t:=PW.pt (show PW X e (lT X.K t) from h)
theorem qtnot (ha:PT2 X a tA):PT2 X (.UnaryOp .Not a pos) (uNot tA):=PT.mono (pt_not ha) (by
 rintro σ H Q ⟨Z,τ,M,Q2,st,hr,h,k⟩
 exact lT.bind st hr h fun Z1 c H1 M1 l1 h1 q1=>k Z1 _ H1 M1 l1 h1 q1)
def uAndV (ta tb:TE2):TE2:=fun τ M Q=>ta τ M fun x M1=>onB x fun c=>if c=true then tb τ M1 Q else Q (.bl false) M1
def uNotV (ta:TE2):TE2:=fun τ M Q=>ta τ M fun x M1=>onB x fun c=>Q (.bl (!c)) M1
theorem qone {op} {t:TE2}(h:PE2 X a t):PE2 X (.BoolOp op [a] pos) t:=pe_one h
theorem qand (ha:PE2 X a ta) (hb:PE2 X (.BoolOp .And (b::rest) pos) tb):PE2 X (.BoolOp .And (a::b::rest) pos) (uAndV ta tb):=PE.mono (pe_and ha hb) (by
 rintro σ H Q ⟨Z,τ,M,Q2,st,hr,h,k⟩
 refine lE.bind st hr h fun Z1 x dx H1 M1 l1 h1 a1 q1=>?_
 obtain ⟨c,rfl,q1'⟩:=of_B q1
 replace q1:=q1'
 refine ⟨c,a1,?_⟩
 cases c with
 | true=>rw [if_pos rfl] at q1 ⊢;exact lE.bind (st.mono l1) h1 q1 fun Z2 y dy H2 M2 l2 h2 a2 q2=>k Z2 y dy H2 M2 (l1.trans l2) h2 a2 q2
 | false=>rw [if_neg Bool.false_ne_true] at q1 ⊢;exact k Z1 (.bl false) (.bl false) H1 M1 l1 h1 rfl q1)
theorem qnot (ha:PE2 X a ta):PE2 X (.UnaryOp .Not a pos) (uNotV ta):=PE.mono (pe_not ha) (by
 rintro σ H Q ⟨Z,τ,M,Q2,st,hr,h,k⟩
 refine lE.bind st hr h fun Z1 x dx H1 M1 l1 h1 a1 q1=>?_
 obtain ⟨c,rfl,q1'⟩:=of_B q1
 replace q1:=q1'
 exact ⟨c,a1,k Z1 (.bl (!c)) (.bl (!c)) H1 M1 l1 h1 rfl q1⟩)
variable {es:List Expr}{t:TA2}
def uNil:TA2:=fun _ M Q=>Q [] M
def uCons (ta:TE2) (tr:TA2):TA2:=fun τ M Q=>ta τ M fun x M1=>tr τ M1 fun xs M2=>Q (x::xs) M2
theorem qN:PA2 X [] uNil:=PA.mono pa_nil fun σ H Q ⟨Z,τ,M,Q2,st,hr,h,k⟩=>k Z [] [] H M (Le.refl _) hr .nil h
theorem qA (ha:PE2 X e te) (hr:PA2 X es t) (hs:starEach (e::es) X.env=(false,eval e X.env)::starEach es X.env:=by rfl):PA2 X (e::es) (uCons te t):=PA.mono (pa_cons ha hr hs) (by
 rintro σ H Q ⟨Z,τ,M,Q2,st,hr,h,k⟩
 refine lE.bind st hr h fun Z1 x dx H1 M1 l1 h1 a1 q1=>⟨Z1,τ,M1,_,st.mono l1,h1,q1,fun Z2 vs ds H2 M2 l2 h2 a2 q2=>?_⟩
 exact k Z2 (x::vs) (dx::ds) H2 M2 (l1.trans l2) h2 (.cons (a1.mono l2) a2) q2)
def uTup (t:TA2):TE2:=fun τ M Q=>t τ M fun xs M1=>xs.length<=sizeLine/\Q (.tup xs) M1
def uLstF (t:TA2):TE2:=fun τ M Q=>t τ M fun xs M1=>xs.length<=sizeLine/\Q (.lst xs) M1
def uLst (t:TA2):TE2:=fun τ M Q=>t τ M fun xs M1=>xs.length<=sizeLine/\∀ p,M1 p=none->Q (.ref p) (put M1 p (.lst xs))
theorem qtup {x1} (h:PA2 X es t):PE2 X (.Tuple es x1 pos) (uTup t):=PE.mono (pe_tup h) (by
 rintro σ H Q ⟨Z,τ,M,Q2,st,hr,h,k⟩
 refine ⟨Z,τ,M,_,st,hr,h,fun Z1 vs ds H1 M1 l1 h1 a1 q1=>⟨by rw [a1.length];exact q1.1,fun p hp=>?_⟩⟩
 exact k _ (.ref p) (.tup ds) _ M1 (l1.trans Le.ext) (h1.newT hp a1) at_extT q1.2)
theorem qlstF (h:PA2 X es t):PE2 X (.List es pos) (uLstF t):=PE.mono (pe_lst h) (by
 rintro σ H Q ⟨Z,τ,M,Q2,st,hr,h,k⟩
 refine ⟨Z,τ,M,_,st,hr,h,fun Z1 vs ds H1 M1 l1 h1 a1 q1=>⟨by rw [a1.length];exact q1.1,fun p hp=>?_⟩⟩
 exact k _ (.ref p) (.lst ds) _ M1 (l1.trans Le.ext) (h1.newF hp a1) at_extL q1.2)
theorem qlst (h:PA2 X es t):PE2 X (.List es pos) (uLst t):=PE.mono (pe_lst h) (by
 rintro σ H Q ⟨Z,τ,M,Q2,st,hr,h,k⟩
 refine ⟨Z,τ,M,_,st,hr,h,fun Z1 vs ds H1 M1 l1 h1 a1 q1=>⟨by rw [a1.length];exact q1.1,fun p hp=>?_⟩⟩
 exact k Z1 (.ref p) (.ref p) _ _ l1 (h1.newL hp a1) rfl (q1.2 p (h1.fresh hp)))
def uCB (r:List D->Mp->VK2->Prop) (t:TA2):TE2:=fun τ M Q=>t τ M fun xs M1=>r xs M1 Q
theorem lCB {K:PySem.W.Frag}{r:List D->Mp->VK2->Prop}:∀ σ H Q,lE K (uCB r t) σ H Q->tCB (lC K r) (lA K t) σ H Q:=by
 rintro σ H Q ⟨Z,τ,M,Q2,st,hr,h,k⟩
 exact ⟨Z,τ,M,_,st,hr,h,fun Z1 vs ds H1 M1 l1 h1 a1 q1=>⟨Z1,ds,M1,Q2,h1,a1,q1,k.le l1⟩⟩
theorem qcallB {x:Str}{p:Pos}{id:String}{r:List D->Mp->VK2->Prop}(hc:CallR2 X (.builtin id) r) (hm:X.mg x=none) (hv:bootBuiltins x=some (.builtin id)) (ha:PA2 X (e::es) t) (hg:Gl X x:=by rfl) (hn:x≠"__name__":=by decide) (hdb:(x == ("__debug__":Str))=false:=by decide)
  (he:starEach (e::es) X.env=(false,eval e X.env)::starEach es X.env:=by rfl) (hpl:(backTo pos (starEach es X.env)).any (·.1)=false:=by rfl):PE2 X (.Call (.Name x p) (e::es) [] pos) (uCB r t):=PE.mono (pe_callB hc hg hm hv ha hn hdb he hpl) lCB
theorem qcallTy {x:Str}{p:Pos}{T:String}{r:List D->Mp->VK2->Prop}(hc:CallR2 X (.type T) r) (hm:X.mg x=none) (hv:bootBuiltins x=some (.type T)) (ha:PA2 X (e::es) t) (hg:Gl X x:=by rfl) (hn:x≠"__name__":=by decide) (hdb:(x == ("__debug__":Str))=false:=by decide)
  (he:starEach (e::es) X.env=(false,eval e X.env)::starEach es X.env:=by rfl) (hpl:(backTo pos (starEach es X.env)).any (·.1)=false:=by rfl):PE2 X (.Call (.Name x p) (e::es) [] pos) (uCB r t):=PE.mono (pe_callTy hc hg hm hv ha hn hdb he hpl) lCB
def uCall (sp:Sp2) (t:TA2):TE2:=fun τ M Q=>t τ M fun xs M1=>sp xs M1 Q
theorem qcall {x:Str}{p:Pos}{k:Nat}{st:Stmt}{ps:List Str}{f:Addr}{fd:FuncData}{sp:Sp2}(d:Df X.K X.mg x st ps f fd) (G:FnOk X.prog X.w X.K X.mg X.base CX0 k f fd ps (lSp X.K sp)) (hr:Room k X.A) (ha:PA2 X (e::es) t)
  (hg:Gl X x:=by rfl) (hdb:(x == ("__debug__":Str))=false:=by decide) (he:starEach (e::es) X.env=(false,eval e X.env)::starEach es X.env:=by rfl) (hpl:(backTo pos (starEach es X.env)).any (·.1)=false:=by rfl) :
  PE2 X (.Call (.Name x p) (e::es) [] pos) (uCall sp t):=PE.mono (pcall d G hr ha hg hdb he hpl) (by
 rintro σ H Q ⟨Z,τ,M,Q2,st,hr,h,k⟩
 refine ⟨Z,τ,M,_,st,hr,h,fun Z1 vs ds H1 M1 l1 h1 a1 q1=>?_⟩
 show lSp X.K sp (vs++[]) H1 Q E0
 rw [List.append_nil]
 exact ⟨Z1,ds,M1,Q2,h1,a1,q1,k.le l1⟩)
def uNoPart:TO2:=fun _ M Q=>Q none M
def uPart (t:TE2):TO2:=fun τ M Q=>t τ M fun x M1=>onI x fun i=>Q (some i) M1
theorem qo_none:PO2 X none uNoPart:=PO.mono po_none fun σ H Q ⟨Z,τ,M,Q2,st,hr,h,k⟩=>k Z none H M (Le.refl _) hr h
theorem qo_some (h:PE2 X e te):PO2 X (some e) (uPart te):=PO.mono (po_some h) (by
 rintro σ H Q ⟨Z,τ,M,Q2,st,hr,h,k⟩
 refine lE.bind st hr h fun Z1 x dx H1 M1 l1 h1 a1 q1=>?_
 obtain ⟨i,rfl,q⟩:=of_I q1
 exact ⟨i,a1,k Z1 (some i) H1 M1 l1 h1 q⟩)
def uSl (r:D->Option Int->Option Int->Mp->VK2->Prop) (te:TE2) (tl th:TO2):TE2:=fun τ M Q=>te τ M fun x M1=>tl τ M1 fun l M2=>th τ M2 fun u M3=>r x l u M3 Q
def lSl (K:PySem.W.Frag) (r:D->Option Int->Option Int->Mp->VK2->Prop):V->Option Int->Option Int->Hp->VK->Prop:=fun x lo hi H Q=>∃ Z d M Q2,HR K H M Z/\At Z x d/\r d lo hi M Q2/\VKr K Z Q2 Q
@[irreducible] def SlR2 (X:Cx) (r:D->Option Int->Option Int->Mp->VK2->Prop):Prop:=SlR X (lSl X.K r)
unseal SlR2
theorem SlR.mono {r r':V->Option Int->Option Int->Hp->VK->Prop}(h:SlR X r) (m:∀ x l u H Q,r' x l u H Q->r x l u H Q):SlR X r':=fun pins s σ H x v vl vu lo hi sl Q I rx hs pl pu q=>h pins s σ H x v vl vu lo hi sl Q I rx hs pl pu (m x lo hi H Q q)
theorem qslice {lo hi:Option Expr}{tl th:TO2}{p2:Pos}{r:D->Option Int->Option Int->Mp->VK2->Prop}(hr:SlR2 X r) (he:PE2 X e te) (hl:PO2 X lo tl) (hu:PO2 X hi th):PE2 X (.Subscript e (.Slice lo hi none p2) pos) (uSl r te tl th):=PE.mono (pe_slice hr he hl hu) (by
 rintro σ H Q ⟨Z,τ,M,Q2,st,hr,h,k⟩
 refine lE.bind st hr h fun Z1 x dx H1 M1 l1 h1 a1 q1=>⟨Z1,τ,M1,_,st.mono l1,h1,q1,fun Z2 lo H2 M2 l2 h2 q2=>⟨Z2,τ,M2,_,st.mono (l1.trans l2),h2,q2,fun Z3 hi H3 M3 l3 h3 q3=>?_⟩⟩
 exact ⟨Z3,dx,M3,Q2,h3,a1.mono (l2.trans l3),q3,k.le (l1.trans (l2.trans l3))⟩)
end
end L3
namespace L3
open PySem PySem.Spec PyProof.Rows L2
unseal PE2 PT2 PW2 PA2 PO2 PS2 PSs2 OpR2 UnR2 CallR2 IxR2 SlR2
section
variable {K:PySem.W.Frag}{Z:Zt}{H:Hp}{M:Mp}{Q2:VK2}{Q:VK}
theorem VKr.v (k:VKr K Z Q2 Q) (hr:HR K H M Z) {v:V}{d:D}(a:At Z v d) (q:Q2 d M):Q v H:=k Z v d H M (Le.refl _) hr a q
theorem VKr.b (k:VKr K Z Q2 Q) (hr:HR K H M Z) {b:Bool}(q:Q2 (.bl b) M):Q (.bl b) H:=k Z (.bl b) (.bl b) H M (Le.refl _) hr rfl q
theorem VKr.i (k:VKr K Z Q2 Q) (hr:HR K H M Z) {b:Int}(q:Q2 (.int b) M):Q (.int b) H:=k Z (.int b) (.int b) H M (Le.refl _) hr rfl q
theorem VKr.s (k:VKr K Z Q2 Q) (hr:HR K H M Z) {b:Str}(q:Q2 (.str b) M):Q (.str b) H:=k Z (.str b) (.str b) H M (Le.refl _) hr rfl q
theorem VKr.n (k:VKr K Z Q2 Q) (hr:HR K H M Z) (q:Q2 .non M):Q .non H:=k Z .non .non H M (Le.refl _) hr rfl q
theorem VKr.t (k:VKr K Z Q2 Q) (hr:HR K H M Z) {vs:List V}{ds:List D}{p:Addr}(hp:H p=none) (a:Ats Z vs ds) (q:Q2 (.tup ds) M):Q (.ref p) (upd H p (.tup vs)):=k _ (.ref p) (.tup ds) _ M Le.ext (hr.newT hp a) at_extT q
theorem VKr.f (k:VKr K Z Q2 Q) (hr:HR K H M Z) {vs:List V}{ds:List D}{p:Addr}(hp:H p=none) (a:Ats Z vs ds) (q:Q2 (.lst ds) M):Q (.ref p) (upd H p (.lst vs)):=k _ (.ref p) (.lst ds) _ M Le.ext (hr.newF hp a) at_extL q
theorem VKr.l (k:VKr K Z Q2 Q) (hr:HR K H M Z) {vs:List V}{ds:List D}{p:Addr}(hp:H p=none) (a:Ats Z vs ds) (q:∀ p,M p=none->Q2 (.ref p) (put M p (.lst ds))):Q (.ref p) (upd H p (.lst vs)):=k Z (.ref p) (.ref p) _ _ (Le.refl _) (hr.newL hp a) rfl (q p (hr.fresh hp))
theorem VKr.fd (k:VKr K Z Q2 Q) (hr:HR K H M Z) {vs:List (Key×V)}{ds:List (Key×D)}{p:Addr}(hp:H p=none) (a:KAts Z vs ds) (q:Q2 (.dic ds) M):Q (.ref p) (upd H p (.dK vs)):=k _ (.ref p) (.dic ds) _ M Le.ext (hr.newFD hp a) at_extD q
theorem VKr.d (k:VKr K Z Q2 Q) (hr:HR K H M Z) {vs:List (Key×V)}{ds:List (Key×D)}{p:Addr}(hp:H p=none) (a:KAts Z vs ds) (q:∀ p,M p=none->Q2 (.ref p) (put M p (.dic ds))):Q (.ref p) (upd H p (.dK vs)):=k Z (.ref p) (.ref p) _ _ (Le.refl _) (hr.newD hp a) rfl (q p (hr.fresh hp))
end
section
variable {X:Cx}
def sI (C:Int->Int->Prop) (g:Int->Int->D):R22:=fun x y M Q=>onI x fun i=>onI y fun j=>C i j/\Q (g i j) M
def sI0 (g:Int->Int->D):R22:=fun x y M Q=>onI x fun i=>onI y fun j=>Q (g i j) M
theorem o2 {f:Value->Value->Sem Value}{C:Int->Int->Prop}{g:Int->Int->V}{g2:Int->Int->D}(h:OpR X f (rI C g)) (hg:∀ i j Z,At Z (g i j) (g2 i j)):OpR2 X f (sI C g2):=OpR.mono h (by
 rintro x y H Q ⟨Z,dx,dy,M,Q2,hr,ax,ay,h,k⟩
 obtain ⟨i,rfl,h1⟩:=of_I h
 obtain ⟨j,rfl,c,q⟩:=of_I h1
 exact ⟨i,j,ax,ay,c,k Z _ _ H M (Le.refl _) hr (hg i j Z) q⟩)
theorem o20 {f:Value->Value->Sem Value}{g:Int->Int->V}{g2:Int->Int->D}(h:OpR X f (rI0 g)) (hg:∀ i j Z,At Z (g i j) (g2 i j)):OpR2 X f (sI0 g2):=OpR.mono h (by
 rintro x y H Q ⟨Z,dx,dy,M,Q2,hr,ax,ay,h,k⟩
 obtain ⟨i,rfl,h1⟩:=of_I h
 obtain ⟨j,rfl,q⟩:=of_I h1
 exact ⟨i,j,ax,ay,k Z _ _ H M (Le.refl _) hr (hg i j Z) q⟩)
theorem o_add:OpR2 X (binaryOp .Add) (sI0 fun i j=>.int (i+j)):=o20 op_add fun _ _ _=>rfl
theorem o_mul:OpR2 X (binaryOp .Mult) (sI CMul fun i j=>.int (i*j)):=o2 op_mul fun _ _ _=>rfl
theorem o_fdiv:OpR2 X (binaryOp .FloorDiv) (sI CDiv fun i j=>.int (i / j)):=o2 op_fdiv fun _ _ _=>rfl
theorem o_mod:OpR2 X (binaryOp .Mod) (sI (fun _ j=>0<j) fun i j=>.int (i%j)):=o2 op_mod fun _ _ _=>rfl
theorem o_lt:OpR2 X (compareOp .Lt) (sI0 fun i j=>.bl (decide (i<j))):=o20 op_lt fun _ _ _=>rfl
theorem o_le:OpR2 X (compareOp .LtE) (sI0 fun i j=>.bl (decide (i<=j))):=o20 op_le fun _ _ _=>rfl
def sU (g:Int->D):D->Mp->VK2->Prop:=fun x M Q=>onI x fun i=>Q (g i) M
theorem u2 {f:Value->Sem Value}{g:Int->V}{g2:Int->D}(h:UnR X f (rU g)) (hg:∀ i Z,At Z (g i) (g2 i)):UnR2 X f (sU g2):=UnR.mono h (by
 rintro x H Q ⟨Z,dx,M,Q2,hr,ax,h,k⟩
 obtain ⟨i,rfl,q⟩:=of_I h
 exact ⟨i,ax,k Z _ _ H M (Le.refl _) hr (hg i Z) q⟩)
theorem u_neg:UnR2 X (unaryOp .USub) (sU fun i=>.int (-i)):=u2 un_neg fun _ _=>rfl
def flatD:D->Bool
 | .non=>true
 | .bl _=>true
 | .int _=>true
 | .str _=>true
 | _=>false
def eqF:D->D->Bool
 | .non,.non=>true
 | .bl a,.bl b=>a == b
 | .bl a,.int b=>(if a then 1 else 0) == b
 | .int a,.bl b=>a == (if b then 1 else 0)
 | .int a,.int b=>decide (a=b)
 | .str a,.str b=>decide (a=b)
 | _,_=>false
def flat2 (x y:D):Bool:=match x,y with
 | .non,.non=>true | .non,.int _=>true | .int _,.non=>true | .non,.bl _=>true | .bl _,.non=>true | .non,.str _=>true | .str _,.non=>true
 | .int _,.int _=>true | .bl _,.bl _=>true | .str _,.str _=>true
 | .int _,.str _=>true | .str _,.int _=>true | .bl _,.str _=>true | .str _,.bl _=>true
 | _,_=>false
def sEq (neg:Bool):R22:=fun x y M Q=>flat2 x y=true/\Q (.bl (if neg then !eqF x y else eqF x y)) M
theorem flat2_scal {Z:Zt}{x y:V}{dx dy:D}(ax:At Z x dx) (ay:At Z y dy) (h:flat2 dx dy=true):scal x y=true/\decide (x=y)=eqF dx dy:=by
 cases dx<;>cases dy<;>first
  | exact absurd h Bool.false_ne_true
  | (subst ax;subst ay;refine ⟨rfl,?_⟩;simp [eqF,Bool.beq_eq_decide_eq])
theorem o_eq:OpR2 X (compareOp .Eq) (sEq false):=OpR.mono op_eq (by
 rintro x y H Q ⟨Z,dx,dy,M,Q2,hr,ax,ay,⟨f,q⟩,k⟩
 obtain ⟨h1,h2⟩:=flat2_scal ax ay f
 exact ⟨h1,by rw [h2];exact k.b hr q⟩)
theorem o_ne:OpR2 X (compareOp .NotEq) (sEq true):=OpR.mono op_ne (by
 rintro x y H Q ⟨Z,dx,dy,M,Q2,hr,ax,ay,⟨f,q⟩,k⟩
 obtain ⟨h1,h2⟩:=flat2_scal ax ay f
 exact ⟨h1,by rw [h2];exact k.b hr q⟩)
def tyD (M:Mp):D->Option String
 | .non=>some "NoneType"
 | .bl _=>some "bool"
 | .int _=>some "int"
 | .str _=>some "str"
 | .tup _=>some "tuple"
 | .lst _=>some "list"
 | .dic _=>some "dict"
 | .dct _=>some "dict"
 | .ref p=>match M p with
  | some (.lst _)=>some "list"
  | some (.dic _)=>some "dict"
  | some (.dct _)=>some "dict"
  | _=>none
 | .ty _=>none
def isiD (t c:String):Option Bool:=if t=c then some true else if t = "bool"/\c = "int" then some true else if (t = "int"\/t = "str"\/t = "list"\/t = "tuple"\/t = "dict"\/t = "NoneType")/\(c = "bool"\/c = "int"\/c = "str"\/c = "list"\/c = "tuple"\/c = "dict") then some false else none
theorem isiD_ok (K:PySem.W.Frag) {t c:String}{b:Bool}(h:isiD t c=some b):PySem.W.kitOne K (.type t) (.type c)=some b:=by
 unfold isiD at h
 split at h
 ·next e=>subst e;cases h;exact isi_same K t
 ·split at h
  ·next e=>obtain ⟨rfl,rfl⟩:=e;cases h;kernel_rfl
  ·split at h
   ·next n1 n2 e =>
    cases h
    obtain ⟨e1,e2⟩:=e
    rcases e1 with rfl|rfl|rfl|rfl|rfl|rfl<;>rcases e2 with rfl|rfl|rfl|rfl|rfl|rfl<;>first
     | exact absurd rfl n1
     | kernel_rfl
   ·cases h
def sIsi (c:String):List D->Mp->VK2->Prop:=fun xs M Q=>match xs with
 | [x,.ty c']=>c'=c/\onO (tyD M x) fun t=>onO (isiD t c) fun b=>Q (.bl b) M
 | _=>False
theorem isi_go {pins:List (Addr×Obj)}{σ:St}{H:Hp}{s:Shared}{A:Around}{E:Value->Shared->Prop}{Q:Value->Shared->Prop}{c:Value}{b:Bool}{M:Mp}{Z:Zt}{x:V}{d:D}{u:Value}{t:String}(I:Inv X pins σ H s) (hr:HR X.K H M Z) (a:At Z x d) (rx:RelV x u) (ty:tyD M d=some t)
  (e:PySem.W.kitOne X.K (.type t) c=some b) (h:∀ tk,Q (.bool b) { s with toks:=tk }):wpAny (model X.prog X.w) A (call (.builtin "isinstance") [u,c]) Q E s:=by
 have dicC:∀ {p:Addr} {ks:List (Key×V)},Rd H p (.dK ks)->PySem.W.kitOne X.K (.type "dict") c=some b->wpAny (model X.prog X.w) A (call (.builtin "isinstance") [.ref p,c]) Q E s:=fun hp e=>by
  obtain ⟨_,_,vs,_,o,es,ep,h1,h2,_⟩:=dk_rd I.hok hp
  exact PySem.W.kia_one PySem.W.kitx_dict I.kIn ⟨o,h1,h2.1⟩ e (fun z=>nomatch z) h
 have dctC:∀ {p:Addr} {ks:List (List Key×V)},Rd H p (.dT ks)->PySem.W.kitOne X.K (.type "dict") c=some b->wpAny (model X.prog X.w) A (call (.builtin "isinstance") [.ref p,c]) Q E s:=fun hp e=>by
  obtain ⟨_,_,vs,_,o,es,ep,h1,h2,_⟩:=dt_rd I.hok hp
  exact PySem.W.kia_one PySem.W.kitx_dict I.kIn ⟨o,h1,h2.1⟩ e (fun z=>nomatch z) h
 have lisC:∀ {p:Addr} {vs:List V},SqL X.K H p vs->PySem.W.kitOne X.K (.type "list") c=some b->wpAny (model X.prog X.w) A (call (.builtin "isinstance") [.ref p,c]) Q E s:=fun hs e=>by
  obtain ⟨its,_,p,_⟩:=I.list hs
  obtain ⟨o,h1,h2,_⟩:=p.isList
  exact PySem.W.kia_one PySem.W.kitx_list I.kIn ⟨o,h1,h2⟩ e (fun z=>nomatch z) h
 cases d with
 | non=>cases ty;exact isinst_ok I rx (by cases (show x=V.non from a);exact TyOf.non) e h
 | bl y=>cases ty;exact isinst_ok I rx (by cases (show x=V.bl y from a);exact TyOf.bl _) e h
 | int y=>cases ty;exact isinst_ok I rx (by cases (show x=V.int y from a);exact TyOf.int _) e h
 | str y=>cases ty;exact isinst_ok I rx (by cases (show x=V.str y from a);exact TyOf.str _) e h
 | tup ds =>
  cases ty
  obtain ⟨p,vs,rfl,hs,_⟩:=hr.rdT a
  cases (show u=Value.ref p from rx)
  obtain ⟨its,_,⟨o,h1,h2,_⟩,_⟩:=I.tuple hs
  exact PySem.W.kia_one PySem.W.kitx_tuple I.kIn ⟨o,h1,h2⟩ e (fun z=>nomatch z) h
 | lst ds =>
  cases ty
  obtain ⟨p,vs,rfl,hs,_⟩:=hr.rdF a
  cases (show u=Value.ref p from rx)
  exact lisC hs e
 | dic ds =>
  cases ty
  obtain ⟨p,rfl,z⟩:=a
  cases (show u=Value.ref p from rx)
  rcases hr.z p _ z with ⟨vs,r,_⟩|k
  ·exact dicC r e
  ·exact k.elim
 | dct ds =>
  cases ty
  obtain ⟨p,rfl,z⟩:=a
  cases (show u=Value.ref p from rx)
  rcases hr.z p _ z with ⟨vs,r,_⟩|k
  ·exact dctC r e
  ·exact k.elim
 | ref p =>
  cases (show x=.ref p from a)
  cases (show u=Value.ref p from rx)
  unfold tyD at ty
  simp only at ty
  split at ty
  ·next q =>
   cases ty
   obtain ⟨vs,r,_⟩:=hr.rdM q
   exact lisC (SqL.of r) e
  ·next q =>
   cases ty
   obtain ⟨vs,r,_⟩:=hr.rdMD q
   exact dicC (.inl r) e
  ·next q =>
   cases ty
   obtain ⟨vs,r,_⟩:=hr.rdMT q
   exact dctC (.inl r) e
  ·cases ty
 | ty n=>cases ty
theorem c_isi (c:String):CallR2 X (.builtin "isinstance") (sIsi c):=by
 intro pins s σ H xs us Q I r h
 obtain ⟨Z,ds,M,Q2,hr,a,h,k⟩:=h
 match ds,a,h with
 | [x,.ty c'],a,h =>
  obtain ⟨rfl,h⟩:=h
  obtain ⟨t,ht,h⟩:=of_O h
  obtain ⟨b,hb,q⟩:=of_O h
  cases a with
  | cons a1 a2 =>
   cases a2 with
   | cons a2 a3 =>
    cases a3
    obtain ⟨u,w',rfl,r1,r2⟩:=vals2 r
    cases (show _=V.ty c' from a2)
    cases (show w'=Value.type c' from r2)
    exact isi_go I hr a1 r1 ht (isiD_ok _ hb) fun tk=>⟨.bl b,H,I.tok tk,rfl,k.b hr q⟩
inductive Cs:List Expr->List D->Prop where
 | nil:Cs [] []
 | int {i j pos es ds} (h:Cs es ds):Cs (.Constant (.int i) j pos::es) (.int i::ds)
 | str {i j pos es ds} (h:Cs es ds):Cs (.Constant (.str i) j pos::es) (.str i::ds)
def uCs (ds:List D):TA2:=fun _ M Q=>Q ds M
theorem qa_cs {es:List Expr}{ds:List D}(h:Cs es ds):PA2 X es (uCs ds):=by
 induction h with
 | nil=>exact PA.mono (qN (X:=X)) fun σ H Q ⟨Z,τ,M,Q2,st,hr,h,k⟩=>⟨Z,τ,M,Q2,st,hr,h,k⟩
 | int h ih=>exact PA.mono (qA (qint (X:=X)) ih rfl) fun σ H Q ⟨Z,τ,M,Q2,st,hr,h,k⟩=>⟨Z,τ,M,Q2,st,hr,h,k⟩
 | str h ih=>exact PA.mono (qA (qstr (X:=X)) ih rfl) fun σ H Q ⟨Z,τ,M,Q2,st,hr,h,k⟩=>⟨Z,τ,M,Q2,st,hr,h,k⟩
theorem ats_at {Z:Zt}{vs:List V}{ds:List D}(a:Ats Z vs ds) {i:Int}{d:D}(h:atI ds i=some d):∃ v,atI vs i=some v/\At Z v d:=by
 unfold atI at h ⊢
 rw [a.length]
 cases e:ixN ds.length i with
 | none=>rw [e] at h;cases h
 | some j =>
  rw [e] at h
  exact a.get h
def sIxT:R22:=fun x y M Q=>match x with
 | .tup xs=>onI y fun i=>onO (atI xs i) fun v=>Q v M
 | _=>False
def sIxL:R22:=fun x y M Q=>onO (lsOf M x) fun xs=>onI y fun i=>onO (atI xs i) fun v=>Q v M
theorem i_tup:IxR2 X sIxT:=IxR.mono ix_tup (by
 rintro x y H Q ⟨Z,dx,dy,M,Q2,hr,ax,ay,h,k⟩
 cases dx with
 | tup xs =>
  obtain ⟨i,rfl,h1⟩:=of_I h
  obtain ⟨v,e,q⟩:=of_O h1
  obtain ⟨p,vs,rfl,hs,a⟩:=hr.rdT ax
  obtain ⟨v',e',a'⟩:=ats_at a e
  exact ⟨p,vs,i,v',rfl,ay,hs,e',k.v hr a' q⟩
 | _=>exact h.elim)
theorem i_list:IxR2 X sIxL:=IxR.mono ix_list (by
 rintro x y H Q ⟨Z,dx,dy,M,Q2,hr,ax,ay,h,k⟩
 obtain ⟨xs,e0,h0⟩:=of_O h
 obtain ⟨i,rfl,h1⟩:=of_I h0
 obtain ⟨v,e,q⟩:=of_O h1
 obtain ⟨p,vs,rfl,hs,a⟩:=hr.rdL e0 ax
 obtain ⟨v',e',a'⟩:=ats_at a e
 exact ⟨p,vs,i,v',rfl,ay,hs,e',k.v hr a' q⟩)
def sIxS:R22:=fun x y M Q=>onS x fun z=>onI y fun i=>z.length<=sizeLine/\onO (atI z.cps.toList i) fun c=>Q (.str ⟨#[c]⟩) M
theorem i_str:IxR2 X sIxS:=IxR.mono ix_str (by
 rintro x y H Q ⟨Z,dx,dy,M,Q2,hr,ax,ay,h,k⟩
 obtain ⟨z,rfl,h1⟩:=of_S h
 obtain ⟨i,rfl,hz,h2⟩:=of_I h1
 obtain ⟨c,e,q⟩:=of_O h2
 exact ⟨z,i,c,ax,ay,hz,e,k.s hr q⟩)
def on1 (xs:List D) (k:D->Prop):Prop:=match xs with
 | [x]=>k x
 | _=>False
def on2 (xs:List D) (k:D->D->Prop):Prop:=match xs with
 | [x,y]=>k x y
 | _=>False
theorem of_1 {xs:List D}{k:D->Prop}(h:on1 xs k):∃ x,xs=[x]/\k x:=by
 match xs,h with
 | [x],h=>exact ⟨x,rfl,h⟩
theorem of_2 {xs:List D}{k:D->D->Prop}(h:on2 xs k):∃ x y,xs=[x,y]/\k x y:=by
 match xs,h with
 | [x,y],h=>exact ⟨x,y,rfl,h⟩
theorem ats1 {Z:Zt}{vs:List V}{d:D}(a:Ats Z vs [d]):∃ v,vs=[v]/\At Z v d:=by
 cases a with
 | cons a1 a2=>cases a2;exact ⟨_,rfl,a1⟩
theorem ats2 {Z:Zt}{vs:List V}{d e:D}(a:Ats Z vs [d,e]):∃ v w,vs=[v,w]/\At Z v d/\At Z w e:=by
 cases a with
 | cons a1 a2 =>
  obtain ⟨w,rfl,a3⟩:=ats1 a2
  exact ⟨_,w,rfl,a1,a3⟩
theorem c_len:CallR2 X (.builtin "len") (fun xs M Q=>on1 xs fun x=>onO (sqOf M x) fun ys=>Q (.int ys.length) M):=CallR.mono call_len_seq (by
 rintro xs H Q ⟨Z,ds,M,Q2,hr,a,h,k⟩
 obtain ⟨x,rfl,h1⟩:=of_1 h
 obtain ⟨ys,e,q⟩:=of_O h1
 obtain ⟨v,rfl,a1⟩:=ats1 a
 obtain ⟨p,vs,rfl,hs,a2⟩:=hr.rdS e a1
 exact ⟨p,vs,rfl,hs,by rw [a2.length];exact k.i hr q⟩)
theorem c_list:CallR2 X (.type "list") (fun xs M Q=>on1 xs fun x=>onO (sqOf M x) fun ys=>∀ p,M p=none->Q (.ref p) (put M p (.lst ys))):=CallR.mono call_list_of (by
 rintro xs H Q ⟨Z,ds,M,Q2,hr,a,h,k⟩
 obtain ⟨x,rfl,h1⟩:=of_1 h
 obtain ⟨ys,e,q⟩:=of_O h1
 obtain ⟨v,rfl,a1⟩:=ats1 a
 obtain ⟨p,vs,rfl,hs,a2⟩:=hr.rdS e a1
 exact ⟨p,vs,rfl,hs,fun l hl=>k.l hr hl a2 q⟩)
theorem c_max (hc:X.calm=true):CallR2 X (.builtin "max") (fun xs M Q=>on2 xs fun x y=>onI x fun i=>onI y fun j=>Q (.int (if j > i then j else i)) M):=CallR.mono (call_max2 hc) (by
 rintro xs H Q ⟨Z,ds,M,Q2,hr,a,h,k⟩
 obtain ⟨x,y,rfl,h1⟩:=of_2 h
 obtain ⟨i,rfl,h2⟩:=of_I h1
 obtain ⟨j,rfl,q⟩:=of_I h2
 obtain ⟨v,w,rfl,a1,a2⟩:=ats2 a
 cases (show v=V.int i from a1)
 cases (show w=V.int j from a2)
 exact ⟨i,j,rfl,k.i hr q⟩)
theorem c_min (hc:X.calm=true):CallR2 X (.builtin "min") (fun xs M Q=>on2 xs fun x y=>onI x fun i=>onI y fun j=>Q (.int (if j<i then j else i)) M):=CallR.mono (call_min2 hc) (by
 rintro xs H Q ⟨Z,ds,M,Q2,hr,a,h,k⟩
 obtain ⟨x,y,rfl,h1⟩:=of_2 h
 obtain ⟨i,rfl,h2⟩:=of_I h1
 obtain ⟨j,rfl,q⟩:=of_I h2
 obtain ⟨v,w,rfl,a1,a2⟩:=ats2 a
 cases (show v=V.int i from a1)
 cases (show w=V.int j from a2)
 exact ⟨i,j,rfl,k.i hr q⟩)
def cutD (xs:List D) (lo hi:Option Int):List D:=(xs.drop (HT.sIx xs.length 0 lo)).take (HT.sIx xs.length xs.length hi-HT.sIx xs.length 0 lo)
theorem Ats.cut {Z:Zt}{vs:List V}{ds:List D}(a:Ats Z vs ds) (lo hi:Option Int):Ats Z (cutV vs lo hi) (cutD ds lo hi):=by
 unfold cutV cutD
 rw [a.length]
 exact (a.drop _).take _
def sSlF:D->Option Int->Option Int->Mp->VK2->Prop:=fun x lo hi M Q=>onO (lsOf M x) fun xs=>Q (.lst (cutD xs lo hi)) M
theorem s_listF:SlR2 X sSlF:=SlR.mono sl_list (by
 rintro x lo hi H Q ⟨Z,d,M,Q2,hr,a,h,k⟩
 obtain ⟨xs,e,q⟩:=of_O h
 obtain ⟨p,vs,rfl,hs,a2⟩:=hr.rdL e a
 exact ⟨p,vs,rfl,hs,fun l hl=>k.f hr hl (a2.cut lo hi) q⟩)
end
section
variable {X:Cx}{st:Stmt}{rest:List Stmt}{t u:TS2}{e:Expr}{te:TE2}{pos:Pos}
def uNext:TS2:=fun D τ M=>D.nx τ M
def uSeq (t u:TS2):TS2:=fun D τ M=>t { D with nx:=u D } τ M
def uCut (t u:TS2):TS2:=fun D τ M=>∃ N:St2->Mp->Prop,t { D with nx:=N } τ M/\∀ τ' M',N τ' M'->u D τ' M'
theorem lS.nx {K:PySem.W.Frag}{Z:Zt}{σ:St}{τ:St2}{H:Hp}{M:Mp}{D2:Ends2}{D:Ends}(er:ER K Z D2 D) (st:StR Z σ τ) (hr:HR K H M Z) (h:D2.nx τ M):D.nx σ H:=er.nx Z σ τ H M (Le.refl _) st hr h
theorem qE:PSs2 X [] uNext:=PSs.mono pss_nil fun D σ H ⟨Z,τ,M,D2,st,hr,h,er⟩=>lS.nx er st hr h
theorem qC (h1:PS2 X st t) (h2:PSs2 X rest u):PSs2 X (st::rest) (uSeq t u):=PSs.mono (pss_cons h1 h2) (by
 rintro D σ H ⟨Z,τ,M,D2,st,hr,h,er⟩
 exact ⟨Z,τ,M,{ D2 with nx:=u D2 },st,hr,h,⟨fun Z1 σ1 τ1 H1 M1 l1 s1 h1 q1=>⟨Z1,τ1,M1,D2,s1,h1,q1,er.le l1⟩,er.rt,er.bk,er.ct⟩⟩)
theorem qss_cut (h1:PS2 X st t) (h2:PSs2 X rest u):PSs2 X (st::rest) (uCut t u):=PSs.mono (pss_cons h1 h2) (by
 rintro D σ H ⟨Z,τ,M,D2,st,hr,⟨N,h,hN⟩,er⟩
 exact ⟨Z,τ,M,{ D2 with nx:=N },st,hr,h,⟨fun Z1 σ1 τ1 H1 M1 l1 s1 h1 q1=>⟨Z1,τ1,M1,D2,s1,h1,hN τ1 M1 q1,er.le l1⟩,er.rt,er.bk,er.ct⟩⟩)
theorem qO (h1:PS2 X st t):PSs2 X [st] t:=pss_one h1
def uDrop (te:TE2):TS2:=fun D τ M=>te τ M fun _ M1=>D.nx τ M1
theorem qs_expr (he:PE2 X e te) (hs:swapsWith e none pos.line X.env=pure false:=by rfl):PS2 X (.Expr e pos) (uDrop te):=PS.mono (ps_expr he hs) (by
 rintro D σ H ⟨Z,τ,M,D2,st,hr,h,er⟩
 exact lE.bind st hr h fun Z1 x dx H1 M1 l1 h1 a1 q1=>lS.nx (er.le l1) (st.mono l1) h1 q1)
def uRet (te:TE2):TS2:=fun D τ M=>te τ M D.rt
theorem qs_ret (he:PE2 X e te):PS2 X (.Return (some e) pos) (uRet te):=PS.mono (ps_ret he) (by
 rintro D σ H ⟨Z,τ,M,D2,st,hr,h,er⟩
 exact ⟨Z,τ,M,D2.rt,st,hr,h,er.rt⟩)
def uIfS (c:TT2) (t u:TS2):TS2:=fun D τ M=>c τ M fun b M1=>if b=true then t D τ M1 else u D τ M1
theorem qs_if {c:Expr}{a b:List Stmt}{tc:TT2}(hc:PT2 X c tc) (ha:PSs2 X a t) (hb:PSs2 X b u):PS2 X (.If c a b pos) (uIfS tc t u):=PS.mono (ps_if hc ha hb) (by
 rintro D σ H ⟨Z,τ,M,D2,st,hr,h,er⟩
 refine lT.bind st hr h fun Z1 c H1 M1 l1 h1 q1=>?_
 cases c with
 | true=>rw [if_pos rfl] at q1 ⊢;exact ⟨Z1,τ,M1,D2,st.mono l1,h1,q1,er.le l1⟩
 | false=>rw [if_neg Bool.false_ne_true] at q1 ⊢;exact ⟨Z1,τ,M1,D2,st.mono l1,h1,q1,er.le l1⟩)
abbrev TG2:=D->St2->(St2->Prop)->Prop
def lG (K:PySem.W.Frag) (g:TG2):TG:=fun v σ H Q=>∃ Z τ M d Q2,StR Z σ τ/\HR K H M Z/\At Z v d/\g d τ (fun τ'=>Q2 τ' M)/\SKr K Z Q2 Q
@[irreducible] def PG2 (X:Cx) (tg:Expr) (g:TG2):Prop:=PG X tg (lG X.K g)
unseal PG2
theorem PG.mono {tg:Expr}{t t':TG}(h:PG X tg t) (m:∀ v σ H Q,t' v σ H Q->t v σ H Q):PG X tg t':=fun pins s σ H v u Q I r q=>h pins s σ H v u Q I r (m v σ H Q q)
def hName (i:Nat):TG2:=fun d τ k=>k (τ.set i (some d))
theorem qg_name {i:Nat}{x:Str}(hN:X.N.Nodup) (hi:X.N[i]? = some x) (hx:Loc X.env.scope x) (hf:X.fn x=true\/X.env.scope.names.lookup x=some .local:=by first | exact .inl rfl | exact .inr rfl | assumption):PG2 X (.Name x pos) (hName i):=PG.mono (pg_name hN hi hx hf) (by
 rintro v σ H Q ⟨Z,τ,M,d,Q2,st,hr,a,h,k⟩
 exact k Z _ _ H M (Le.refl _) (st.set a i) hr h)
def setAll:St2->List Nat->List D->St2
 | τ,i::is,x::xs=>setAll (τ.set i (some x)) is xs
 | τ,_,_=>τ
def gNames:List Nat->TGs
 | []=>gNil
 | i::is=>gCons (gName i) (gNames is)
theorem gNames_ok {K:PySem.W.Frag}{H:Hp}{M:Mp}{Z:Zt}{Q2:St2->Mp->Prop}{Q:St->Hp->Prop}(hr:HR K H M Z) (k:SKr K Z Q2 Q):∀ (is:List Nat) {vs:List V}{ds:List D}{σ:St}{τ:St2},Ats Z vs ds->StR Z σ τ->ds.length=is.length->Q2 (setAll τ is ds) M->gNames is vs σ H Q
 | [],vs,ds,σ,τ,a,st,hl,q=>by
  have e:ds=[]:=List.eq_nil_of_length_eq_zero hl
  subst e
  cases a
  exact ⟨rfl,k Z σ τ H M (Le.refl _) st hr (by unfold setAll at q;exact q)⟩
 | i::is,vs,[],σ,τ,a,st,hl,q=>by cases hl
 | i::is,vs,d::ds,σ,τ,a,st,hl,q=>by
  cases a with
  | cons a1 a2 =>
   exact ⟨_,_,rfl,gNames_ok hr k is a2 (st.set a1 i) (Nat.succ.inj hl) q⟩
def hTup (is:List Nat):TG2:=fun d τ k=>match d with
 | .tup xs=>xs.length=is.length/\k (setAll τ is xs)
 | _=>False
theorem qg_tup {es:List Expr}{k:Nat}{is:List Nat}(hc:X.calm=true) (h:PGs X es (gNames is))
  (hn:(assignEach es X.env).length=is.length:=by rfl) (hst:(assignEach es X.env).findIdx? (·.1)=none:=by rfl):PG2 X (.Tuple es k pos) (hTup is):=PG.mono (pg_tup hc h hn hst) (by
 rintro v σ H Q ⟨Z,τ,M,d,Q2,st,hr,a,h,k⟩
 cases d with
 | tup xs =>
  obtain ⟨hl,q⟩:=h
  obtain ⟨p,vs,rfl,hs,a2⟩:=hr.rdT a
  exact ⟨p,vs,rfl,hs,by rw [a2.length];exact hl,gNames_ok hr k is a2 st hl q⟩
 | _=>exact h.elim)
def uSet (i:Nat) (te:TE2):TS2:=fun D τ M=>te τ M fun x M1=>D.nx (τ.set i (some x)) M1
theorem lSet {K:PySem.W.Frag}{i:Nat}:∀ D σ H,lS K (uSet i te) D σ H->tAsg (lE K te) (gName i) D σ H:=by
 rintro D σ H ⟨Z,τ,M,D2,st,hr,h,er⟩
 exact lE.bind st hr h fun Z1 x dx H1 M1 l1 h1 a1 q1=>lS.nx (er.le l1) ((st.mono l1).set a1 i) h1 q1
theorem qs_set {i:Nat}{x:Str}{pos':Pos}(hN:X.N.Nodup) (hi:X.N[i]? = some x) (hx:Loc X.env.scope x) (he:PE2 X e te) (hs:swapsWith e (some (.Name x pos')) pos.line X.env=pure false:=by rfl) (hf:X.fn x=true\/X.env.scope.names.lookup x=some .local:=by first | exact .inl rfl | exact .inr rfl | assumption) :
  PS2 X (.Assign [.Name x pos'] e pos) (uSet i te):=PS.mono (ps_set hN hi hx he hs hf) lSet
def uFrz (te:TE2):TE2:=fun τ M Q=>te τ M fun d M1=>onR d fun p=>match M1 p with
 | some (.lst ds)=>Q (.lst ds) (del M1 p)
 | some (.dic ds)=>Q (.dic ds) (del M1 p)
 | some (.dct ds)=>Q (.dct ds) (del M1 p)
 | _=>False
theorem qfrz (h:PE2 X e te):PE2 X e (uFrz te):=PE.mono h (by
 rintro σ H Q ⟨Z,τ,M,Q2,st,hr,h,k⟩
 refine lE.bind st hr h fun Z1 x dx H1 M1 l1 h1 a1 q1=>?_
 obtain ⟨p,rfl,q⟩:=of_R q1
 cases (show x=V.ref p from a1)
 split at q
 ·next e=>exact k _ (.ref p) (.lst _) H1 _ (l1.trans Le.ext) (h1.frzL e) at_extL q
 ·next e=>exact k _ (.ref p) (.dic _) H1 _ (l1.trans Le.ext) (h1.frzD e) at_extD q
 ·next e=>exact k _ (.ref p) (.dct _) H1 _ (l1.trans Le.ext) (h1.frzDT e) at_extTD q
 ·exact q.elim)
def JOk (K:PySem.W.Frag) (J:It) (xs:List D) (S:Mp->Prop) (Z:Zt):Prop:=∀ i H M Z',Le Z Z'->HR K H M Z'->S M ->
 (∀ d,xs[i]? = some d->J.go i H/\∀ x H',J.yld i H x H'->∃ Z2,Le Z' Z2/\HR K H' M Z2/\At Z2 x d)/\(xs.length<=i->J.stop i H)
abbrev TI2:=St2->Mp->(List D->(Mp->Prop)->Mp->Prop)->Prop
def lI (K:PySem.W.Frag) (t:TI2):TI:=fun σ H R=>∃ Z τ M R2,StR Z σ τ/\HR K H M Z/\t τ M R2/\∀ Z' J xs S H' M',Le Z Z'->HR K H' M' Z'->JOk K J xs S Z'->R2 xs S M'->R J H'
@[irreducible] def PI2 (X:Cx) (tg iter:Expr) (t:TI2):Prop:=PI X tg iter (lI X.K t)
unseal PI2
theorem PI.mono {tg iter:Expr}{t t':TI}(h:PI X tg iter t) (m:∀ σ H R,t' σ H R->t σ H R):PI X tg iter t':=fun pins s σ H R I q=>h pins s σ H R I (m σ H R q)
def wList (te:TE2):TI2:=fun τ M R=>te τ M fun x M1=>onO (lsOf M1 x) fun xs=>R xs (fun M=>lsOf M x=some xs) M1
theorem qi_list {tg l:Expr}{tl:TE2}(hl:PE2 X l tl):PI2 X tg l (wList tl):=PI.mono (pi_list hl) (by
 rintro σ H R ⟨Z,τ,M,R2,st,hr,h,k⟩
 refine lE.bind st hr h fun Z1 v d H1 M1 l1 h1 a1 q1=>?_
 obtain ⟨xs,e,q⟩:=of_O q1
 obtain ⟨p,vs,rfl,hs,a2⟩:=h1.rdL e a1
 refine ⟨p,rfl,⟨vs,hs⟩,k Z1 _ xs _ H1 M1 l1 h1 (fun i H M Z' l hr s=>?_) q⟩
 obtain ⟨p',ws,e2,hs2,a3⟩:=hr.rdL s (a1.mono l)
 cases e2
 refine ⟨fun d hd=>?_,fun hi=>⟨ws,hs2,by rw [a3.length];exact hi⟩⟩
 obtain ⟨v,hv,av⟩:=a3.get hd
 refine ⟨⟨ws,v,hs2,hv⟩,fun x H' y=>?_⟩
 obtain ⟨rfl,y⟩:=y
 have:=y ws hs2
 rw [hv] at this
 cases this
 exact ⟨Z',Le.refl _,hr,av⟩)
def rngD (lo:Int) (n:Nat):List D:=(List.range n).map fun k=>.int (lo+(k:Nat))
theorem rng_get {lo:Int}{n i:Nat}{d:D}(h:(rngD lo n)[i]? = some d):i<n/\d=.int (lo+(i:Nat)):=by
 unfold rngD at h
 rw [List.getElem?_map] at h
 by_cases hi:i<n
 ·rw [List.getElem?_range hi] at h
  exact ⟨hi,(Option.some.inj h).symm⟩
 ·rw [List.getElem?_eq_none_iff.mpr (by rw [List.length_range];omega)] at h
  cases h
theorem rng_len (lo:Int) (n:Nat):(rngD lo n).length=n:=by unfold rngD;rw [List.length_map,List.length_range]
theorem jok_range {K:PySem.W.Frag}{Z:Zt}(lo:Int) (n:Nat):JOk K (Itr lo n) (rngD lo n) (fun _=>True) Z:=fun i H M Z' l hr s=>by
 refine ⟨fun d hd=>?_,fun hi=>by rw [rng_len] at hi;exact hi⟩
 obtain ⟨hi,rfl⟩:=rng_get hd
 refine ⟨hi,fun x H' y=>?_⟩
 obtain ⟨rfl,rfl⟩:=y
 exact ⟨Z',Le.refl _,hr,rfl⟩
def wRng1 (t:TA2):TI2:=fun τ M R=>t τ M fun xs M1=>on1 xs fun x=>onI x fun j=>(-(2^62)<=j/\j<2^62)/\R (rngD 0 j.toNat) (fun _=>True) M1
theorem qi_range1 {tg a:Expr}{ta:TA2}{p pos:Pos}(hm:X.mg "range" = none) (ha:PA2 X [a] ta) (hg:Gl X "range":=by rfl) (hs:starEach [a] X.env=[(false,eval a X.env)]:=by rfl) :
  PI2 X tg (.Call (.Name "range" p) [a] [] pos) (wRng1 ta):=PI.mono (pi_range1 hg hm ha hs) (by
 rintro σ H R ⟨Z,τ,M,R2,st,hr,h,k⟩
 refine ⟨Z,τ,M,_,st,hr,h,fun Z1 vs ds H1 M1 l1 h1 a1 q1=>?_⟩
 obtain ⟨x,rfl,q⟩:=of_1 q1
 obtain ⟨j,rfl,⟨b1,b2⟩,q⟩:=of_I q
 obtain ⟨v,rfl,a2⟩:=ats1 a1
 cases (show v=V.int j from a2)
 exact ⟨j,rfl,b1,b2,k Z1 _ _ _ H1 M1 l1 h1 (jok_range _ _) q⟩)
def Loop (xs:List D) (S:Mp->Prop) (g:TG2) (tb:TS2) (D:Ends2) (τ:St2) (M:Mp):Prop:=∃ Pv:Nat->St2->Mp->Prop,Pv 0 τ M/\(∀ k τ M,Pv k τ M->S M) /\
 (∀ k x τ M,xs[k]? = some x->Pv k τ M->g x τ fun τ'=>tb { D with nx:=Pv (k+1),ct:=Pv (k+1),bk:=D.nx } τ' M)/\∀ τ M,Pv xs.length τ M->D.nx τ M
def uFor (ti:TI2) (g:TG2) (tb:TS2):TS2:=fun D τ M=>ti τ M fun xs S M1=>Loop xs S g tb D τ M1
theorem qs_for {tg iter:Expr}{body:List Stmt}{wi:TI2}{g:TG2}{tb:TS2}(hp:PassesOwn (model X.prog X.w) X.A X.env X.xe) (hc:X.calm=true) (hi:PI2 X tg iter wi) (hg:PG2 X tg g) (hb:PSs2 X body tb)
  (hs:∀ x,foldedSetIterable iter X.env x=pure x:=by intro _;rfl):PS2 X (.For tg iter body [] pos) (uFor wi g tb):=PS.mono (ps_for hp hc hi hg hb hs) (by
 rintro D σ H ⟨Z,τ,M,D2,st,hr,h,er⟩
 refine ⟨Z,τ,M,_,st,hr,h,fun Z1 J xs S H1 M1 l1 h1 jk ⟨Pv,p0,stay,turn,done⟩=>?_⟩
 refine ⟨fun i m σ H=>m=xs.length-i/\i<=xs.length/\∃ Z2 τ2 M2,Le Z1 Z2/\StR Z2 σ τ2/\HR X.K H M2 Z2/\Pv i τ2 M2,⟨xs.length,by simp,Nat.zero_le _,Z1,τ,M1,Le.refl _,st.mono l1,h1,p0⟩,?_⟩
 rintro i m σ2 H2 ⟨rfl,hi,Z2,τ2,M2,l2,s2,h2,p2⟩
 obtain ⟨go,stop⟩:=jk i H2 M2 Z2 l2 h2 (stay i τ2 M2 p2)
 by_cases hlt:i<xs.length
 ·obtain ⟨g1,g2⟩:=go _ (List.getElem?_eq_getElem hlt)
  refine .inr ⟨g1,fun σ' H'=>∃ Z3 τ3 M3,Le Z1 Z3/\StR Z3 σ' τ3/\HR X.K H' M3 Z3/\Pv (i+1) τ3 M3,fun σ' H' n=>⟨xs.length-(i+1),by omega,rfl,hlt,n⟩,fun x H' y=>?_⟩
  obtain ⟨Z5,l5,h5,a⟩:=g2 x H' y
  have tk:=turn i _ τ2 M2 (List.getElem?_eq_getElem hlt) p2
  have l2:=l2.trans l5
  refine ⟨Z5,τ2,M2,_,fun τ' M'=>tb { D2 with nx:=Pv (i+1),ct:=Pv (i+1),bk:=D2.nx } τ' M',s2.mono l5,h5,a,tk,fun Z3 σ3 τ3 H3 M3 l3 s3 h3 q3=>?_⟩
  have k:SKr X.K Z3 (Pv (i+1)) fun σ' H'=>∃ Z3 τ3 M3,Le Z1 Z3/\StR Z3 σ' τ3/\HR X.K H' M3 Z3/\Pv (i+1) τ3 M3:=fun Z4 σ4 τ4 H4 M4 l4 s4 h4 q4=>⟨Z4,τ4,M4,l2.trans (l3.trans l4),s4,h4,q4⟩
  have er3:=er.le (l1.trans (l2.trans l3))
  exact ⟨Z3,τ3,M3,_,s3,h3,q3,⟨k,er3.rt,er3.nx,k⟩⟩
 ·have e:i=xs.length:=by omega
  subst e
  exact .inl ⟨stop (Nat.le_refl _),lS.nx (er.le (l1.trans l2)) s2 h2 (done τ2 M2 p2)⟩)
end
end L3
namespace L3
open PySem PySem.Spec PyProof.Rows L2
unseal PE2 PT2 PW2 PA2 PO2 PS2 PSs2 OpR2 UnR2 CallR2 IxR2 SlR2 PG2 PI2
section
variable {X:Cx}{e:Expr}{te:TE2}{pos:Pos}
def cap2 (τ:St2) (caps:List (Str×Nat)) (v:Option D):St2:=v::caps.map fun c=>(τ[c.2]?).join
theorem StR.join {Z:Zt}{σ:St}{τ:St2}(h:StR Z σ τ) (i:Nat):OA Z (σ[i]?).join (τ[i]?).join:=by
 cases e:(τ[i]?).join with
 | none=>cases (σ[i]?).join<;>exact True.intro
 | some d =>
  obtain ⟨v,h1,h2⟩:=h.get (Option.join_eq_some_iff.mp e)
  rw [h1]
  exact h2
theorem StR.cap {Z:Zt}{σ:St}{τ:St2}(h:StR Z σ τ) (caps:List (Str×Nat)) {x:V}{d:D}(a:At Z x d):StR Z (capSt σ caps (some x)) (cap2 τ caps (some d)):=by
 refine .cons a ?_
 induction caps with
 | nil=>exact .nil
 | cons c r ih=>exact .cons (h.join c.2) ih
def uTrue:TT2:=fun _ M Q=>Q true M
def Comp (xs:List D) (S:Mp->Prop) (caps:List (Str×Nat)) (tt:TT2) (te:TE2) (τ:St2) (M:Mp) (Q:List D->Mp->Prop):Prop:=xs.length<=sizeLine/\∃ W:Nat->List D->Mp->Prop,W 0 [] M/\(∀ i ys M,W i ys M->S M/\ys.length<=i) /\
 (∀ i x ys M,xs[i]? = some x->W i ys M->tt (cap2 τ caps (some x)) M fun b M2=>if b=true then te (cap2 τ caps (some x)) M2 fun y M3=>W (i+1) (ys++[y]) M3 else W (i+1) ys M2)/\∀ ys M,W xs.length ys M->Q ys M
def uCompF (wi:TI2) (caps:List (Str×Nat)) (tt:TT2) (te:TE2):TE2:=fun τ M Q=>wi τ M fun xs S M1=>Comp xs S caps tt te τ M1 fun ys M2=>Q (.lst ys) M2
theorem comp_core {K:PySem.W.Frag}{tt1:TT}{caps:List (Str×Nat)}{tt:TT2}{te:TE2}{wi:TI2}{σ:St}{H:Hp}{Q:VK}{Z:Zt}{τ:St2}{M:Mp}{QL:List D->Mp->Prop}(st:StR Z σ τ) (hr:HR K H M Z) (h:wi τ M fun xs S M1=>Comp xs S caps tt te τ M1 QL)
  (ht:∀ σ H Q,lT K tt σ H Q->tt1 σ H Q)
  (k:∀ Z1 H1 M1 vs ds,Le Z Z1->HR K H1 M1 Z1->Ats Z1 vs ds->QL ds M1->∀ p,H1 p=none->Q (.ref p) (upd H1 p (.lst vs))):tComp (lI K wi) caps tt1 (lE K te) σ H Q:=by
 refine ⟨Z,τ,M,_,st,hr,h,fun Z1 J xs S H1 M1 l1 h1 jk ⟨hz,W,w0,stay,turn,done⟩=>?_⟩
 refine ⟨xs.length,fun i vs H=>i<=xs.length/\∃ Z2 M2 ds,Le Z1 Z2/\HR K H M2 Z2/\Ats Z2 vs ds/\W i ds M2,⟨Nat.zero_le _,Z1,M1,[],Le.refl _,h1,.nil,w0⟩,?_⟩
 rintro i vs H2 ⟨hi,Z2,M2,ds,l2,h2,a2,w2⟩
 obtain ⟨s2,hl⟩:=stay i ds M2 w2
 obtain ⟨go,stop⟩:=jk i H2 M2 Z2 l2 h2 s2
 have la:=a2.length
 by_cases hlt:i<xs.length
 ·obtain ⟨g1,g2⟩:=go _ (List.getElem?_eq_getElem hlt)
  refine .inr ⟨g1,hlt,by omega,fun x H' y=>?_⟩
  obtain ⟨Z5,l5,h5,a⟩:=g2 x H' y
  have tk:=turn i _ ds M2 (List.getElem?_eq_getElem hlt) w2
  have l2:=l2.trans l5
  have a2:=a2.mono l5
  refine ht _ _ _ (lT.bind ((st.mono (l1.trans l2)).cap caps a) h5 tk fun Z3 b H3 M3 l3 h3 q3=>?_)
  cases b with
  | false =>
   rw [if_neg Bool.false_ne_true] at q3 ⊢
   exact ⟨hlt,Z3,M3,ds,l2.trans l3,h3,a2.mono l3,q3⟩
  | true =>
   rw [if_pos rfl] at q3 ⊢
   refine lE.bind (((st.mono (l1.trans l2)).cap caps a).mono l3) h3 q3 fun Z4 z dz H4 M4 l4 h4 a4 q4=>?_
   exact ⟨hlt,Z4,M4,ds++[dz],l2.trans (l3.trans l4),h4,(a2.mono (l3.trans l4)).append (.cons a4 .nil),q4⟩
 ·have e:i=xs.length:=by omega
  subst e
  exact .inl ⟨stop (Nat.le_refl _),by omega,k Z2 H2 M2 vs ds (l1.trans l2) h2 a2 (done ds M2 w2)⟩
theorem lTrue {K:PySem.W.Frag}:∀ σ H Q,lT K uTrue σ H Q->tTrue σ H Q:=fun σ H Q ⟨Z,τ,M,Q2,st,hr,h,k⟩=>k Z true H M (Le.refl _) hr h
theorem lCompF {K:PySem.W.Frag}{tt1:TT}{caps:List (Str×Nat)}{tt:TT2}{wi:TI2}(ht:∀ σ H Q,lT K tt σ H Q->tt1 σ H Q):∀ σ H Q,lE K (uCompF wi caps tt te) σ H Q->tComp (lI K wi) caps tt1 (lE K te) σ H Q:=by
 rintro σ H Q ⟨Z,τ,M,Q2,st,hr,h,k⟩
 exact comp_core st hr h ht fun Z1 H1 M1 vs ds l1 h1 a1 q p hp=>(k.le l1).f h1 hp a1 q
variable {scope:Scope}{x:Str}{px:Pos}{caps:List (Str×Nat)}{elt iter c:Expr}{tt:TT2}{wi:TI2}
theorem qcompF (B:BlkOk X scope x caps) (hc:X.calm=true) (hi:PI2 X (.Name x px) iter wi) (he:∀ cl C fp pn s H,PE2 (blk X scope cl C (x::caps.map (·.1)) fp pn s H) elt te)
  (hs:∀ x,foldedSetIterable iter X.env x=pure x:=by intro _;rfl):PE2 X (.ListComp elt [⟨.Name x px,iter,[],0⟩] scope pos) (uCompF wi caps uTrue te):=PE.mono (pe_comp (te:=lE X.K te) B hc hi he (fun _ _ _ _ _ _=>PIfs.nil) hs) (lCompF lTrue)
section
variable {i:Nat}{y:Str}{py spos:Pos}
variable (hN:X.N.Nodup) (hi0:X.N[i]? = some y) (hy:X.env.scope.names.lookup y=some .local) (B:BlkOk X scope x caps) (hc:X.calm=true) (hi:PI2 X (.Name x px) iter wi) (he:∀ cl C fp pn s H,PE2 (blk X scope cl C (x::caps.map (·.1)) fp pn s H) elt te)
end
def lM (K:PySem.W.Frag) (r:D->List D->Mp->VK2->Prop):V->List V->Hp->VK->Prop:=fun x xs H Q=>∃ Z d ds M Q2,HR K H M Z/\At Z x d/\Ats Z xs ds/\r d ds M Q2/\VKr K Z Q2 Q
@[irreducible] def MtR2 (X:Cx) (id:String) (r:D->List D->Mp->VK2->Prop):Prop:=MtR X id (lM X.K r)
unseal MtR2
theorem MtR.mono {id:String}{r r':V->List V->Hp->VK->Prop}(h:MtR X id r) (m:∀ x xs H Q,r' x xs H Q->r x xs H Q):MtR X id r':=fun pins s σ H x xs v us Q I rx r q=>h pins s σ H x xs v us Q I rx r (m x xs H Q q)
def uBM (T:String) (r:D->List D->Mp->VK2->Prop) (to:TE2) (t:TA2):TE2:=fun τ M Q=>to τ M fun x M1=>tyD M1 x=some T/\t τ M1 fun xs M2=>r x xs M2 Q
theorem tyD_tyV {K:PySem.W.Frag}{H:Hp}{M:Mp}{Z:Zt}{T:String}{v:V}{d:D}(hr:HR K H M Z) (a:At Z v d) (h:tyD M d=some T) (hT:T = "list"\/T = "int"\/T = "str"):tyV K T v H:=by
 cases d with
 | int i=>cases h;cases (show v=V.int i from a);rfl
 | str i=>cases h;cases (show v=V.str i from a);rfl
 | lst ds =>
  cases h
  obtain ⟨p,vs,rfl,hs,_⟩:=hr.rdF a
  exact .inl ⟨rfl,vs,hs⟩
 | dic ds=>cases h;rcases hT with h | h | h<;>exact absurd h (by decide)
 | dct ds=>cases h;rcases hT with h | h | h<;>exact absurd h (by decide)
 | ref p =>
  cases (show v=.ref p from a)
  unfold tyD at h
  simp only at h
  split at h
  ·next q =>
   cases h
   obtain ⟨vs,r,_⟩:=hr.rdM q
   exact .inl ⟨rfl,vs,SqL.of r⟩
  ·next q =>
   cases h
   rcases hT with h|h|h<;>exact absurd h (by decide)
  ·next q =>
   cases h
   rcases hT with h|h|h<;>exact absurd h (by decide)
  ·cases h
 | non=>cases h;rcases hT with h | h | h<;>exact absurd h (by decide)
 | bl _=>cases h;rcases hT with h | h | h<;>exact absurd h (by decide)
 | tup _=>cases h;rcases hT with h | h | h<;>exact absurd h (by decide)
 | ty _=>cases h
theorem qbm {T id:String}{name:Str}{r:D->List D->Mp->VK2->Prop}{o e:Expr}{es:List Expr}{to:TE2}{t:TA2}{apos cpos:Pos}(pa:PlainAttrs T) (slot:Slot T name id) (hty:typeOf (.builtin id)=pure (.type "method_descriptor")) (hm:MtR2 X id r) (ho:PE2 X o to) (ha:PA2 X (e::es) t)
  (hT:T = "list"\/T = "int"\/T = "str":=by decide)
  (hbase:attributeBase o name X.env (eval o X.env)=eval o X.env:=by rfl)
  (hfew:((backTo cpos (starEach (e::es) X.env)).all (fun x=>!x.1) && (backToKw cpos (keywordEach [] X.env)).all (fun x=>x.1.isSome)
   && decide ((e::es).length+([]:List Keyword).length+(if ([]:List Keyword).isEmpty then 0 else 1)<30))=true:=by rfl)
  (hline:(apos.endLine == cpos.line)=true:=by rfl) (hs:starEach (e::es) X.env=(false,eval e X.env)::starEach es X.env:=by rfl) (hplain:(backTo cpos (starEach es X.env)).any (·.1)=false:=by rfl) :
  PE2 X (.Call (.Attribute o name apos) (e::es) [] cpos) (uBM T r to t):=PE.mono (pe_bm pa slot hty hm ho ha hbase hfew hline hs hplain) (by
 rintro σ H Q ⟨Z,τ,M,Q2,st,hr,h,k⟩
 refine lE.bind st hr h fun Z1 x dx H1 M1 l1 h1 a1 q1=>⟨tyD_tyV h1 a1 q1.1 hT,Z1,τ,M1,_,st.mono l1,h1,q1.2,fun Z2 vs ds H2 M2 l2 h2 a2 q2=>?_⟩
 exact ⟨Z2,dx,ds,M2,Q2,h2,a1.mono l2,a2,q2,k.le (l1.trans l2)⟩)
def sAppend:D->List D->Mp->VK2->Prop:=fun x xs M Q=>onR x fun p=>on1 xs fun y=>match M p with
 | some (.lst ys)=>ys.length<sizeLine/\Q .non (put M p (.lst (ys++[y])))
 | _=>False
theorem m_append:MtR2 X "list.append" sAppend:=MtR.mono mt_append (by
 rintro x xs H Q ⟨Z,d,ds,M,Q2,hr,a,as,h,k⟩
 obtain ⟨p,rfl,h1⟩:=of_R h
 obtain ⟨y,rfl,h2⟩:=of_1 h1
 cases (show x=V.ref p from a)
 obtain ⟨v,rfl,av⟩:=ats1 as
 split at h2
 ·next ys e =>
  obtain ⟨hl,q⟩:=h2
  obtain ⟨vs,r,a2⟩:=hr.rdM e
  refine ⟨p,vs,v,rfl,rfl,r,by rw [a2.length];exact hl,?_⟩
  exact k Z .non .non _ _ (Le.refl _) (hr.chgL e (a2.append (.cons av .nil))) rfl q
 ·exact h2.elim)
def Dn (Q:VK2):VK2:=fun d M=>∃ M0,Sub M0 M/\Q d M0
theorem Dn.of {Q:VK2}{d:D}{M:Mp}(h:Q d M):Dn Q d M:=⟨M,Sub.refl _,h⟩
def start2 (N:List Str) (ds:List D):St2:=ds.map some++List.replicate (N.length-ds.length) none
def startL:List Str->List D->St2
 | [],_=>[]
 | _::N,[]=>none::startL N []
 | _::N,d::ds=>some d::startL N ds
theorem startL_eq:∀ {N:List Str}{ds:List D},ds.length<=N.length->startL N ds=start2 N ds
 | [],[],_=>rfl
 | [],d::ds,h=>by simp at h
 | n::N,[],_=>by
  unfold startL
  rw [startL_eq (Nat.zero_le _)]
  simp [start2,List.replicate_succ]
 | n::N,d::ds,h=>by
  unfold startL
  rw [startL_eq (by simpa using h)]
  simp [start2]
theorem start_rel {Z:Zt}{N:List Str}{vs:List V}{ds:List D}(a:Ats Z vs ds):StR Z (L2.start N vs) (start2 N ds):=by
 unfold L2.start start2
 rw [a.length]
 have tail:∀ n,StR Z (List.replicate n none) (List.replicate n none):=fun n=>by
  induction n with
  | zero=>exact .nil
  | succ n ih=>exact .cons True.intro ih
 generalize N.length-ds.length=n
 induction a with
 | nil=>exact tail n
 | cons r _ ih=>exact .cons r ih
end
section
variable {P:Program}{w:World}{K:PySem.W.Frag}{mg:Str->Option Value}{base:Heap}
theorem Fun.ok2 {x qual:Str}{st:Stmt}{f:Addr}{fd:FuncData}{N ps:List Str}{k:Nat}{sp:Sp2}(F:Fun K x qual st f fd) (S:FnScope N ps (dfS st)) (len:∀ ds M Q,sp ds M Q->ds.length=ps.length)
  (hbody:∀ (cdv:Value) (A:Around) (outer:List Env) (s:Shared) (H:Hp) (E:XK) (ds:List D) (M:Mp) (Q:VK2),Room k (A.deeper (envOfC qual (dfS st) s.heap.objs.size f cdv))->sp ds M Q ->
   ∃ t:TS2,PSs2 (cxOf CX0 P w K mg base N qual (dfS st) f cdv A outer s H E).nox (dfB st) t/\t { nx:=fun _ M'=>Dn Q .non M',rt:=Dn Q } (startL N ds) M):FnOk P w K mg base CX0 (k+1) f fd ps (lSp K sp):=by
 refine F.ok S (fun vs H Q E h=>?_) fun cdv A outer s H vs Q E hr h=>?_
 ·obtain ⟨Z,ds,M,Q2,_,a,h,_⟩:=h
  rw [a.length]
  exact len ds M Q2 h
 ·obtain ⟨Z,ds,M,Q2,hR,a,h,k'⟩:=h
  obtain ⟨t,ht,q⟩:=hbody cdv A outer s H E ds M Q2 hr h
  have hpl:ps.length<=N.length:=by have:=congrArg List.length S.pre;rw [List.length_take] at this;omega
  rw [startL_eq (by rw [len ds M Q2 h];exact hpl)] at q
  refine ⟨_,ht,Z,start2 N ds,M,_,start_rel a,hR,q,?_⟩
  refine ⟨fun Z1 σ τ H1 M1 l1 s1 h1 q1=>?_,k'.dn,fun _ _ _ _ _ _ _ _ q=>q.elim,fun _ _ _ _ _ _ _ _ q=>q.elim⟩
  exact (k'.dn.le l1).n h1 q1
def spLaw2:Sp2:=fun ds M Q=>∃ ns:List Int,ds=[.lst (ns.map D.int)]/\ns.length<=63/\∀ M',Q (.bl true) M'
theorem ats_ints (Z:Zt) (ns:List Int):Ats Z (ns.map V.int) (ns.map D.int):=by
 induction ns with
 | nil=>exact .nil
 | cons n r ih=>exact .cons rfl ih
theorem law_in {K:PySem.W.Frag}{H:Hp}{a:Addr}{ns:List Int}{E:XK}(hl:ns.length<=63) (hS:SqL K H a (ns.map V.int)):lSp K spLaw2 [.ref a] H (fun v _=>v=.bl true) E:=by
 refine ⟨fun b d=>b=a/\d=.lst (ns.map D.int),[.lst (ns.map D.int)],fun _=>none,fun d _=>d=.bl true,⟨fun p d z=>?_,fun p o e=>nomatch e⟩,.cons ⟨a,rfl,rfl,rfl⟩ .nil,⟨ns,rfl,hl,fun _=>rfl⟩,fun Z' v d H' M' _ _ at' q=>?_⟩
 ·obtain ⟨rfl,rfl⟩:=z
  rcases hS with r|r
  ·exact .inl ⟨_,r,ats_ints _ ns⟩
  ·exact .inr ⟨_,r,ats_ints _ ns⟩
 ·subst q
  exact at'
theorem walk2 {l:PySem.W.OpenLaw}{k:Nat}{q:Program}{loose:List Str}{XP:(Str->Option Value)->Heap->Prop}{YP:World->Heap->Prop}{d:DefRec}{K:Params->PySem.W.Frag}(hn:l.most=some 63) (hdf:d.params.defaults=[]) (hr:Room k callerA)
  (hY:∀ (w:World) (h:Heap),YP w h->(K w.params).In h)
  (F:∀ (w:World) (mg:Str->Option Value) (fa:Addr) (h:Heap),(K w.params).In h->h.Ns mainGlobals mg->mg d.name=some (.ref fa) ->
   ∃ fd:FuncData,(∀ (s:Shared) (u:Value),BindsTo s fd ⟨[u],[]⟩ [("script",u)])/\∀ base:Heap,(K w.params).In base->base.Ns mainGlobals mg->FnOk l.prog w (K w.params) mg base CX0 k fa fd ["script"] (lSp (K w.params) spLaw2)) :
  PySem.W.WalkO q loose XP YP l.row.toRowW d [] (fun f vs=>PySem.call f vs) :=
 L2.walk_of (n:=63) (k:=k) (x:="script") (CX:=fun _=>CX0) (sp:=fun w=>lSp (K w.params) spLaw2) hn (by decide) hdf hr hY F (fun _ _ a ns hl _ hS=>law_in hl hS) fun _ _ _ _ _ z=>z
end
end L3
namespace L3
open PySem PySem.Spec PyProof.Rows L2
unseal PE2 PT2 PW2 PA2 PO2 PS2 PSs2 OpR2 UnR2 CallR2 IxR2 SlR2 PG2 PI2 MtR2
section
variable {X:Cx}
theorem cat_core {pins:List (Addr×Obj)}{σ:St}{H:Hp}{s:Shared}{p p':Addr}{vs ws:List V}{Q:VK}(I:Inv X pins σ H s) (h1:SqL X.K H p vs) (h2:SqL X.K H p' ws) (hz:vs.length+ws.length<=sizeLine)
  (q:∀ l,H l=none->Q (.ref l) (upd H l (.lst (vs++ws)))):wpAny (model X.prog X.w) X.A (binaryOp .Add (.ref p) (.ref p')) (EP X pins σ Q) X.xe s:=by
 obtain ⟨its,r1,l1,_⟩:=I.list h1
 obtain ⟨its2,r2,l2,_⟩:=I.list h2
 have n1:=r1.length
 have n2:=r2.length
 obtain ⟨⟨cls,dd,data,sl⟩,ho,hc,n,hd⟩:=l1.isList
 obtain ⟨⟨cls2,dd2,data2,sl2⟩,ho2,hc2,n2',hd2⟩:=l2.isList
 simp only at hc hd hc2 hd2
 subst hc hd hc2 hd2
 refine concat_meets ⟨_,ho,rfl⟩ ⟨_,ho2,rfl⟩ noFill_list_add seq_list_add PySem.F.slot_list_add PySem.F.entry_list_add (PySem.F.args_list_add_2 _ _) (list_addW p p' its.toArray its2.toArray n n2' dd dd2 sl sl2 (by simp;omega)) ⟨ho,ho2,?_⟩
 have e:its.toArray++its2.toArray=(its++its2).toArray:=by simp
 rw [e]
 exact ⟨.ref _,_,I.lnew (t':=s.toks) (r1.append r2) (by rw [List.length_append];omega),rfl,q _ I.fresh⟩
def sCatF:R22:=fun x y M Q=>onO (lsOf M x) fun xs=>onO (lsOf M y) fun ys=>xs.length+ys.length<=sizeLine/\Q (.lst (xs++ys)) M
theorem o_catF:OpR2 X (binaryOp .Add) sCatF:=by
 intro pins s σ H x y v u Q I rx ry h
 obtain ⟨Z,dx,dy,M,Q2,hr,ax,ay,h,k⟩:=h
 obtain ⟨xs,e1,h1⟩:=of_O h
 obtain ⟨ys,e2,hz,q⟩:=of_O h1
 obtain ⟨p,vs,rfl,hs,a⟩:=hr.rdL e1 ax
 obtain ⟨p',ws,rfl,hs',a'⟩:=hr.rdL e2 ay
 cases (show v=Value.ref p from rx)
 cases (show u=Value.ref p' from ry)
 have l1:=a.length
 have l2:=a'.length
 exact cat_core I hs hs' (by omega) fun l hl=>k.f hr hl (a.append a') q
def cmpL (f:D->D->Option Bool):List D->List D->Option Bool
 | [],[]=>some true
 | [],_::_=>some false
 | _::_,[]=>some false
 | x::xs,y::ys=>match f x y,cmpL f xs ys with
  | some a,some b=>some (a && b)
  | _,_=>none
def cmpD (M:Mp):Nat->D->D->Option Bool
 | 0,x,y=>if flatD x && flatD y then some (eqF x y) else none
 | n+1,x,y=>if flatD x && flatD y then some (eqF x y) else match x,y with
  | .tup xs,.tup ys=>cmpL (cmpD M n) xs ys
  | x,y=>match lsOf M x,lsOf M y with
   | some xs,some ys=>cmpL (cmpD M n) xs ys
   | _,_=>none
theorem eqF_V {Z:Zt}{x y:V}{d e:D}(ax:At Z x d) (ay:At Z y e) (f1:flatD d=true) (f2:flatD e=true):flatV x=true/\flatV y=true/\eqV x y=eqF d e:=by
 cases d<;>first
  | exact absurd f1 Bool.false_ne_true
  | (cases e<;>first
    | exact absurd f2 Bool.false_ne_true
    | (subst ax;subst ay;refine ⟨rfl,rfl,?_⟩;simp [eqV,eqF,Bool.beq_eq_decide_eq]))
theorem cmpL_all {f:D->D->Option Bool}:∀ {xs ys:List D}{b:Bool},cmpL f xs ys=some b->∃ e:Nat->Bool,(∀ (j:Nat) x y,xs[j]? = some x->ys[j]? = some y->f x y=some (e j)) /\
  ((List.range (min xs.length ys.length)).all e && xs.length == ys.length)=b
 | [],[],b,h=>⟨fun _=>true,fun j x y h=>by simp at h,by cases h;rfl⟩
 | [],y::ys,b,h=>⟨fun _=>true,fun j x y h=>by simp at h,by cases h;simp⟩
 | x::xs,[],b,h=>⟨fun _=>true,fun j x y _ h=>by simp at h,by cases h;simp⟩
 | x::xs,y::ys,b,h=>by
  unfold cmpL at h
  split at h
  ·next a c ha hc =>
   cases h
   obtain ⟨e,he,hb⟩:=cmpL_all hc
   refine ⟨fun j=>match j with | 0=>a | j+1=>e j,fun j x' y' h1 h2=>?_,?_⟩
   ·cases j with
    | zero =>
     have e1:x=x':=by simpa using h1
     have e2:y=y':=by simpa using h2
     rw [<- e1,<- e2]
     exact ha
    | succ j=>exact he j x' y' (by simpa using h1) (by simpa using h2)
   ·rw [List.length_cons,List.length_cons,Nat.succ_min_succ,List.range_succ_eq_map,List.all_cons,List.all_map,<- hb]
    have:((fun j=>match j with | 0=>a | j+1=>e j) ∘ Nat.succ:Nat->Bool)=e:=rfl
    rw [this,Bool.and_assoc]
    congr 2
    simp
  ·cases h
theorem nth_of {us:List Value}{vs:List V}{ds:List D}{Z:Zt}(r:Vals vs us) (a:Ats Z vs ds) (j:Nat) (h:j<us.toArray.size):∃ v d,vs[j]? = some v/\ds[j]? = some d/\At Z v d/\RelV v us.toArray[j]:=by
 have l1:=r.length
 have k1:j<vs.length:=by rw [l1];simpa using h
 have e:=List.getElem?_eq_getElem k1
 obtain ⟨u,e1,q1⟩:=r.get e
 obtain ⟨d,e2,q2⟩:=a.got e
 have z1:us.toArray[j]=u:=by
  obtain ⟨_,z⟩:=List.getElem?_eq_some_iff.mp e1
  simpa using z
 exact ⟨_,d,e,e2,q2,by rw [z1];exact q1⟩
theorem same_vs {A:Around}{s:Shared}{p:Addr}{k:Bool}(h:k=true):SeqAt.EqAt A s (.ref p) (.ref p) k:=by rw [h];exact SeqAt.EqAt.same _
theorem cmp_refl {pins:List (Addr×Obj)}{σ:St}{H:Hp}{s:Shared}{M:Mp}{Z:Zt}(I:Inv X pins σ H s) (hr:HR X.K H M Z):∀ (n:Nat) {v:V}{x y:D}{b:Bool},At Z v x->At Z v y->cmpD M n x y=some b->b=true:=by
 have flat:∀ {v:V} {x y:D},At Z v x->At Z v y->flatD x=true->flatD y=true->eqF x y=true:=fun {v x y} ax ay f1 f2=>by
  cases x<;>first
   | exact absurd f1 Bool.false_ne_true
   | (cases y<;>first
     | exact absurd f2 Bool.false_ne_true
     | (rw [show v=_ from ax] at ay;cases ay<;>simp [eqF]))
 intro n
 induction n with
 | zero =>
  intro v x y b ax ay h
  unfold cmpD at h
  split at h
  ·next f =>
   rw [Bool.and_eq_true] at f
   cases h
   exact flat ax ay f.1 f.2
  ·cases h
 | succ n ih =>
  intro v x y b ax ay h
  unfold cmpD at h
  split at h
  ·next f =>
   rw [Bool.and_eq_true] at f
   cases h
   exact flat ax ay f.1 f.2
  ·have lists:∀ {vs:List V} {xs ys:List D},Ats Z vs xs->Ats Z vs ys->cmpL (cmpD M n) xs ys=some b->b=true:=fun {vs xs ys} a1 a2 hc=>by
    obtain ⟨e,he,hb⟩:=cmpL_all hc
    have l1:=a1.length
    have l2:=a2.length
    rw [<- hb,Bool.and_eq_true]
    refine ⟨List.all_eq_true.mpr fun j hj=>?_,by simp;omega⟩
    have hj':j<min xs.length ys.length:=List.mem_range.mp hj
    have k1:j<xs.length:=by omega
    have k2:j<ys.length:=by omega
    obtain ⟨v1,e1,q1⟩:=a1.get (List.getElem?_eq_getElem k1)
    obtain ⟨v2,e2,q2⟩:=a2.get (List.getElem?_eq_getElem k2)
    rw [e1] at e2
    cases e2
    exact ih q1 q2 (he j _ _ (List.getElem?_eq_getElem k1) (List.getElem?_eq_getElem k2))
   split at h
   ·obtain ⟨p,vs,rfl,hs,a1⟩:=hr.rdT ax
    obtain ⟨p',ws,e,hs',a2⟩:=hr.rdT ay
    cases e
    rw [I.tuple_inj hs' hs] at a2
    exact lists a1 a2 h
   ·split at h
    ·next e1 e2 =>
     obtain ⟨p,vs,rfl,hs,a1⟩:=hr.rdL e1 ax
     obtain ⟨p',ws,e,hs',a2⟩:=hr.rdL e2 ay
     cases e
     rw [I.list_inj hs' hs] at a2
     exact lists a1 a2 h
    ·cases h
theorem cmp_at {pins:List (Addr×Obj)}{σ:St}{H:Hp}{s:Shared}{M:Mp}{Z:Zt}(I:Inv X pins σ H s) (hr:HR X.K H M Z):∀ (n:Nat) {A:Around}{v w:V}{x y:D}{u u':Value}{b:Bool},At Z v x->At Z w y->RelV v u->RelV w u'->A.units+n<cLine->cmpD M n x y=some b->SeqAt.EqAt A s u u' b:=by
 have flat:∀ {A:Around} {v w:V} {x y:D} {u u':Value},At Z v x->At Z w y->RelV v u->RelV w u'->flatD x=true->flatD y=true->SeqAt.EqAt A s u u' (eqF x y):=fun {A v w x y u u'} ax ay rx ry f1 f2=>by
  obtain ⟨k1,k2,k3⟩:=eqF_V ax ay f1 f2
  rw [<- k3]
  exact eqAt_V rx ry k1 k2
 intro n
 induction n with
 | zero =>
  intro A v w x y u u' b ax ay rx ry hu h
  unfold cmpD at h
  split at h
  ·next f =>
   rw [Bool.and_eq_true] at f
   cases h
   exact flat ax ay rx ry f.1 f.2
  ·cases h
 | succ n ih =>
  intro A v w x y u u' b ax ay rx ry hu h
  have h0:=h
  unfold cmpD at h
  split at h
  ·next f =>
   rw [Bool.and_eq_true] at f
   cases h
   exact flat ax ay rx ry f.1 f.2
  ·have hu1:A.in1.units+n<cLine:=by show A.units+1+n<cLine;omega
   have hu0:A.units<cLine:=by omega
   have items:∀ {vs ws:List V} {xs ys:List D} {its its2:List Value} {e:Nat->Bool},Vals vs its->Vals ws its2->Ats Z vs xs->Ats Z ws ys->(∀ (j:Nat) x y,xs[j]? = some x->ys[j]? = some y->cmpD M n x y=some (e j)) ->
     ∀ j (h1:j<its.toArray.size) (h2:j<its2.toArray.size),SeqAt.EqAt A.in1 s its.toArray[j] its2.toArray[j] (e j):=fun {vs ws xs ys its its2 e} r1 r2 a1 a2 he j h1 h2=>by
    obtain ⟨v1,d1,_,e1,q1,z1⟩:=nth_of r1 a1 j h1
    obtain ⟨v2,d2,_,e2,q2,z2⟩:=nth_of r2 a2 j h2
    exact ih q1 q2 z1 z2 hu1 (he j d1 d2 e1 e2)
   split at h
   ·obtain ⟨p,vs,rfl,hs,a1⟩:=hr.rdT ax
    obtain ⟨p',ws,rfl,hs',a2⟩:=hr.rdT ay
    cases (show u=Value.ref p from rx)
    cases (show u'=Value.ref p' from ry)
    obtain ⟨its,r1,t1,_⟩:=I.tuple hs
    obtain ⟨its2,r2,t2,_⟩:=I.tuple hs'
    obtain ⟨e,he,hb⟩:=cmpL_all h
    by_cases hp:p=p'
    ·subst hp
     exact same_vs (cmp_refl I hr _ ax ay h0)
    ·have l1:=a1.length
     have l2:=a2.length
     have m1:=r1.length
     have m2:=r2.length
     have z:=SeqAt.EqAt.of_refs hp (SeqAt.RcAt.tuples (e:=e) t1 t2 hu0 (items r1 r2 a1 a2 he))
     rw [show its.toArray.size=(_:List D).length by simp;rw [<- m1,l1],show its2.toArray.size=(_:List D).length by simp;rw [<- m2,l2],hb] at z
     exact z
   ·split at h
    ·next xs ys e1 e2 =>
     obtain ⟨p,vs,rfl,hs,a1⟩:=hr.rdL e1 ax
     obtain ⟨p',ws,rfl,hs',a2⟩:=hr.rdL e2 ay
     cases (show u=Value.ref p from rx)
     cases (show u'=Value.ref p' from ry)
     obtain ⟨its,r1,t1,_⟩:=I.list hs
     obtain ⟨its2,r2,t2,_⟩:=I.list hs'
     obtain ⟨e,he,hb⟩:=cmpL_all h
     by_cases hp:p=p'
     ·subst hp
      exact same_vs (cmp_refl I hr _ ax ay h0)
     ·have l1:=a1.length
      have l2:=a2.length
      have m1:=r1.length
      have m2:=r2.length
      have s1:its.toArray.size=xs.length:=by simp;omega
      have s2:its2.toArray.size=ys.length:=by simp;omega
      by_cases hl:xs.length=ys.length
      ·have z:=SeqAt.EqAt.of_refs hp (SeqAt.RcAt.lists (e:=e) t1.isList t2.isList (by omega) hu0 (items r1 r2 a1 a2 he))
       rw [s1] at z
       rw [<- hb,hl,Nat.min_self]
       rw [hl] at z
       simpa using z
      ·have z:=SeqAt.EqAt.of_refs hp (SeqAt.RcAt.lists_lengths t1.isList t2.isList (by rw [s1,s2];simpa using hl) hu0)
       rw [<- hb,show (xs.length == ys.length)=false by simpa using hl,Bool.and_false]
       exact z
    ·cases h
def sEqS (neg:Bool):R22:=fun x y M Q=>match x,y with
 | .tup xs,.tup ys=>onO (cmpL (cmpD M 40) xs ys) fun b=>Q (.bl (if neg then !b else b)) M
 | x,y=>onO (lsOf M x) fun xs=>onO (lsOf M y) fun ys=>onO (cmpL (cmpD M 40) xs ys) fun b=>Q (.bl (if neg then !b else b)) M
theorem eqS_items {pins:List (Addr×Obj)}{σ:St}{H:Hp}{s:Shared}{M:Mp}{Z:Zt}{A:Around}(I:Inv X pins σ H s) (hr:HR X.K H M Z) (hu:A.units+41<cLine) {vs ws:List V}{xs ys:List D}{its its2:List Value}{e:Nat->Bool}(r1:Vals vs its) (r2:Vals ws its2) (a1:Ats Z vs xs) (a2:Ats Z ws ys)
  (he:∀ (j:Nat) x y,xs[j]? = some x->ys[j]? = some y->cmpD M 40 x y=some (e j)):∀ j (h1:j<its.toArray.size) (h2:j<its2.toArray.size),SeqAt.EqAt A.in1 s its.toArray[j] its2.toArray[j] (e j):=fun j h1 h2=>by
 obtain ⟨v1,d1,_,e1,q1,z1⟩:=nth_of r1 a1 j h1
 obtain ⟨v2,d2,_,e2,q2,z2⟩:=nth_of r2 a2 j h2
 exact cmp_at I hr 40 q1 q2 z1 z2 (by show A.units+1+40<cLine;omega) (he j d1 d2 e1 e2)
theorem eqS_split {M:Mp}{neg:Bool}{Q:VK2}{x y:D}(h:sEqS neg x y M Q):∃ xs ys b,cmpL (cmpD M 40) xs ys=some b/\Q (.bl (if neg then !b else b)) M/\((x=.tup xs/\y=.tup ys)\/(lsOf M x=some xs/\lsOf M y=some ys)):=by
 unfold sEqS at h
 split at h
 ·obtain ⟨b,e,q⟩:=of_O h
  exact ⟨_,_,b,e,q,.inl ⟨rfl,rfl⟩⟩
 ·obtain ⟨xs,e1,h1⟩:=of_O h
  obtain ⟨ys,e2,h2⟩:=of_O h1
  obtain ⟨b,e,q⟩:=of_O h2
  exact ⟨_,_,b,e,q,.inr ⟨e1,e2⟩⟩
theorem o_eqS (hu:X.A.units+41<cLine):OpR2 X (compareOp .Eq) (sEqS false):=by
 intro pins s σ H x y v u Q I rx ry h
 obtain ⟨Z,dx,dy,M,Q2,hr,ax,ay,h,k⟩:=h
 obtain ⟨xs,ys,b,hc,q,h|h⟩:=eqS_split h
 ·obtain ⟨rfl,rfl⟩:=h
  obtain ⟨p,vs,rfl,hs,a1⟩:=hr.rdT ax
  obtain ⟨p',ws,rfl,hs',a2⟩:=hr.rdT ay
  cases (show v=Value.ref p from rx)
  cases (show u=Value.ref p' from ry)
  obtain ⟨its,r1,t1,_⟩:=I.tuple hs
  obtain ⟨its2,r2,t2,_⟩:=I.tuple hs'
  obtain ⟨e,he,hb⟩:=cmpL_all hc
  have l1:=a1.length
  have l2:=a2.length
  have m1:=r1.length
  have m2:=r2.length
  refine SeqAt.eq_tupleAt (e:=e) t1 t2 (by omega) (eqS_items I hr hu r1 r2 a1 a2 he) ⟨.bl b,H,I,?_,k.b hr q⟩
  rw [show its.toArray.size=xs.length by simp;omega,show its2.toArray.size=ys.length by simp;omega,hb]
  rfl
 ·obtain ⟨e1,e2⟩:=h
  obtain ⟨p,vs,rfl,hs,a1⟩:=hr.rdL e1 ax
  obtain ⟨p',ws,rfl,hs',a2⟩:=hr.rdL e2 ay
  cases (show v=Value.ref p from rx)
  cases (show u=Value.ref p' from ry)
  obtain ⟨its,r1,t1,_⟩:=I.list hs
  obtain ⟨its2,r2,t2,_⟩:=I.list hs'
  obtain ⟨e,he,hb⟩:=cmpL_all hc
  have l1:=a1.length
  have l2:=a2.length
  have m1:=r1.length
  have m2:=r2.length
  have s1:its.toArray.size=xs.length:=by simp;omega
  have s2:its2.toArray.size=ys.length:=by simp;omega
  by_cases hl:xs.length=ys.length
  ·refine SeqAt.eq_listAt (e:=e) t1.isList t2.isList (by omega) (by omega) (eqS_items I hr hu r1 r2 a1 a2 he) ⟨.bl b,H,I,?_,k.b hr q⟩
   rw [s1,<- hb,hl,Nat.min_self]
   simp [L2.RelV]
  ·refine SeqAt.eq_list_lengthsAt t1.isList t2.isList (by rw [s1,s2];simpa using hl) (by omega) ⟨.bl b,H,I,?_,k.b hr q⟩
   rw [<- hb,show (xs.length == ys.length)=false by simpa using hl,Bool.and_false]
   rfl
theorem o_neS (hu:X.A.units+41<cLine):OpR2 X (compareOp .NotEq) (sEqS true):=by
 intro pins s σ H x y v u Q I rx ry h
 obtain ⟨Z,dx,dy,M,Q2,hr,ax,ay,h,k⟩:=h
 obtain ⟨xs,ys,b,hc,q,h|h⟩:=eqS_split h
 ·obtain ⟨rfl,rfl⟩:=h
  obtain ⟨p,vs,rfl,hs,a1⟩:=hr.rdT ax
  obtain ⟨p',ws,rfl,hs',a2⟩:=hr.rdT ay
  cases (show v=Value.ref p from rx)
  cases (show u=Value.ref p' from ry)
  obtain ⟨its,r1,t1,_⟩:=I.tuple hs
  obtain ⟨its2,r2,t2,_⟩:=I.tuple hs'
  obtain ⟨e,he,hb⟩:=cmpL_all hc
  have l1:=a1.length
  have l2:=a2.length
  have m1:=r1.length
  have m2:=r2.length
  refine SeqAt.RcNeAt.tuples (e:=e) t1 t2 (by omega) (eqS_items I hr hu r1 r2 a1 a2 he) _ _ _ _ ⟨.bl (!b),H,I,?_,k.b hr q⟩
  rw [show its.toArray.size=xs.length by simp;omega,show its2.toArray.size=ys.length by simp;omega,hb]
  rfl
 ·obtain ⟨e1,e2⟩:=h
  obtain ⟨p,vs,rfl,hs,a1⟩:=hr.rdL e1 ax
  obtain ⟨p',ws,rfl,hs',a2⟩:=hr.rdL e2 ay
  cases (show v=Value.ref p from rx)
  cases (show u=Value.ref p' from ry)
  obtain ⟨its,r1,t1,_⟩:=I.list hs
  obtain ⟨its2,r2,t2,_⟩:=I.list hs'
  obtain ⟨e,he,hb⟩:=cmpL_all hc
  have l1:=a1.length
  have l2:=a2.length
  have m1:=r1.length
  have m2:=r2.length
  have s1:its.toArray.size=xs.length:=by simp;omega
  have s2:its2.toArray.size=ys.length:=by simp;omega
  by_cases hl:xs.length=ys.length
  ·refine SeqAt.RcNeAt.lists (e:=e) t1.isList t2.isList (by omega) (by omega) (eqS_items I hr hu r1 r2 a1 a2 he) _ _ _ _ ⟨.bl (!b),H,I,?_,k.b hr q⟩
   rw [s1,<- hb,hl,Nat.min_self]
   simp [L2.RelV]
  ·refine SeqAt.RcNeAt.lists_lengths t1.isList t2.isList (by rw [s1,s2];simpa using hl) (by omega) _ _ _ _ ⟨.bl (!b),H,I,?_,k.b hr q⟩
   rw [<- hb,show (xs.length == ys.length)=false by simpa using hl,Bool.and_false]
   rfl
end
def kD:Key->D
 | .inl i=>.int i
 | .inr z=>.str z
theorem kD_kV {Z:Zt}{v:V}{k:Key}(a:At Z v (kD k)):v=kV k:=by cases k<;>exact a
theorem At.key (Z:Zt) (k:Key):At Z (kV k) (kD k):=by cases k<;>rfl
def valD (kvs:List (Key×D)) (k:Key):Option D:=(kvs.find? fun kv=>decide (kv.1=k)).map (·.2)
def putD (kvs:List (Key×D)) (k:Key) (v:D):List (Key×D):=if kvs.any (fun kv=>decide (kv.1=k)) then kvs.map fun kv=>if kv.1=k then (kv.1,v) else kv else kvs++[(k,v)]
section
variable {K:PySem.W.Frag}{H:Hp}{M:Mp}{Z:Zt}
theorem KAts.length {vs:List (Key×V)}{ds:List (Key×D)}(h:KAts Z vs ds):vs.length=ds.length:=Paired.length h
theorem KAts.val {k:Key}:∀ {vs:List (Key×V)}{ds:List (Key×D)},KAts Z vs ds->(valD ds k=none/\valV vs k=none)\/∃ d v,valD ds k=some d/\valV vs k=some v/\At Z v d
 | _,_,.nil=>.inl ⟨rfl,rfl⟩
 | (k1,v)::vs,(k2,d)::ds,.cons r t=>by
  obtain ⟨e,a⟩:=r
  have e':k1=k2:=e
  subst e'
  by_cases hk:k1=k
  ·exact .inr ⟨d,v,by simp [valD,List.find?_cons,hk],by simp [valV,List.find?_cons,hk],a⟩
  ·have h1:valD ((k1,d)::ds) k=valD ds k:=by simp [valD,List.find?_cons,hk]
   have h2:valV ((k1,v)::vs) k=valV vs k:=by simp [valV,List.find?_cons,hk]
   rw [h1,h2]
   exact KAts.val t
theorem KAts.isSome {k:Key}{vs:List (Key×V)}{ds:List (Key×D)}(h:KAts Z vs ds):(valV vs k).isSome=(valD ds k).isSome:=by
 rcases h.val (k:=k) with ⟨e1,e2⟩|⟨d,v,e1,e2,_⟩<;>rw [e1,e2]<;>rfl
theorem KAts.any {k:Key}:∀ {vs:List (Key×V)}{ds:List (Key×D)},KAts Z vs ds->(vs.any fun kv=>decide (kv.1=k))=ds.any fun kv=>decide (kv.1=k)
 | _,_,.nil=>rfl
 | (k1,v)::vs,(k2,d)::ds,.cons r t=>by
  have e':k1=k2:=r.1
  rw [List.any_cons,List.any_cons,KAts.any t,e']
theorem KAts.append:∀ {xs ys:List (Key×V)}{us ws:List (Key×D)},KAts Z xs us->KAts Z ys ws->KAts Z (xs++ys) (us++ws)
 | _,_,_,_,.nil,s=>s
 | _,_,_,_,.cons r t,s=>.cons r (KAts.append t s)
theorem KAts.repl {k:Key}{v:V}{d:D}(a:At Z v d):∀ {vs:List (Key×V)}{ds:List (Key×D)},KAts Z vs ds->KAts Z (vs.map fun kv=>if kv.1=k then (kv.1,v) else kv) (ds.map fun kv=>if kv.1=k then (kv.1,d) else kv)
 | _,_,.nil=>.nil
 | (k1,v1)::vs,(k2,d1)::ds,.cons r t=>by
  have e':k1=k2:=r.1
  subst e'
  rw [List.map_cons,List.map_cons]
  refine .cons ?_ (KAts.repl a t)
  by_cases h:k1=k
  ·rw [if_pos h,if_pos h];exact ⟨rfl,a⟩
  ·rw [if_neg h,if_neg h];exact r
theorem KAts.put {k:Key}{v:V}{d:D}(a:At Z v d) {vs:List (Key×V)}{ds:List (Key×D)}(h:KAts Z vs ds):KAts Z (putK vs k v) (putD ds k d):=by
 unfold putK putD
 rw [h.any]
 split
 ·exact h.repl a
 ·exact h.append (.cons ⟨rfl,a⟩ .nil)
theorem KAts.keys:∀ {vs:List (Key×V)}{ds:List (Key×D)},KAts Z vs ds->Ats Z (vs.map fun p=>kV p.1) (ds.map fun p=>kD p.1)
 | _,_,.nil=>.nil
 | (k1,v1)::vs,(k2,d1)::ds,.cons r t=>by
  have e':k1=k2:=r.1
  subst e'
  exact .cons (At.key Z k1) (KAts.keys t)
end
section
variable {X:Cx}{pos:Pos}
variable {o i value:Expr}{td ty tv:TE2}{pos':Pos}
theorem o_add_str:OpR2 X (binaryOp .Add) (fun x y M Q=>onS x fun i=>onS y fun j=>i.length+j.length<=sizeLine/\Q (.str (i++j)) M):=OpR.mono op_add_str (by
 rintro x y H Q ⟨Z,dx,dy,M,Q2,hr,ax,ay,h,k⟩
 obtain ⟨i,rfl,h1⟩:=of_S h
 obtain ⟨j,rfl,hz,q⟩:=of_S h1
 exact ⟨i,j,ax,ay,hz,k.s hr q⟩)
def sSlS:D->Option Int->Option Int->Mp->VK2->Prop:=fun x lo hi M Q=>onS x fun z=>z.length<=sizeLine/\Q (.str (PySem.Txt.slice z lo hi)) M
theorem s_str:SlR2 X sSlS:=by
 intro pins s σ H x v vl vu lo hi sl Q I rx hs pl pu h
 obtain ⟨Z,d,M,Q2,hr,a,h,k⟩:=h
 obtain ⟨z,rfl,hz,q⟩:=of_S h
 cases (show x=V.str z from a)
 obtain ⟨t,rfl⟩:=rx
 have fin:∀ t' tk,EP X pins σ Q (.str (PySem.Txt.slice z lo hi) t') { s with toks:=tk }:=fun t' tk=>⟨.str _,H,I.tok tk,⟨_,rfl⟩,k.s hr q⟩
 have hl:=Nat.le_trans (PySem.Txt.slice_le z lo hi) hz
 refine ⟨"str",_,PySem.F.slot_str_getitem.lookup,typeIs_str _ _ _,?_⟩
 cases pl with
 | none=>cases pu with
  | none=>exact wpAny_getItem_str_slice (l:=none) (u:=none) (st:=none) hs rfl (post_val_or_str ⟨hl,fin⟩)
  | int j uj=>exact wpAny_getItem_str_slice (l:=none) (u:=some (j,uj)) (st:=none) hs rfl (post_val_or_str ⟨hl,fin⟩)
 | int i ui=>cases pu with
  | none=>exact wpAny_getItem_str_slice (l:=some (i,ui)) (u:=none) (st:=none) hs rfl (post_val_or_str ⟨hl,fin⟩)
  | int j uj=>exact wpAny_getItem_str_slice (l:=some (i,ui)) (u:=some (j,uj)) (st:=none) hs rfl (post_val_or_str ⟨hl,fin⟩)
end
section
variable (P:Program) (w:World)
end
section
variable {P:Program}{w:World}
open AutoSeq1 (wpAny_loadPart')
open MeetsSeq MeetsSeq2 MeetsSeq3 SeqRoads2
end
section
variable {X:Cx}{pins:List (Addr×Obj)}{σ:St}{H:Hp}{s:Shared}{M:Mp}{Z:Zt}{A:Around}
end
section
variable {X:Cx}
end
end L3
namespace L2
open PySem PySem.Spec PyProof.Rows L3
def capN (σ:St) (caps:List (Str×Nat)) (vs:List (Option V)):St:=vs++caps.map fun c=>(σ[c.2]?).join
structure BlkOkN (X:Cx) (scope:Scope) (x:Str) (ns:List Str) (caps:List (Str×Nat)):Prop where
 b:BlkOk X scope x caps
 rest:(ns.all fun y=>scope.names.lookup y == some .local)=true
 nd:(x::(ns++caps.map (·.1))).Nodup
section
variable {X:Cx}{pins:List (Addr×Obj)}{σ:St}{H:Hp}{s:Shared}{scope:Scope}{x:Str}{ns:List Str}{tes:List Expr}{tk:Nat}{px pos:Pos}{caps:List (Str×Nat)}{elt iter:Expr}{ifs:List Expr}{tt:TT}{te:TE}
end
structure ZipAt (z TI TO i1 i2 a b:Addr) (i:Nat) (h:Heap):Prop where
 n1:TI≠z
 n2:TO≠z
 n3:i1≠z
 n4:i2≠z
 n5:TI≠TO
 n6:TI≠i1
 n7:TI≠i2
 n8:TO≠i1
 n9:TO≠i2
 n10:i1≠i2
 hz:IsZip h z TI TO .none
 ht:IsPair h TI (.ref i1) (.ref i2)
 ho:∃ u v,IsPair h TO u v
 h1:h.IsListIter i1 a i
 h2:h.IsListIter i2 b i
theorem ZipAt.apart {z TI TO i1 i2 a b:Addr}{i:Nat}{h:Heap}{us vs:Array Value}(t:ZipAt z TI TO i1 i2 a b i h) (ha:h.IsList a us) (hb:h.IsList b vs):ZipApart z TI TO i1 i2 a b:=by
 obtain ⟨u,v,ho⟩:=t.ho
 obtain ⟨o1,e1,c1,_⟩:=t.h1
 obtain ⟨o2,e2,c2,_⟩:=t.h2
 have key:∀ {l:Addr} {ws:Array Value},h.IsList l ws->l≠z/\l≠TO/\l≠i1/\l≠i2:=fun {l ws} ⟨o,e,c,_⟩=>by
  refine ⟨fun q=>?_,fun q=>?_,fun q=>?_,fun q=>?_⟩
  ·rw [q,t.hz] at e;cases e;exact absurd c (by simp)
  ·rw [q,ho] at e;cases e;exact absurd c (by simp)
  ·rw [q,e1] at e;cases e;rw [c1] at c;exact absurd c (by simp)
  ·rw [q,e2] at e;cases e;rw [c2] at c;exact absurd c (by simp)
 obtain ⟨a1,a2,a3,a4⟩:=key ha
 obtain ⟨b1,b2,b3,b4⟩:=key hb
 exact ⟨t.n1,t.n2,t.n3,t.n4,t.n5,t.n6,t.n7,t.n8,t.n9,t.n10,a1,a2,a3,a4,b1,b2,b3,b4⟩
abbrev Cx.fr (X:Cx) (f:Addr×Obj×HO):Cx:={ X with fz:=f::X.fz }
end L2
namespace L3
open PySem PySem.Spec PyProof.Rows L2
unseal PE2 PT2 PW2 PA2 PO2 PS2 PSs2 OpR2 UnR2 CallR2 IxR2 SlR2 PG2 PI2 MtR2
section
variable {X:Cx}{e:Expr}{te:TE2}{pos:Pos}
def zipD (xs ys:List D):List D:=(xs.zip ys).map fun p=>.tup [p.1,p.2]
def capT (τ:St2) (caps:List (Str×Nat)) (ds:List D):St2:=ds.map some++caps.map fun c=>(τ[c.2]?).join
theorem StR.capT {Z:Zt}{σ:St}{τ:St2}(h:StR Z σ τ) (caps:List (Str×Nat)):∀ {us:List V}{ds:List D},Ats Z us ds->StR Z (capN σ caps (us.map some)) (capT τ caps ds)
 | [],[],.nil=>by
  unfold capN L3.capT
  rw [List.map_nil,List.map_nil,List.nil_append,List.nil_append]
  induction caps with
  | nil=>exact .nil
  | cons c r ih=>exact .cons (h.join c.2) ih
 | _::_,_::_,.cons a r=>.cons a (StR.capT h caps r)
def CompT (n:Nat) (xs:List D) (S:Mp->Prop) (caps:List (Str×Nat)) (tt:TT2) (te:TE2) (τ:St2) (M:Mp) (Q:List D->Mp->Prop):Prop:=xs.length<=sizeLine/\∃ W:Nat->List D->Mp->Prop,W 0 [] M/\(∀ i ys M,W i ys M->S M/\ys.length<=i) /\
 (∀ i x ys M,xs[i]? = some x->W i ys M->∃ us,x=.tup us/\us.length=n/\tt (capT τ caps us) M fun b M2=>if b=true then te (capT τ caps us) M2 fun y M3=>W (i+1) (ys++[y]) M3 else W (i+1) ys M2)/\∀ ys M,W xs.length ys M->Q ys M
def idxS (k:Str):List Str->Option Nat
 | []=>none
 | a::r=>if a=k then some 0 else (idxS k r).map (·+1)
theorem idxS_get {k:Str}:∀ {xs:List Str}{j:Nat},idxS k xs=some j->xs[j]? = some k/\∀ m a,m<j->xs[m]? = some a->a≠k
 | [],j,h=>by cases h
 | a::r,j,h=>by
  unfold idxS at h
  by_cases e:a=k
  ·rw [if_pos e] at h
   cases h
   exact ⟨by rw [e];rfl,fun m a hm=>by omega⟩
  ·rw [if_neg e] at h
   cases q:idxS k r with
   | none=>rw [q] at h;cases h
   | some i =>
    rw [q] at h
    cases h
    obtain ⟨h1,h2⟩:=idxS_get q
    refine ⟨by simpa using h1,fun m b hm hb=>?_⟩
    cases m with
    | zero =>
     have:a=b:=by simpa using hb
     rw [<- this]
     exact e
    | succ m=>exact h2 m b (by have hm':m+1<i+1:=hm;omega) (by simpa using hb)
def strsOf:List D->Option (List Str)
 | []=>some []
 | .str a::r=>(strsOf r).map (a::·)
 | _::_=>none
theorem strsOf_eq:∀ {ds:List D}{ss:List Str},strsOf ds=some ss->ds=ss.map D.str
 | [],ss,h=>by cases h;rfl
 | .str a::r,ss,h=>by
  unfold strsOf at h
  cases e:strsOf r with
  | none=>rw [e] at h;cases h
  | some t =>
   rw [e] at h
   cases h
   rw [List.map_cons,<- strsOf_eq e]
 | .non::r,_,h | .int _::r,_,h | .bl _::r,_,h | .tup _::r,_,h | .lst _::r,_,h | .dic _::r,_,h | .dct _::r,_,h | .ref _::r,_,h | .ty _::r,_,h=>by cases h
theorem m_index (hu:X.A.units+45<cLine):MtR2 X "list.index" (fun x xs M Q=>on1 xs fun y=>onS y fun k=>onO (lsOf M x) fun ds=>onO (strsOf ds) fun ss=>onO (idxS k ss) fun i=>Q (.int (i:Int)) M):=by
 intro pins s σ H x xs v us Q I rx r h
 obtain ⟨Z,d,ds,M,Q2,hr,a,as,h,kk⟩:=h
 obtain ⟨y,rfl,h1⟩:=of_1 h
 obtain ⟨k,rfl,h2⟩:=of_S h1
 obtain ⟨zs,e,h3⟩:=of_O h2
 obtain ⟨ss,e2,h4⟩:=of_O h3
 obtain ⟨i,e3,q⟩:=of_O h4
 obtain ⟨p,ws,rfl,hs,a2⟩:=hr.rdL e a
 cases (show v=Value.ref p from rx)
 obtain ⟨w,rfl,aw⟩:=ats1 as
 cases (show w=V.str k from aw)
 obtain ⟨u,rfl,ru⟩:=vals1 r
 obtain ⟨t,rfl⟩:=ru
 obtain ⟨its,rv,⟨o,n,ho0,hc1,hc2,hc3⟩,hz⟩:=I.list hs
 have ho:s.heap.get? p=some { cls:=.type "list",dict:=o.dict,data:=.seq its.toArray n,slots:=o.slots }:=by
  rw [ho0]
  cases o
  simp_all
 have hzs:=strsOf_eq e2
 obtain ⟨g1,g2⟩:=idxS_get e3
 have l1:=rv.length
 have l2:=a2.length
 have hi:i<ss.length:=(List.getElem?_eq_some_iff.mp g1).1
 have hzl:zs.length=ss.length:=by rw [hzs,List.length_map]
 have at_:∀ m (hm:m<its.toArray.size),∃ a t,its.toArray[m]=Value.str a t/\ss[m]? = some a:=fun m hm=>by
  obtain ⟨v',d',_,e1,q1,z1⟩:=nth_of rv a2 m hm
  rw [hzs,List.getElem?_map] at e1
  cases e4:ss[m]? with
  | none=>rw [e4] at e1;cases e1
  | some b =>
   rw [e4] at e1
   cases e1
   cases (show v'=V.str b from q1)
   obtain ⟨t',ht⟩:=z1
   exact ⟨b,t',ht,rfl⟩
 let ef:Value->Bool:=fun v=>match v with | .str a _=>decide (a=k) | _=>false
 have hsz:its.toArray.size=ss.length:=by simp;omega
 refine call_meets F.slot_list_index ⟨_,ho,rfl⟩ F.entry_list_index (F.args_list_index_2 _ _) (SeqAt.list_indexAt p its.toArray n _ _ (.str k t) ef i (by omega) ?_ ?_ ?_) ⟨ho,?_,?_⟩
 ·have:sizeLine<2^62:=by decide
  omega
 ·obtain ⟨b,t',h5,h6⟩:=at_ i (by omega)
  rw [h5]
  rw [g1] at h6
  cases h6
  simp [ef]
 ·intro m hm hlt
  obtain ⟨b,t',h5,h6⟩:=at_ m hm
  rw [h5]
  simp [ef,g2 m b hlt h6]
 ·intro y hy
  obtain ⟨m,hm,rfl⟩:=Array.mem_iff_getElem.mp hy
  obtain ⟨b,t',h5,h6⟩:=at_ m hm
  rw [h5]
  exact cmp_at (M:=M) I hr 1 (v:=.str b) (w:=.str k) (x:=.str b) (y:=.str k) rfl rfl ⟨t',rfl⟩ ⟨t,rfl⟩ (by show X.A.units+1+1<cLine;omega) rfl
 ·exact ⟨.int i,H,I.tok _,⟨_,rfl⟩,kk.i hr q⟩
theorem Comp.pure {xs:List D}{S:Mp->Prop}{caps:List (Str×Nat)}{te:TE2}{τ:St2}{M:Mp}{Q:List D->Mp->Prop}(f:D->D) (hz:xs.length<=sizeLine) (hS:S M) (h:∀ x∈xs,∀ R:VK2,R (f x) M->te (cap2 τ caps (some x)) M R) (q:Q (xs.map f) M):Comp xs S caps uTrue te τ M Q:=by
 refine ⟨hz,fun i ys M'=>M'=M/\ys=(xs.take i).map f,⟨rfl,rfl⟩,?_,?_,?_⟩
 ·rintro i ys M' ⟨rfl,rfl⟩
  exact ⟨hS,by rw [List.length_map,List.length_take];omega⟩
 ·rintro i x ys M' hx ⟨rfl,rfl⟩
  unfold uTrue
  dsimp only
  rw [if_pos rfl]
  exact h x (List.mem_of_getElem? hx) _ ⟨rfl,by rw [List.take_add_one,hx,List.map_append];rfl⟩
 ·rintro ys M' ⟨rfl,rfl⟩
  rw [List.take_length]
  exact q
theorem Comp.ints {bs:List Int}{S:Mp->Prop}{caps:List (Str×Nat)}{te:TE2}{τ:St2}{M:Mp}{Q:List D->Mp->Prop}(f:Int->Int) (hz:bs.length<=sizeLine) (hS:S M) (h:∀ b∈bs,∀ R:VK2,R (.int (f b)) M->te (cap2 τ caps (some (.int b))) M R) (q:Q ((bs.map f).map D.int) M):Comp (bs.map D.int) S caps uTrue te τ M Q:=by
 refine Comp.pure (fun d=>match d with | .int b=>.int (f b) | d=>d) (by rw [List.length_map];exact hz) hS (fun x hx R r=>?_) ?_
 ·obtain ⟨b,hb,rfl⟩:=List.mem_map.mp hx
  exact h b hb R r
 ·rw [List.map_map] at q ⊢
  exact q
theorem zipD_ints (as bs:List Int):zipD (as.map D.int) (bs.map D.int)=(as.zip bs).map fun p=>.tup [.int p.1,.int p.2]:=by
 unfold zipD
 rw [List.zip_map,List.map_map]
 rfl
theorem zip_ints (f:Int->Int->Int):∀ as bs:List Int,((as.zip bs).map fun p=>D.int (f p.1 p.2))=(as.zipWith f bs).map D.int
 | [],_=>rfl
 | _::_,[]=>rfl
 | a::as,b::bs=>by
  show D.int (f a b)::(as.zip bs).map _=D.int (f a b)::(as.zipWith f bs).map D.int
  rw [zip_ints f as bs]
theorem CompT.ints {as bs:List Int}{S:Mp->Prop}{caps:List (Str×Nat)}{te:TE2}{τ:St2}{M:Mp}{Q:List D->Mp->Prop}(f:Int->Int->Int) (hz:as.length<=sizeLine) (hS:S M) (h:∀ a b,(a,b)∈as.zip bs->∀ R:VK2,R (.int (f a b)) M->te (capT τ caps [.int a,.int b]) M R) (q:Q ((as.zipWith f bs).map D.int) M):CompT 2 (zipD (as.map D.int) (bs.map D.int)) S caps uTrue te τ M Q:=by
 rw [zipD_ints]
 refine ⟨by rw [List.length_map,List.length_zip];omega,fun i ys M'=>M'=M/\ys=((as.zip bs).take i).map fun p=>D.int (f p.1 p.2),⟨rfl,rfl⟩,?_,?_,?_⟩
 ·rintro i ys M' ⟨rfl,rfl⟩
  exact ⟨hS,by rw [List.length_map,List.length_take];omega⟩
 ·rintro i x ys M' hx ⟨rfl,rfl⟩
  rw [List.getElem?_map] at hx
  cases e:(as.zip bs)[i]? with
  | none=>rw [e] at hx;cases hx
  | some p =>
   rw [e] at hx
   refine ⟨_,(Option.some.inj hx).symm,rfl,?_⟩
   unfold uTrue
   dsimp only
   rw [if_pos rfl]
   exact h p.1 p.2 (List.mem_of_getElem? e) _ ⟨rfl,by rw [List.take_add_one,e,List.map_append];rfl⟩
 ·rintro ys M' ⟨rfl,rfl⟩
  rw [List.length_map,List.take_length]
  rw [zip_ints f as bs]
  exact q
end
end L3
namespace L2
open PySem PySem.Spec PyProof.Rows L3
end L2
namespace L3
open PySem PySem.Spec PyProof.Rows L2
unseal PE2 PT2 PW2 PA2 PO2 PS2 PSs2 OpR2 UnR2 CallR2 IxR2 SlR2 PG2 PI2 MtR2
section
variable {X:Cx}{e:Expr}{te:TE2}{pos:Pos}
theorem Comp.of {α:Type}{ks:List α}{g f:α->D}{S:Mp->Prop}{caps:List (Str×Nat)}{te:TE2}{τ:St2}{M:Mp}{Q:List D->Mp->Prop}(hz:ks.length<=sizeLine) (hS:S M) (h:∀ k∈ks,∀ R:VK2,R (f k) M->te (cap2 τ caps (some (g k))) M R) (q:Q (ks.map f) M):Comp (ks.map g) S caps uTrue te τ M Q:=by
 refine ⟨by rw [List.length_map];exact hz,fun i ys M'=>M'=M/\ys=(ks.take i).map f,⟨rfl,rfl⟩,?_,?_,?_⟩
 ·rintro i ys M' ⟨rfl,rfl⟩
  exact ⟨hS,by rw [List.length_map,List.length_take];omega⟩
 ·rintro i x ys M' hx ⟨rfl,rfl⟩
  rw [List.getElem?_map] at hx
  cases e:ks[i]? with
  | none=>rw [e] at hx;cases hx
  | some k =>
   rw [e] at hx
   cases hx
   unfold uTrue
   dsimp only
   rw [if_pos rfl]
   exact h k (List.mem_of_getElem? e) _ ⟨rfl,by rw [List.take_add_one,e,List.map_append];rfl⟩
 ·rintro ys M' ⟨rfl,rfl⟩
  rw [List.length_map,List.take_length]
  exact q
end
end L3
namespace L2
open PySem PySem.Spec PyProof.Rows L3
end L2
namespace L3
open PySem PySem.Spec PyProof.Rows L2
unseal PE2 PT2 PW2 PA2 PO2 PS2 PSs2 OpR2 UnR2 CallR2 IxR2 SlR2 PG2 PI2 MtR2
end L3
namespace L2
open PySem PySem.Spec PyProof.Rows L3
theorem stored {s:Heap}{a:Addr}{o:Obj}{es es1:Array (Int×Value)}{ep:Nat}{t t2:SetTable}(ho:s.get? a=some o) (hex:o.ExactSet) (hd:o.data=Data.set es ep t) :
  ∃ o',(s.update a (Obj.putSet es1 t2)).get? a=some o'/\o'.ExactSet/\o'.data=Data.set es1 (ep+1) t2:=by
 have e:=putSet_of es1 t2 hd
 refine ⟨_,Heap.get?_update_self _ ho ?_,?_,?_⟩
 ·rw [e]
  obtain ⟨h1,h2,h3⟩:=hex
  simp [Obj.isFreed,h1]
 ·rw [e]
  exact hex
 ·rw [e]
section
variable {prog:Program}{w:World}{A:Around}{R:Result->Shared->Prop}{I:Addr}{fp wr:List Addr}{G:Array GenState->Array GenState->Prop}{n:Nat}{P:Nat->Value->Prop}{St:Nat->Shared->Prop}
end
def SIt (w:World) (h:Heap) (I S p i:Nat) (ord:List Value):Prop :=
  ∃ (o so:Obj) (first:Value) (es:Array (Int×Value)) (ep:Nat) (t:SetTable),h.get? I=some o/\o.cls=Value.type "set_iterator"/\o.data=Data.fields #[first,.int i 0,.ref S,.int es.size 0,.int ep 0]/\h.get? S=some so/\so.data=Data.set es ep t/\t.fits es.size=true/\ord.length=es.size /\
    ((∃ (po:Obj) (js:List Nat) (c:Nat),first=Value.ref p/\h.get? p=some po/\po.data=Data.seq (js.map fun j:Nat=>Value.int j 0).toArray c/\ord.map some=js.map fun j=>es[j]?.map (·.2))
   \/(∃ sl tk,first=Value.int sl tk/\w.params.followText "set-order" = true/\ord=(pickOrder (w.params.setOrder S ep) es).toList.map (·.2))
   \/(∃ sl:Nat,first=Value.int sl 0/\w.params.followText "set-order" = false/\t.led=true/\es.size<=1/\ord=es.toList.map (·.2)/\(i=0->sl=0)/\(i≠0->∀ j,t.place[0]? = some j->sl=j+1)))
theorem SIt.typeIs {w:World}{s:Shared}{I S p i:Nat}{ord:List Value}(h:SIt w s.heap I S p i ord):s.TypeIs (.ref I) "set_iterator":=by
 obtain ⟨o,so,first,es,ep,t,ho,hc,-⟩:=h
 exact ⟨o,ho,hc⟩
theorem SIt.kept {w:World}{h h':Heap}{I S p i:Nat}{ord:List Value}(x:SIt w h I S p i ord) (e:∀ b∈[I,S,p],∀ o,h.get? b=some o->h'.get? b=some o):SIt w h' I S p i ord:=by
 obtain ⟨o,so,first,es,ep,t,ho,hc,hd,hso,hsd,hf,hl,m⟩:=x
 refine ⟨o,so,first,es,ep,t,e I (by simp) _ ho,hc,hd,e S (by simp) _ hso,hsd,hf,hl,?_⟩
 rcases m with ⟨po,js,c,m1,m2,m3⟩|m|m
 ·exact .inl ⟨po,js,c,m1,e p (by simp) _ m2,m3⟩
 ·exact .inr (.inl m)
 ·exact .inr (.inr m)
section
variable {X:Cx}
end
section
variable {X:Cx}
theorem ats_strs {Z:Zt}:∀ {vs:List V}{ss:List Str},Ats Z vs (ss.map D.str)->vs=ss.map V.str
 | [],[],_=>rfl
 | v::vs,s::ss,.cons h t=>by
  cases (show v=V.str s from h)
  rw [ats_strs t]
  rfl
unseal PE2
unseal MtR2
end
end L2
namespace L3
open PySem PySem.Spec PyProof.Rows L2
section
variable {X:Cx}{pins:List (Addr×Obj)}{σ:St}{H:Hp}{s:Shared}{a b:Addr}{kvs ms:List (Key×V)}{A:Around}{E:Value->Shared->Prop}
end
section
variable {X:Cx}
unseal MtR2
unseal PE2 PA2
end
end L3
namespace PySem
open Sem (wp)
section
variable {prog:Program}{w:World}{K:Type} [DecidableEq K] {knd:KeyKind prog w K}{A:Around}{E:Value->Shared->Prop}{s:Shared}
def ItmAt (knd:KeyKind prog w K) (h:Heap) (kvs:List (K×Value)) (j:Nat) (v:Value):Prop:=∃ (a:Addr) (key:Value) (k:K) (x:Value),v=.ref a/\kvs[j]? = some (k,x)/\knd.is k key=true/\h.get? a=some { cls:=.type "tuple",data:=.seq #[key,x] }
theorem ItmAt.at {h h':Heap}{kvs:List (K×Value)}{j:Nat}{v:Value}(x:ItmAt knd h kvs j v) (e:∀ a,v=.ref a->∀ o,h.get? a=some o->h'.get? a=some o):ItmAt knd h' kvs j v:=by
 obtain ⟨a,key,k,x,rfl,h1,h2,h3⟩:=x
 exact ⟨a,key,k,x,rfl,h1,h2,e a rfl _ h3⟩
end
end PySem
namespace L2
open PySem PySem.Spec PyProof.Rows L3
section
variable {X:Cx}
end
end L2
namespace L3
open PySem PySem.Spec PyProof.Rows L2
section
variable {X:Cx}
unseal PE2
unseal PSs2
def uFzL (j:Nat) (t:TS2):TS2:=fun E τ M=>onO (τ[j]?).join fun d=>onR d fun p=>match M p with
 | some (.lst ds)=>t E (τ.set j (some (.lst ds))) (del M p)
 | _=>False
theorem qss_fzL (j:Nat) {body:List Stmt}{t:TS2}(h:PSs2 X body t):PSs2 X body (uFzL j t):=PSs.mono h (by
 rintro D σ H ⟨Z,τ,M,D2,st,hr,h,er⟩
 obtain ⟨d,e,q0⟩:=of_O h
 obtain ⟨p,ed,q⟩:=of_R q0
 subst ed
 obtain ⟨v,e1,a⟩:=st.get (Option.join_eq_some_iff.mp e)
 cases (show v=.ref p from a)
 cases e2:M p with
 | none=>rw [e2] at q;exact q.elim
 | some o =>
  cases o with
  | dic ds=>rw [e2] at q;exact q.elim
  | dct ds=>rw [e2] at q;exact q.elim
  | obj C fs=>rw [e2] at q;exact q.elim
  | lst kvs =>
   rw [e2] at q
   have q':t D2 (τ.set j (some (.lst kvs))) (del M p):=q
   have st2:=(st.mono (Le.ext (p:=p) (d:=.lst kvs))).set (x:=.ref p) (d:=.lst kvs) ⟨p,rfl,.inr ⟨rfl,rfl⟩⟩ j
   have e3:σ.set j (some (.ref p))=σ:=by
    apply List.ext_getElem?
    intro i
    rw [List.getElem?_set]
    by_cases hij:j=i
    ·subst hij
     obtain ⟨hj,ej⟩:=List.getElem?_eq_some_iff.mp e1
     simp [hj,ej]
    ·simp [hij]
   rw [e3] at st2
   exact ⟨_,_,_,D2,st2,hr.frzL e2,q',er.le Le.ext⟩)
section
variable {te:TE2}{pos:Pos}
unseal PI2
end
end
end L3
namespace PySem
open Sem (wp)
section
variable {prog:Program}{w:World}{A:Around}{E:Value->Shared->Prop}{s:Shared}{a:Addr}
end
section
variable {prog:Program}{w:World}{K:Type} [DecidableEq K] {knd:KeyKind prog w K}{A:Around}{E:Value->Shared->Prop}
end
end PySem
namespace L3
open PySem PySem.Spec PyProof.Rows L2
section
variable {X:Cx}
theorem cons_ofL {α β:Type}{F:α->β->Prop}{l:List β}{b:α}{m:List α}(h:Paired F (b::m) l):∃ x r,l=x::r/\F b x/\Paired F m r:=by
 cases h with
 | cons h t=>exact ⟨_,_,rfl,h,t⟩
theorem nil_ofL {α β:Type}{F:α->β->Prop}{l:List β}(h:Paired F [] l):l=[]:=by cases h;rfl
unseal CallR2
end
end L3
namespace L2
open PySem PySem.Spec PyProof.Rows L3
theorem strs_of:∀ {zs:List Str}{its:List Value},Vals (zs.map V.str) its->∃ l:List (Str×Tok),its=strValues l/\l.map (·.1)=zs
 | [],its,h=>by
  have e:=nil_ofL h
  subst e
  exact ⟨[],rfl,rfl⟩
 | z::zs,its,h=>by
  obtain ⟨u,r,rfl,hu,t⟩:=cons_ofL h
  obtain ⟨tk,rfl⟩:=(show ∃ tk,u=Value.str z tk from hu)
  obtain ⟨l,rfl,e⟩:=strs_of t
  exact ⟨(z,tk)::l,rfl,by rw [List.map_cons,e]⟩
theorem szL {n:Nat}(h:n<=1000):n<=sizeLine:=by rw [sizeLine_eq];omega
def lens (zs:List Str):Nat:=(zs.map Str.length).sum
theorem fold_size {sep:Str}(hs:sep.length=0):∀ (zs:List Str) (a:Array Nat),(zs.foldl (fun acc p=>acc++sep.cps++p.cps) a).size=a.size+lens zs
 | [],a=>by simp [lens]
 | z::zs,a=>by
  rw [List.foldl_cons,fold_size hs zs]
  have h1:sep.cps.size=0:=hs
  rw [Array.size_append,Array.size_append,h1]
  unfold lens
  rw [List.map_cons,List.sum_cons]
  show a.size+0+z.length+_=_
  omega
theorem glued_len {sep:Str}(hs:sep.length=0) (zs:List Str):(Builtin.Str.glued sep zs).length=lens zs:=by
 unfold Builtin.Str.glued
 show (Array.size _)=_
 rw [fold_size hs]
 cases zs with
 | nil=>rfl
 | cons z zs=>rfl
section
variable {X:Cx}
def rJoin (K:PySem.W.Frag):V->List V->Hp->VK->Prop:=fun x vs H Q=>∃ sep p zs,x=.str sep/\vs=[.ref p]/\SqL K H p (zs.map V.str)/\sep.length=0/\lens zs<=1000/\∀ r:Str,r.length=lens zs->Q (.str r) H
theorem join_fold {sep:Str}(hs:sep.length=0):∀ (zs:List Str) (n:Nat),zs.foldl (fun acc p=>acc+p.length+sep.length) n=n+lens zs
 | [],n=>by simp [lens]
 | z::zs,n=>by
  rw [List.foldl_cons,join_fold hs zs,hs]
  unfold lens
  rw [List.map_cons,List.sum_cons]
  omega
theorem mt_join:MtR X "str.join" (rJoin X.K):=by
 intro pins s σ H x vs v us Q I rx rv h
 obtain ⟨sep,p,zs,rfl,rfl,hB,h0,hz,q⟩:=h
 obtain ⟨t,rfl⟩:=(show ∃ t,v=Value.str sep t from rx)
 obtain ⟨u,rfl,ru⟩:=rv.one
 have eu:u=Value.ref p:=ru
 subst eu
 obtain ⟨its,r2,pl,z2⟩:=I.list hB
 obtain ⟨l,rfl,e⟩:=strs_of r2
 have hl:Builtin.Str.tooLong ((l.map (·.1)).toArray.foldl (fun acc p=>acc+p.length+sep.length) 0)=false:=by
  rw [<- Array.foldl_toList,e,List.toList_toArray]<;>try rfl
  rw [join_fold h0,Nat.zero_add]
  unfold Builtin.Str.tooLong
  exact decide_eq_false (by have:=szL hz;omega)
 refine call_meets PySem.F.slot_str_join (typeIs_str s sep t) PySem.F.entry_str_join (PySem.F.args_str_join_2 _ _) (meets_str_join_list sep t p l hl) ⟨pl.isList,?_⟩
 have fin:∀ (r:Str) (tk:Tok) (tk':Nat),r.length=lens zs->EP X pins σ Q (.str r tk) { s with toks:=tk' }:=fun r tk tk' hr=>⟨.str r,H,I.tok _,⟨tk,rfl⟩,q r hr⟩
 match l,e with
 | [(z,tk)],e =>
  have e':zs=[z]:=e.symm
  exact fin z tk s.toks (by rw [e'];simp [lens])
 | [],e =>
  have e':zs=[]:=e.symm
  subst e'
  exact ⟨by rw [glued_len h0];exact szL (by simp [lens]),fin _ _ _ (glued_len h0 _)⟩
 | a::b::l,e =>
  refine ⟨?_,?_⟩
  ·rw [glued_len h0,e]
   exact szL hz
  ·refine fin _ _ _ ?_
   rw [glued_len h0,e]
theorem op_rep_str:OpR X (binaryOp .Mult) (fun x y H Q=>∃ z n,x=.str z/\y=.int n/\(0<=n/\n<=100/\z.length<=1000)/\∀ r:Str,r.length<=z.length*n.toNat->Q (.str r) H):=by
 intro pins s σ H x y v u Q I rx ry h
 obtain ⟨z,n,rfl,rfl,⟨h0,h1,h2⟩,q⟩:=h
 obtain ⟨t,rfl⟩:=(show ∃ t,v=Value.str z t from rx)
 obtain ⟨t',rfl⟩:=(show ∃ t,u=Value.int n t from ry)
 have hm:z.length*n.toNat<=1000*100:=Nat.mul_le_mul h2 (by omega)
 have fin:∀ (r:Str) (tk:Tok) (tk':Nat),r.length<=z.length*n.toNat->EP X pins σ Q (.str r tk) { s with toks:=tk' }:=fun r tk tk' hr=>⟨.str r,H,I.tok _,⟨tk,rfl⟩,q r hr⟩
 refine P.mul_str ?_ ?_ ?_ ?_
 ·rw [decide_eq_false (by omega),decide_eq_false (by omega)]
  rfl
 ·intro h3 _ h4
  have:(1000:Int)<(2^63-1) / n:=by
   have:(92233720368547758:Int)<=(2^63-1) / n:=Int.le_ediv_of_mul_le (by omega) (by omega)
   omega
  omega
 ·intro h3 _
  unfold Builtin.Str.tooLong
  exact decide_eq_false (by rw [sizeLine_eq];omega)
 ·split
  ·exact ⟨by show Array.size _<=_;decide,fin _ _ _ (Nat.zero_le _)⟩
  ·split
   ·next h3 h4 =>
    refine fin _ _ s.toks ?_
    rcases (by simpa using h4:n=1\/z.length=0) with h|h
    ·rw [h];simp
    ·rw [h];exact Nat.zero_le _
   ·have hl:∀ (k:Nat) (a:Array Nat),((List.replicate k z.cps).foldl (·++·) a).size=a.size+k*z.length:=by
     intro k
     induction k with
     | zero=>intro a;simp
     | succ k ih =>
      intro a
      rw [List.replicate_succ,List.foldl_cons,ih,Array.size_append,Nat.succ_mul]
      show a.size+z.length+_=_
      omega
    have e:(⟨(List.replicate n.toNat z.cps).foldl (·++·) #[]⟩:Str).length=z.length*n.toNat:=by
     show Array.size _=_
     rw [hl,Nat.mul_comm]
     simp
    exact ⟨by rw [e,sizeLine_eq];omega,fin _ _ _ (by rw [e];exact Nat.le_refl _)⟩
end
end L2
namespace L3
open PySem PySem.Spec PyProof.Rows L2
section
variable {X:Cx}
unseal MtR2 OpR2
theorem o_rep_str:OpR2 X (binaryOp .Mult) (fun x y M Q=>onS x fun z=>onI y fun n=>(0<=n/\n<=100/\z.length<=1000)/\∀ r:Str,r.length<=z.length*n.toNat->Q (.str r) M):=OpR.mono op_rep_str (by
 rintro x y H Q ⟨Z,dx,dy,M,Q2,hr,ax,ay,h,k⟩
 obtain ⟨z,rfl,h1⟩:=of_S h
 obtain ⟨n,rfl,hz,q⟩:=of_I h1
 exact ⟨z,n,ax,ay,hz,fun r hr'=>k.s hr (q r hr')⟩)
theorem m_join:MtR2 X "str.join" (fun x xs M Q=>onS x fun sep=>on1 xs fun y=>onO (lsOf M y) fun ds=>onO (strsOf ds) fun zs=>(sep.length=0/\lens zs<=1000)/\∀ r:Str,r.length=lens zs->Q (.str r) M):=MtR.mono mt_join (by
 rintro x xs H Q ⟨Z,d,ds,M,Q2,hr,a,as,h,k⟩
 obtain ⟨sep,rfl,h1⟩:=of_S h
 obtain ⟨y,rfl,h2⟩:=of_1 h1
 obtain ⟨ds',e1,h3⟩:=of_O h2
 obtain ⟨zs,e2,⟨h0,hz⟩,q⟩:=of_O h3
 obtain ⟨v,rfl,av⟩:=ats1 as
 obtain ⟨b,ws,rfl,hs,a3⟩:=hr.rdL e1 av
 have e3:=strsOf_eq e2
 subst e3
 have e4:=ats_strs a3
 subst e4
 exact ⟨sep,b,zs,a,rfl,hs,h0,hz,fun r hr'=>k.s hr (q r hr')⟩)
end
end L3
namespace L3
open PySem PySem.Spec PyProof.Rows L2
unseal OpR2
end L3
namespace L3
open PySem PySem.Spec PyProof.Rows L2
unseal OpR2
unseal PE2
end L3
namespace L3
open PySem PySem.Spec PyProof.Rows L2
theorem hu45 {A:Around}{k:Nat}(hr:Room k A):A.units+45<cLine:=Nat.lt_of_le_of_lt (Nat.add_le_add_left (by decide:45<=64) _) hr.units
theorem hu41 {A:Around}{k:Nat}(hr:Room k A):A.units+41<cLine:=Nat.lt_of_le_of_lt (Nat.add_le_add_left (by decide:41<=64) _) hr.units
def on3 (xs:List D) (k:D->D->D->Prop):Prop:=match xs with
 | [x,y,z]=>k x y z
 | _=>False
def on4 (xs:List D) (k:D->D->D->D->Prop):Prop:=match xs with
 | [x,y,z,w]=>k x y z w
 | _=>False
def on5 (xs:List D) (k:D->D->D->D->D->Prop):Prop:=match xs with
 | [x,y,z,w,v]=>k x y z w v
 | _=>False
theorem of_3 {xs:List D}{k:D->D->D->Prop}(h:on3 xs k):∃ x y z,xs=[x,y,z]/\k x y z:=by
 match xs,h with
 | [x,y,z],h=>exact ⟨x,y,z,rfl,h⟩
theorem of_4 {xs:List D}{k:D->D->D->D->Prop}(h:on4 xs k):∃ x y z w,xs=[x,y,z,w]/\k x y z w:=by
 match xs,h with
 | [x,y,z,w],h=>exact ⟨x,y,z,w,rfl,h⟩
theorem of_5 {xs:List D}{k:D->D->D->D->D->Prop}(h:on5 xs k):∃ x y z w v,xs=[x,y,z,w,v]/\k x y z w v:=by
 match xs,h with
 | [x,y,z,w,v],h=>exact ⟨x,y,z,w,v,rfl,h⟩
theorem r_on3 {x y z:D}{k:D->D->D->Prop}:on3 [x,y,z] k=k x y z:=rfl
theorem r_on4 {x y z w:D}{k:D->D->D->D->Prop}:on4 [x,y,z,w] k=k x y z w:=rfl
theorem r_on5 {x y z w v:D}{k:D->D->D->D->D->Prop}:on5 [x,y,z,w,v] k=k x y z w v:=rfl
theorem at_memG {α:Type}{xs:List α}{i:Int}(h0:0<=i) (h1:i<(xs.length:Int)):∃ v,atI xs i=some v/\v∈xs:=by
 obtain ⟨j,rfl⟩:∃ j:Nat,i=(j:Int):=⟨i.toNat,by omega⟩
 have hk:j<xs.length:=by omega
 exact ⟨xs[j],atI_nat (List.getElem?_eq_getElem hk),List.getElem_mem hk⟩
section
variable {τ:St2}{M:Mp}{Q:VK2}{QT:Bool->Mp->Prop}{QA:List D->Mp->Prop}{QO:Option Int->Mp->Prop}{E:Ends2}{d:D}{te ta tb tc:TE2}{tt t1 t2:TT2}{tA:TA2}{s1 s2:TS2}{o:Option D}
theorem r_v0:uVar 0 (some d::τ) M Q=Q d M:=rfl
theorem r_s0:uSet 0 te E (o::τ) M=te (o::τ) M fun x M1=>E.nx (some x::τ) M1:=rfl
theorem r_n0 {k:St2->Prop}:hName 0 d (o::τ) k=k (some d::τ):=rfl
theorem r_v1 {a0:Option D}:uVar 1 (a0::some d::τ) M Q=Q d M:=rfl
theorem r_s1 {a0:Option D}:uSet 1 te E (a0::o::τ) M=te (a0::o::τ) M fun x M1=>E.nx (a0::some x::τ) M1:=rfl
theorem r_n1 {a0:Option D}{k:St2->Prop}:hName 1 d (a0::o::τ) k=k (a0::some d::τ):=rfl
theorem r_v2 {a0 a1:Option D}:uVar 2 (a0::a1::some d::τ) M Q=Q d M:=rfl
theorem r_s2 {a0 a1:Option D}:uSet 2 te E (a0::a1::o::τ) M=te (a0::a1::o::τ) M fun x M1=>E.nx (a0::a1::some x::τ) M1:=rfl
theorem r_n2 {a0 a1:Option D}{k:St2->Prop}:hName 2 d (a0::a1::o::τ) k=k (a0::a1::some d::τ):=rfl
theorem r_v3 {a0 a1 a2:Option D}:uVar 3 (a0::a1::a2::some d::τ) M Q=Q d M:=rfl
theorem r_s3 {a0 a1 a2:Option D}:uSet 3 te E (a0::a1::a2::o::τ) M=te (a0::a1::a2::o::τ) M fun x M1=>E.nx (a0::a1::a2::some x::τ) M1:=rfl
theorem r_n3 {a0 a1 a2:Option D}{k:St2->Prop}:hName 3 d (a0::a1::a2::o::τ) k=k (a0::a1::a2::some d::τ):=rfl
theorem r_v4 {a0 a1 a2 a3:Option D}:uVar 4 (a0::a1::a2::a3::some d::τ) M Q=Q d M:=rfl
theorem r_s4 {a0 a1 a2 a3:Option D}:uSet 4 te E (a0::a1::a2::a3::o::τ) M=te (a0::a1::a2::a3::o::τ) M fun x M1=>E.nx (a0::a1::a2::a3::some x::τ) M1:=rfl
theorem r_n4 {a0 a1 a2 a3:Option D}{k:St2->Prop}:hName 4 d (a0::a1::a2::a3::o::τ) k=k (a0::a1::a2::a3::some d::τ):=rfl
theorem r_v5 {a0 a1 a2 a3 a4:Option D}:uVar 5 (a0::a1::a2::a3::a4::some d::τ) M Q=Q d M:=rfl
theorem r_s5 {a0 a1 a2 a3 a4:Option D}:uSet 5 te E (a0::a1::a2::a3::a4::o::τ) M=te (a0::a1::a2::a3::a4::o::τ) M fun x M1=>E.nx (a0::a1::a2::a3::a4::some x::τ) M1:=rfl
theorem r_n5 {a0 a1 a2 a3 a4:Option D}{k:St2->Prop}:hName 5 d (a0::a1::a2::a3::a4::o::τ) k=k (a0::a1::a2::a3::a4::some d::τ):=rfl
theorem r_v6 {a0 a1 a2 a3 a4 a5:Option D}:uVar 6 (a0::a1::a2::a3::a4::a5::some d::τ) M Q=Q d M:=rfl
theorem r_s6 {a0 a1 a2 a3 a4 a5:Option D}:uSet 6 te E (a0::a1::a2::a3::a4::a5::o::τ) M=te (a0::a1::a2::a3::a4::a5::o::τ) M fun x M1=>E.nx (a0::a1::a2::a3::a4::a5::some x::τ) M1:=rfl
theorem r_n6 {a0 a1 a2 a3 a4 a5:Option D}{k:St2->Prop}:hName 6 d (a0::a1::a2::a3::a4::a5::o::τ) k=k (a0::a1::a2::a3::a4::a5::some d::τ):=rfl
theorem r_v7 {a0 a1 a2 a3 a4 a5 a6:Option D}:uVar 7 (a0::a1::a2::a3::a4::a5::a6::some d::τ) M Q=Q d M:=rfl
theorem r_s7 {a0 a1 a2 a3 a4 a5 a6:Option D}:uSet 7 te E (a0::a1::a2::a3::a4::a5::a6::o::τ) M=te (a0::a1::a2::a3::a4::a5::a6::o::τ) M fun x M1=>E.nx (a0::a1::a2::a3::a4::a5::a6::some x::τ) M1:=rfl
theorem r_n7 {a0 a1 a2 a3 a4 a5 a6:Option D}{k:St2->Prop}:hName 7 d (a0::a1::a2::a3::a4::a5::a6::o::τ) k=k (a0::a1::a2::a3::a4::a5::a6::some d::τ):=rfl
theorem r_v8 {a0 a1 a2 a3 a4 a5 a6 a7:Option D}:uVar 8 (a0::a1::a2::a3::a4::a5::a6::a7::some d::τ) M Q=Q d M:=rfl
theorem r_s8 {a0 a1 a2 a3 a4 a5 a6 a7:Option D}:uSet 8 te E (a0::a1::a2::a3::a4::a5::a6::a7::o::τ) M=te (a0::a1::a2::a3::a4::a5::a6::a7::o::τ) M fun x M1=>E.nx (a0::a1::a2::a3::a4::a5::a6::a7::some x::τ) M1:=rfl
theorem r_n8 {a0 a1 a2 a3 a4 a5 a6 a7:Option D}{k:St2->Prop}:hName 8 d (a0::a1::a2::a3::a4::a5::a6::a7::o::τ) k=k (a0::a1::a2::a3::a4::a5::a6::a7::some d::τ):=rfl
theorem r_v9 {a0 a1 a2 a3 a4 a5 a6 a7 a8:Option D}:uVar 9 (a0::a1::a2::a3::a4::a5::a6::a7::a8::some d::τ) M Q=Q d M:=rfl
theorem r_s9 {a0 a1 a2 a3 a4 a5 a6 a7 a8:Option D}:uSet 9 te E (a0::a1::a2::a3::a4::a5::a6::a7::a8::o::τ) M=te (a0::a1::a2::a3::a4::a5::a6::a7::a8::o::τ) M fun x M1=>E.nx (a0::a1::a2::a3::a4::a5::a6::a7::a8::some x::τ) M1:=rfl
theorem r_n9 {a0 a1 a2 a3 a4 a5 a6 a7 a8:Option D}{k:St2->Prop}:hName 9 d (a0::a1::a2::a3::a4::a5::a6::a7::a8::o::τ) k=k (a0::a1::a2::a3::a4::a5::a6::a7::a8::some d::τ):=rfl
theorem r_v10 {a0 a1 a2 a3 a4 a5 a6 a7 a8 a9:Option D}:uVar 10 (a0::a1::a2::a3::a4::a5::a6::a7::a8::a9::some d::τ) M Q=Q d M:=rfl
theorem r_s10 {a0 a1 a2 a3 a4 a5 a6 a7 a8 a9:Option D}:uSet 10 te E (a0::a1::a2::a3::a4::a5::a6::a7::a8::a9::o::τ) M=te (a0::a1::a2::a3::a4::a5::a6::a7::a8::a9::o::τ) M fun x M1=>E.nx (a0::a1::a2::a3::a4::a5::a6::a7::a8::a9::some x::τ) M1:=rfl
theorem r_n10 {a0 a1 a2 a3 a4 a5 a6 a7 a8 a9:Option D}{k:St2->Prop}:hName 10 d (a0::a1::a2::a3::a4::a5::a6::a7::a8::a9::o::τ) k=k (a0::a1::a2::a3::a4::a5::a6::a7::a8::a9::some d::τ):=rfl
theorem r_v11 {a0 a1 a2 a3 a4 a5 a6 a7 a8 a9 a10:Option D}:uVar 11 (a0::a1::a2::a3::a4::a5::a6::a7::a8::a9::a10::some d::τ) M Q=Q d M:=rfl
theorem r_s11 {a0 a1 a2 a3 a4 a5 a6 a7 a8 a9 a10:Option D}:uSet 11 te E (a0::a1::a2::a3::a4::a5::a6::a7::a8::a9::a10::o::τ) M=te (a0::a1::a2::a3::a4::a5::a6::a7::a8::a9::a10::o::τ) M fun x M1=>E.nx (a0::a1::a2::a3::a4::a5::a6::a7::a8::a9::a10::some x::τ) M1:=rfl
theorem r_n11 {a0 a1 a2 a3 a4 a5 a6 a7 a8 a9 a10:Option D}{k:St2->Prop}:hName 11 d (a0::a1::a2::a3::a4::a5::a6::a7::a8::a9::a10::o::τ) k=k (a0::a1::a2::a3::a4::a5::a6::a7::a8::a9::a10::some d::τ):=rfl
theorem r_v12 {a0 a1 a2 a3 a4 a5 a6 a7 a8 a9 a10 a11:Option D}:uVar 12 (a0::a1::a2::a3::a4::a5::a6::a7::a8::a9::a10::a11::some d::τ) M Q=Q d M:=rfl
theorem r_s12 {a0 a1 a2 a3 a4 a5 a6 a7 a8 a9 a10 a11:Option D}:uSet 12 te E (a0::a1::a2::a3::a4::a5::a6::a7::a8::a9::a10::a11::o::τ) M=te (a0::a1::a2::a3::a4::a5::a6::a7::a8::a9::a10::a11::o::τ) M fun x M1=>E.nx (a0::a1::a2::a3::a4::a5::a6::a7::a8::a9::a10::a11::some x::τ) M1:=rfl
theorem r_n12 {a0 a1 a2 a3 a4 a5 a6 a7 a8 a9 a10 a11:Option D}{k:St2->Prop}:hName 12 d (a0::a1::a2::a3::a4::a5::a6::a7::a8::a9::a10::a11::o::τ) k=k (a0::a1::a2::a3::a4::a5::a6::a7::a8::a9::a10::a11::some d::τ):=rfl
theorem r_v13 {a0 a1 a2 a3 a4 a5 a6 a7 a8 a9 a10 a11 a12:Option D}:uVar 13 (a0::a1::a2::a3::a4::a5::a6::a7::a8::a9::a10::a11::a12::some d::τ) M Q=Q d M:=rfl
theorem r_s13 {a0 a1 a2 a3 a4 a5 a6 a7 a8 a9 a10 a11 a12:Option D}:uSet 13 te E (a0::a1::a2::a3::a4::a5::a6::a7::a8::a9::a10::a11::a12::o::τ) M=te (a0::a1::a2::a3::a4::a5::a6::a7::a8::a9::a10::a11::a12::o::τ) M fun x M1=>E.nx (a0::a1::a2::a3::a4::a5::a6::a7::a8::a9::a10::a11::a12::some x::τ) M1:=rfl
theorem r_n13 {a0 a1 a2 a3 a4 a5 a6 a7 a8 a9 a10 a11 a12:Option D}{k:St2->Prop}:hName 13 d (a0::a1::a2::a3::a4::a5::a6::a7::a8::a9::a10::a11::a12::o::τ) k=k (a0::a1::a2::a3::a4::a5::a6::a7::a8::a9::a10::a11::a12::some d::τ):=rfl
theorem r_v14 {a0 a1 a2 a3 a4 a5 a6 a7 a8 a9 a10 a11 a12 a13:Option D}:uVar 14 (a0::a1::a2::a3::a4::a5::a6::a7::a8::a9::a10::a11::a12::a13::some d::τ) M Q=Q d M:=rfl
theorem r_s14 {a0 a1 a2 a3 a4 a5 a6 a7 a8 a9 a10 a11 a12 a13:Option D}:uSet 14 te E (a0::a1::a2::a3::a4::a5::a6::a7::a8::a9::a10::a11::a12::a13::o::τ) M=te (a0::a1::a2::a3::a4::a5::a6::a7::a8::a9::a10::a11::a12::a13::o::τ) M fun x M1=>E.nx (a0::a1::a2::a3::a4::a5::a6::a7::a8::a9::a10::a11::a12::a13::some x::τ) M1:=rfl
theorem r_n14 {a0 a1 a2 a3 a4 a5 a6 a7 a8 a9 a10 a11 a12 a13:Option D}{k:St2->Prop}:hName 14 d (a0::a1::a2::a3::a4::a5::a6::a7::a8::a9::a10::a11::a12::a13::o::τ) k=k (a0::a1::a2::a3::a4::a5::a6::a7::a8::a9::a10::a11::a12::a13::some d::τ):=rfl
theorem r_v15 {a0 a1 a2 a3 a4 a5 a6 a7 a8 a9 a10 a11 a12 a13 a14:Option D}:uVar 15 (a0::a1::a2::a3::a4::a5::a6::a7::a8::a9::a10::a11::a12::a13::a14::some d::τ) M Q=Q d M:=rfl
theorem r_s15 {a0 a1 a2 a3 a4 a5 a6 a7 a8 a9 a10 a11 a12 a13 a14:Option D}:uSet 15 te E (a0::a1::a2::a3::a4::a5::a6::a7::a8::a9::a10::a11::a12::a13::a14::o::τ) M=te (a0::a1::a2::a3::a4::a5::a6::a7::a8::a9::a10::a11::a12::a13::a14::o::τ) M fun x M1=>E.nx (a0::a1::a2::a3::a4::a5::a6::a7::a8::a9::a10::a11::a12::a13::a14::some x::τ) M1:=rfl
theorem r_n15 {a0 a1 a2 a3 a4 a5 a6 a7 a8 a9 a10 a11 a12 a13 a14:Option D}{k:St2->Prop}:hName 15 d (a0::a1::a2::a3::a4::a5::a6::a7::a8::a9::a10::a11::a12::a13::a14::o::τ) k=k (a0::a1::a2::a3::a4::a5::a6::a7::a8::a9::a10::a11::a12::a13::a14::some d::τ):=rfl
theorem r_c:uC d τ M Q=Q d M:=rfl
theorem r_op {r:R22}:uOp r ta tb τ M Q=ta τ M fun x M1=>tb τ M1 fun y M2=>r x y M2 Q:=rfl
theorem r_test:uTest te τ M QT=te τ M fun x M1=>onB x fun c=>QT c M1:=rfl
theorem r_chain {r r':R22}:uChain r r' ta tb tc τ M Q=ta τ M fun x M1=>tb τ M1 fun y M2=>r x y M2 fun z M3=>onB z fun k=>if k=true then tc τ M3 fun w M4=>r' y w M4 Q else Q (.bl false) M3:=rfl
theorem r_un {r:D->Mp->VK2->Prop}:uUn r ta τ M Q=ta τ M fun x M1=>r x M1 Q:=rfl
theorem r_or:uOr t1 t2 τ M QT=t1 τ M fun c M1=>if c=true then QT true M1 else t2 τ M1 QT:=rfl
theorem r_not:uNot t1 τ M QT=t1 τ M fun c M1=>QT (!c) M1:=rfl
theorem r_andV:uAndV ta tb τ M Q=ta τ M fun x M1=>onB x fun c=>if c=true then tb τ M1 Q else Q (.bl false) M1:=rfl
theorem r_notV:uNotV ta τ M Q=ta τ M fun x M1=>onB x fun c=>Q (.bl (!c)) M1:=rfl
theorem r_cs {ds:List D}:uCs ds τ M QA=QA ds M:=rfl
theorem r_nil:uNil τ M QA=QA [] M:=rfl
theorem r_cons:uCons te tA τ M QA=te τ M fun x M1=>tA τ M1 fun xs M2=>QA (x::xs) M2:=rfl
theorem r_tup:uTup tA τ M Q=tA τ M fun xs M1=>xs.length<=sizeLine/\Q (.tup xs) M1:=rfl
theorem r_lstF:uLstF tA τ M Q=tA τ M fun xs M1=>xs.length<=sizeLine/\Q (.lst xs) M1:=rfl
theorem r_lst:uLst tA τ M Q=tA τ M fun xs M1=>xs.length<=sizeLine/\∀ p,M1 p=none->Q (.ref p) (put M1 p (.lst xs)):=rfl
theorem r_cb {r:List D->Mp->VK2->Prop}:uCB r tA τ M Q=tA τ M fun xs M1=>r xs M1 Q:=rfl
theorem r_call {sp:Sp2}:uCall sp tA τ M Q=tA τ M fun xs M1=>sp xs M1 Q:=rfl
theorem r_nopart:uNoPart τ M QO=QO none M:=rfl
theorem r_part:uPart te τ M QO=te τ M fun x M1=>onI x fun i=>QO (some i) M1:=rfl
theorem r_sl {r:D->Option Int->Option Int->Mp->VK2->Prop}{tl th:TO2}:uSl r te tl th τ M Q=te τ M fun x M1=>tl τ M1 fun l M2=>th τ M2 fun u M3=>r x l u M3 Q:=rfl
theorem r_next:uNext E τ M=E.nx τ M:=rfl
theorem r_seq:uSeq s1 s2 E τ M=s1 { E with nx:=s2 E } τ M:=rfl
theorem r_drop:uDrop te E τ M=te τ M fun _ M1=>E.nx τ M1:=rfl
theorem r_ret:uRet te E τ M=te τ M E.rt:=rfl
theorem r_ifS:uIfS tt s1 s2 E τ M=tt τ M fun b M1=>if b=true then s1 E τ M1 else s2 E τ M1:=rfl
theorem r_for {ti:TI2}{g:TG2}:uFor ti g s1 E τ M=ti τ M fun xs S M1=>Loop xs S g s1 E τ M1:=rfl
theorem r_wlist {R:List D->(Mp->Prop)->Mp->Prop}:wList te τ M R=te τ M fun x M1=>onO (lsOf M1 x) fun xs=>R xs (fun M=>lsOf M x=some xs) M1:=rfl
theorem r_wrng1 {R:List D->(Mp->Prop)->Mp->Prop}:wRng1 tA τ M R=tA τ M fun xs M1=>on1 xs fun x=>onI x fun j=>(-(2^62)<=j/\j<2^62)/\R (rngD 0 j.toNat) (fun _=>True) M1:=rfl
theorem r_compF {wi:TI2}{caps:List (Str×Nat)}:uCompF wi caps tt te τ M Q=wi τ M fun xs S M1=>Comp xs S caps tt te τ M1 fun ys M2=>Q (.lst ys) M2:=rfl
theorem r_bm {T:String}{r:D->List D->Mp->VK2->Prop}:uBM T r te tA τ M Q=te τ M fun x M1=>tyD M1 x=some T/\tA τ M1 fun xs M2=>r x xs M2 Q:=rfl
theorem r_true:uTrue τ M QT=QT true M:=rfl
theorem r_frz:uFrz te τ M Q=te τ M fun d M1=>onR d fun p=>match M1 p with | some (.lst ds)=>Q (.lst ds) (del M1 p) | some (.dic ds)=>Q (.dic ds) (del M1 p) | some (.dct ds)=>Q (.dct ds) (del M1 p) | _=>False:=rfl
end
section
variable {M:Mp}{Q:VK2}{x y:D}{i j:Int}{b:Bool}{z:Str}{p:Addr}{xs ys:List D}
theorem r_onI {k:Int->Prop}:onI (.int i) k=k i:=rfl
theorem r_onB {k:Bool->Prop}:onB (.bl b) k=k b:=rfl
theorem r_onS {k:Str->Prop}:onS (.str z) k=k z:=rfl
theorem r_onR {k:Addr->Prop}:onR (.ref p) k=k p:=rfl
theorem r_onO {α:Type}{a:α}{k:α->Prop}:onO (some a) k=k a:=rfl
theorem r_ixS:sIxS x y M Q=onS x fun z=>onI y fun i=>z.length<=sizeLine/\onO (atI z.cps.toList i) fun c=>Q (.str ⟨#[c]⟩) M:=rfl
theorem r_slS {l u:Option Int}:sSlS x l u M Q=onS x fun z=>z.length<=sizeLine/\Q (.str (PySem.Txt.slice z l u)) M:=rfl
theorem r_on1 {k:D->Prop}:on1 [x] k=k x:=rfl
theorem r_on2 {k:D->D->Prop}:on2 [x,y] k=k x y:=rfl
theorem r_sI {C:Int->Int->Prop}{g:Int->Int->D}:sI C g (.int i) (.int j) M Q=(C i j/\Q (g i j) M):=rfl
theorem r_sI0 {g:Int->Int->D}:sI0 g (.int i) (.int j) M Q=Q (g i j) M:=rfl
theorem r_sU {g:Int->D}:sU g (.int i) M Q=Q (g i) M:=rfl
theorem r_eqI:sEq false (.int i) (.int j) M Q=(true=true/\Q (.bl (decide (i=j))) M):=rfl
theorem r_neI:sEq true (.int i) (.int j) M Q=(true=true/\Q (.bl (!decide (i=j))) M):=rfl
theorem r_eqS {z':Str}:sEq false (.str z) (.str z') M Q=(true=true/\Q (.bl (decide (z=z'))) M):=rfl
theorem r_neS {z':Str}:sEq true (.str z) (.str z') M Q=(true=true/\Q (.bl (!decide (z=z'))) M):=rfl
theorem r_eqB {b':Bool}:sEq false (.bl b) (.bl b') M Q=(true=true/\Q (.bl (b == b')) M):=rfl
theorem r_neB {b':Bool}:sEq true (.bl b) (.bl b') M Q=(true=true/\Q (.bl (!(b == b'))) M):=rfl
theorem r_isi {c c':String}:sIsi c [x,.ty c'] M Q=(c'=c/\onO (tyD M x) fun t=>onO (isiD t c) fun b=>Q (.bl b) M):=rfl
theorem r_ixT:sIxT (.tup xs) (.int i) M Q=onO (atI xs i) fun v=>Q v M:=rfl
theorem r_ixL:sIxL x y M Q=onO (lsOf M x) fun xs=>onI y fun i=>onO (atI xs i) fun v=>Q v M:=rfl
theorem r_slF {l u:Option Int}:sSlF x l u M Q=onO (lsOf M x) fun xs=>Q (.lst (cutD xs l u)) M:=rfl
theorem r_catF:sCatF x y M Q=onO (lsOf M x) fun xs=>onO (lsOf M y) fun ys=>xs.length+ys.length<=sizeLine/\Q (.lst (xs++ys)) M:=rfl
theorem r_eqTT {n:Bool}:sEqS n (.tup xs) (.tup ys) M Q=onO (cmpL (cmpD M 40) xs ys) fun b=>Q (.bl (if n then !b else b)) M:=rfl
theorem r_eqLL {n:Bool}:sEqS n (.lst xs) (.lst ys) M Q=onO (cmpL (cmpD M 40) xs ys) fun b=>Q (.bl (if n then !b else b)) M:=rfl
theorem r_eqRx {n:Bool}:sEqS n (.ref p) y M Q=onO (lsOf M (.ref p)) fun xs=>onO (lsOf M y) fun ys=>onO (cmpL (cmpD M 40) xs ys) fun b=>Q (.bl (if n then !b else b)) M:=rfl
theorem r_eqLx {n:Bool}:sEqS n (.lst xs) y M Q=onO (lsOf M y) fun ys=>onO (cmpL (cmpD M 40) xs ys) fun b=>Q (.bl (if n then !b else b)) M:=rfl
theorem r_flint:flatD (.int i)=true:=rfl
theorem r_flstr:flatD (.str z)=true:=rfl
theorem r_flbl:flatD (.bl b)=true:=rfl
theorem r_flnon:flatD .non=true:=rfl
theorem r_eqFi:eqF (.int i) (.int j)=decide (i=j):=rfl
theorem r_eqFs {z':Str}:eqF (.str z) (.str z')=decide (z=z'):=rfl
theorem r_lsL:lsOf M (.lst xs)=some xs:=rfl
theorem r_sqL:sqOf M (.lst xs)=some xs:=rfl
theorem r_sqT:sqOf M (.tup xs)=some xs:=rfl
theorem r_lsP:lsOf (put M p (.lst xs)) (.ref p)=some xs:=by simp [lsOf,put_same]
theorem r_sqP:sqOf (put M p (.lst xs)) (.ref p)=some xs:=by simp [sqOf,lsOf,put_same]
theorem r_tybool:tyD M (.bl b)=some "bool":=rfl
theorem r_tyint:tyD M (.int i)=some "int":=rfl
theorem r_tystr:tyD M (.str z)=some "str":=rfl
theorem r_tytuple:tyD M (.tup xs)=some "tuple":=rfl
theorem r_tylist:tyD M (.lst xs)=some "list":=rfl
theorem r_tynon:tyD M .non=some "NoneType":=rfl
theorem r_typ:tyD (put M p (.lst xs)) (.ref p)=some "list":=by simp [tyD,put_same]
theorem r_is_int_int:isiD "int" "int" = some true:=by decide +kernel
theorem r_is_int_bool:isiD "int" "bool" = some false:=by decide +kernel
theorem r_is_int_str:isiD "int" "str" = some false:=by decide +kernel
theorem r_is_int_list:isiD "int" "list" = some false:=by decide +kernel
theorem r_is_int_tuple:isiD "int" "tuple" = some false:=by decide +kernel
theorem r_is_int_dict:isiD "int" "dict" = some false:=by decide +kernel
theorem r_is_bool_int:isiD "bool" "int" = some true:=by decide +kernel
theorem r_is_bool_bool:isiD "bool" "bool" = some true:=by decide +kernel
theorem r_is_str_int:isiD "str" "int" = some false:=by decide +kernel
theorem r_is_str_bool:isiD "str" "bool" = some false:=by decide +kernel
theorem r_is_str_str:isiD "str" "str" = some true:=by decide +kernel
theorem r_is_str_list:isiD "str" "list" = some false:=by decide +kernel
theorem r_is_str_tuple:isiD "str" "tuple" = some false:=by decide +kernel
theorem r_is_str_dict:isiD "str" "dict" = some false:=by decide +kernel
theorem r_is_list_int:isiD "list" "int" = some false:=by decide +kernel
theorem r_is_list_bool:isiD "list" "bool" = some false:=by decide +kernel
theorem r_is_list_str:isiD "list" "str" = some false:=by decide +kernel
theorem r_is_list_list:isiD "list" "list" = some true:=by decide +kernel
theorem r_is_list_tuple:isiD "list" "tuple" = some false:=by decide +kernel
theorem r_is_list_dict:isiD "list" "dict" = some false:=by decide +kernel
theorem r_is_tuple_int:isiD "tuple" "int" = some false:=by decide +kernel
theorem r_is_tuple_bool:isiD "tuple" "bool" = some false:=by decide +kernel
theorem r_is_tuple_str:isiD "tuple" "str" = some false:=by decide +kernel
theorem r_is_tuple_list:isiD "tuple" "list" = some false:=by decide +kernel
theorem r_is_tuple_tuple:isiD "tuple" "tuple" = some true:=by decide +kernel
theorem r_is_tuple_dict:isiD "tuple" "dict" = some false:=by decide +kernel
theorem r_is_dict_int:isiD "dict" "int" = some false:=by decide +kernel
theorem r_is_dict_bool:isiD "dict" "bool" = some false:=by decide +kernel
theorem r_is_dict_str:isiD "dict" "str" = some false:=by decide +kernel
theorem r_is_dict_list:isiD "dict" "list" = some false:=by decide +kernel
theorem r_is_dict_tuple:isiD "dict" "tuple" = some false:=by decide +kernel
theorem r_is_dict_dict:isiD "dict" "dict" = some true:=by decide +kernel
theorem r_is_NoneType_int:isiD "NoneType" "int" = some false:=by decide +kernel
theorem r_is_NoneType_bool:isiD "NoneType" "bool" = some false:=by decide +kernel
theorem r_is_NoneType_str:isiD "NoneType" "str" = some false:=by decide +kernel
theorem r_is_NoneType_list:isiD "NoneType" "list" = some false:=by decide +kernel
theorem r_is_NoneType_tuple:isiD "NoneType" "tuple" = some false:=by decide +kernel
theorem r_is_NoneType_dict:isiD "NoneType" "dict" = some false:=by decide +kernel
theorem at0 {α:Type}{x:α}{xs:List α}:atI (x::xs) 0=some x:=atI_nat (j:=0) rfl
theorem at1 {α:Type}{x y:α}{xs:List α}:atI (x::y::xs) 1=some y:=atI_nat (j:=1) rfl
theorem at2 {α:Type}{x y z:α}{xs:List α}:atI (x::y::z::xs) 2=some z:=atI_nat (j:=2) rfl
theorem at3 {α:Type}{x y z w:α}{xs:List α}:atI (x::y::z::w::xs) 3=some w:=atI_nat (j:=3) rfl
theorem at4 {α:Type}{x y z w v:α}{xs:List α}:atI (x::y::z::w::v::xs) 4=some v:=atI_nat (j:=4) rfl
theorem r_app:sAppend (.ref p) [x] (put M p (.lst xs)) Q=(xs.length<sizeLine/\Q .non (put M p (.lst (xs++[x])))):=by simp [sAppend,onR,on1,put_same,put_put]
theorem st_c {n:Str}{N:List Str}{d:D}{ds:List D}:startL (n::N) (d::ds)=some d::startL N ds:=rfl
theorem st_n {n:Str}{N:List Str}:startL (n::N) []=none::startL N []:=rfl
theorem st_e:startL [] []=[]:=rfl
theorem r_cap {τ:St2}{caps:List (Str×Nat)}{v:Option D}:cap2 τ caps v=v::caps.map fun c=>(τ[c.2]?).join:=rfl
end
theorem cut1_0 {x:D}{r:List D}:cutD (x::r) (some 1) (some 1)=[]:=by
 unfold cutD
 rw [show (some (1:Int))=some ((1:Nat):Int) from rfl,HT.sIx_nat,HT.sIx_nat,Nat.sub_self,List.take_zero]
theorem cut1_k {x:D}{ks more:List D}{k:Int}(h:k=1+(ks.length:Int)):cutD (x::(ks++more)) (some 1) (some k)=ks:=by
 subst h
 unfold cutD
 have e1:HT.sIx (x::(ks++more)).length 0 (some 1)=1:=by
  rw [show (some (1:Int))=some ((1:Nat):Int) from rfl,HT.sIx_nat,List.length_cons]
  omega
 have e2:HT.sIx (x::(ks++more)).length (x::(ks++more)).length (some (1+(ks.length:Int)))=1+ks.length:=by
  rw [show (1+(ks.length:Int))=((1+ks.length:Nat):Int) by omega,HT.sIx_nat,List.length_cons,List.length_append]
  omega
 rw [e1,e2,List.drop_succ_cons,List.drop_zero,Nat.add_sub_cancel_left,List.take_left]
theorem cut1_1 {x a:D}{r:List D}:cutD (x::a::r) (some 1) (some 2)=[a]:=cut1_k (ks:=[a]) rfl
theorem cut1_2 {x a b:D}{r:List D}:cutD (x::a::b::r) (some 1) (some 3)=[a,b]:=cut1_k (ks:=[a,b]) rfl
theorem cut1_3 {x a b c:D}{r:List D}:cutD (x::a::b::c::r) (some 1) (some 4)=[a,b,c]:=cut1_k (ks:=[a,b,c]) rfl
theorem sIx1 {n:Nat}:HT.sIx (n+1) 0 (some 1)=1:=by
 rw [show (some (1:Int))=some ((1:Nat):Int) from rfl,HT.sIx_nat]
 omega
theorem map_got {α:Type}{g:α->D}{xs:List α}{i:Nat}{d:D}(h:(xs.map g)[i]? = some d):∃ x,xs[i]? = some x/\d=g x:=by
 rw [List.getElem?_map] at h
 cases e:xs[i]? with
 | none=>rw [e] at h;cases h
 | some x=>rw [e] at h;exact ⟨x,rfl,(Option.some.inj h).symm⟩
def intsOf:List D->Option (List Int)
 | []=>some []
 | .int n::r=>(intsOf r).map (n::·)
 | _::_=>none
theorem intsOf_map:∀ ns:List Int,intsOf (ns.map D.int)=some ns
 | []=>rfl
 | n::r=>by rw [List.map_cons,intsOf,intsOf_map r];rfl
theorem intsOf_eq:∀ {xs:List D}{ns:List Int},intsOf xs=some ns->xs=ns.map D.int
 | [],ns,h=>by cases h;rfl
 | x::r,ns,h=>by
  cases x with
  | int n =>
   rw [intsOf] at h
   cases e:intsOf r with
   | none=>rw [e] at h;cases h
   | some ms=>rw [e] at h;cases h;rw [intsOf_eq e];rfl
  | _=>cases h
theorem sq_of_ls {M:Mp}{x:D}{xs:List D}(h:lsOf M x=some xs):sqOf M x=some xs:=by
 cases x with
 | tup ys=>cases h
 | _=>exact h
def onIs (M:Mp) (x:D) (k:List Int->Prop):Prop:=onO (lsOf M x) fun xs=>onO (intsOf xs) k
theorem of_Is {M:Mp}{x:D}{k:List Int->Prop}(h:onIs M x k):∃ ns:List Int,lsOf M x=some (ns.map D.int)/\sqOf M x=some (ns.map D.int)/\k ns:=by
 obtain ⟨xs,e,h1⟩:=of_O h
 obtain ⟨ns,e2,q⟩:=of_O h1
 rw [intsOf_eq e2] at e
 exact ⟨ns,e,sq_of_ls e,q⟩
theorem r_onIsL {M:Mp}{ns:List Int}{k:List Int->Prop}:onIs M (.lst (ns.map D.int)) k=k ns:=by unfold onIs;rw [r_lsL,r_onO,intsOf_map,r_onO]
theorem r_onIsP {M:Mp}{p:Addr}{ns:List Int}{k:List Int->Prop}:onIs (put M p (.lst (ns.map D.int))) (.ref p) k=k ns:=by unfold onIs;rw [r_lsP,r_onO,intsOf_map,r_onO]
theorem cmpL_ints (M:Mp) (n:Nat):∀ ns ms:List Int,cmpL (cmpD M n) (ns.map D.int) (ms.map D.int)=some (decide (ns=ms))
 | [],[]=>by simp [cmpL]
 | [],_::_=>by simp [cmpL]
 | _::_,[]=>by simp [cmpL]
 | x::xs,y::ys=>by
  rw [List.map_cons,List.map_cons,cmpL,cmpL_ints M n xs ys]
  have e:cmpD M n (.int x) (.int y)=some (decide (x=y)):=by cases n<;>rfl
  rw [e]
  simp
theorem cmpD_int (M:Mp) (n:Nat) (a b:Int):cmpD M n (.int a) (.int b)=some (decide (a=b)):=by cases n<;>rfl
theorem cmpD_str (M:Mp) (n:Nat) (a b:Str):cmpD M n (.str a) (.str b)=some (decide (a=b)):=by cases n<;>rfl
theorem cmpL_ii (M:Mp) (n:Nat) (a b:Int) (xs ys:List D):cmpL (cmpD M n) (.int a::xs) (.int b::ys)=(cmpL (cmpD M n) xs ys).map (decide (a=b) && ·):=by
 rw [cmpL,cmpD_int]
 cases cmpL (cmpD M n) xs ys<;>rfl
theorem cmpL_ss (M:Mp) (n:Nat) (a b:Str) (xs ys:List D):cmpL (cmpD M n) (.str a::xs) (.str b::ys)=(cmpL (cmpD M n) xs ys).map (decide (a=b) && ·):=by
 rw [cmpL,cmpD_str]
 cases cmpL (cmpD M n) xs ys<;>rfl
theorem cmpL_nn {f:D->D->Option Bool}:cmpL f [] []=some true:=rfl
theorem cst0:((0:Nat):Int)=0:=rfl
theorem cst1:((1:Nat):Int)=1:=rfl
theorem cst2:((2:Nat):Int)=2:=rfl
theorem cst3:((3:Nat):Int)=3:=rfl
theorem cst4:((4:Nat):Int)=4:=rfl
theorem cst5:((5:Nat):Int)=5:=rfl
theorem cst6:((6:Nat):Int)=6:=rfl
theorem cst7:((7:Nat):Int)=7:=rfl
theorem cst8:((8:Nat):Int)=8:=rfl
theorem cst9:((9:Nat):Int)=9:=rfl
theorem cst10:((10:Nat):Int)=10:=rfl
theorem cst11:((11:Nat):Int)=11:=rfl
theorem cst12:((12:Nat):Int)=12:=rfl
theorem cmpL_nil (M:Mp) (n:Nat) (xs:List D):cmpL (cmpD M n) xs []=some xs.isEmpty:=by cases xs<;>rfl
theorem none_of {M M':Mp}{p:Addr}(s:Sub M M') (h:M' p=none):M p=none:=by
 cases e:M p with
 | none=>rfl
 | some o=>rw [s p o e] at h;cases h
theorem sz1 {n:Nat}(h:n<=1000):n<=sizeLine:=Nat.le_of_lt (small1000 h)
theorem szl {n:Nat}(h:n<=1000):(n<=sizeLine)=True:=eq_true (sz1 h)
theorem szlt {n:Nat}(h:n<=1000):(n<sizeLine)=True:=eq_true (small1000 h)
section
variable {P:Program}{w:World}{K:PySem.W.Frag}{mg:Str->Option Value}{base:Heap}{x qual:Str}{st:Stmt}{f:Addr}{fd:FuncData}{N ps:List Str}{k:Nat}
theorem Fun.o1 {B:D->Mp->VK2->Prop}(F:Fun K x qual st f fd) (S:FnScope N ps (dfS st))
  (hb:∀ (cdv:Value) (A:Around) (outer:List Env) (s:Shared) (H:Hp) (E:XK) (d0:D) (M:Mp) (Q:VK2),Room k (A.deeper (envOfC qual (dfS st) s.heap.objs.size f cdv))->B d0 M Q ->
   ∃ t:TS2,PSs2 (cxOf CX0 P w K mg base N qual (dfS st) f cdv A outer s H E).nox (dfB st) t/\t { nx:=fun _ M'=>Dn Q .non M',rt:=Dn Q } (startL N [d0]) M) (hl:ps.length=1:=by rfl):FnOk P w K mg base CX0 (k+1) f fd ps (lSp K fun ds M Q=>on1 ds fun d0=>B d0 M Q) :=
 Fun.ok2 F S (fun ds M Q h=>by obtain ⟨d0,rfl,_⟩:=of_1 h;exact hl.symm) fun cdv A outer s H E ds M Q hr h=>by
  obtain ⟨d0,rfl,h⟩:=of_1 h
  exact hb cdv A outer s H E d0 M Q hr h
theorem Fun.o2 {B:D->D->Mp->VK2->Prop}(F:Fun K x qual st f fd) (S:FnScope N ps (dfS st))
  (hb:∀ (cdv:Value) (A:Around) (outer:List Env) (s:Shared) (H:Hp) (E:XK) (d0 d1:D) (M:Mp) (Q:VK2),Room k (A.deeper (envOfC qual (dfS st) s.heap.objs.size f cdv))->B d0 d1 M Q ->
   ∃ t:TS2,PSs2 (cxOf CX0 P w K mg base N qual (dfS st) f cdv A outer s H E).nox (dfB st) t/\t { nx:=fun _ M'=>Dn Q .non M',rt:=Dn Q } (startL N [d0,d1]) M) (hl:ps.length=2:=by rfl):FnOk P w K mg base CX0 (k+1) f fd ps (lSp K fun ds M Q=>on2 ds fun d0 d1=>B d0 d1 M Q) :=
 Fun.ok2 F S (fun ds M Q h=>by obtain ⟨d0,d1,rfl,_⟩:=of_2 h;exact hl.symm) fun cdv A outer s H E ds M Q hr h=>by
  obtain ⟨d0,d1,rfl,h⟩:=of_2 h
  exact hb cdv A outer s H E d0 d1 M Q hr h
theorem Fun.o3 {B:D->D->D->Mp->VK2->Prop}(F:Fun K x qual st f fd) (S:FnScope N ps (dfS st))
  (hb:∀ (cdv:Value) (A:Around) (outer:List Env) (s:Shared) (H:Hp) (E:XK) (d0 d1 d2:D) (M:Mp) (Q:VK2),Room k (A.deeper (envOfC qual (dfS st) s.heap.objs.size f cdv))->B d0 d1 d2 M Q ->
   ∃ t:TS2,PSs2 (cxOf CX0 P w K mg base N qual (dfS st) f cdv A outer s H E).nox (dfB st) t/\t { nx:=fun _ M'=>Dn Q .non M',rt:=Dn Q } (startL N [d0,d1,d2]) M) (hl:ps.length=3:=by rfl):FnOk P w K mg base CX0 (k+1) f fd ps (lSp K fun ds M Q=>on3 ds fun d0 d1 d2=>B d0 d1 d2 M Q) :=
 Fun.ok2 F S (fun ds M Q h=>by obtain ⟨d0,d1,d2,rfl,_⟩:=of_3 h;exact hl.symm) fun cdv A outer s H E ds M Q hr h=>by
  obtain ⟨d0,d1,d2,rfl,h⟩:=of_3 h
  exact hb cdv A outer s H E d0 d1 d2 M Q hr h
theorem Fun.o4 {B:D->D->D->D->Mp->VK2->Prop}(F:Fun K x qual st f fd) (S:FnScope N ps (dfS st))
  (hb:∀ (cdv:Value) (A:Around) (outer:List Env) (s:Shared) (H:Hp) (E:XK) (d0 d1 d2 d3:D) (M:Mp) (Q:VK2),Room k (A.deeper (envOfC qual (dfS st) s.heap.objs.size f cdv))->B d0 d1 d2 d3 M Q ->
   ∃ t:TS2,PSs2 (cxOf CX0 P w K mg base N qual (dfS st) f cdv A outer s H E).nox (dfB st) t/\t { nx:=fun _ M'=>Dn Q .non M',rt:=Dn Q } (startL N [d0,d1,d2,d3]) M) (hl:ps.length=4:=by rfl):FnOk P w K mg base CX0 (k+1) f fd ps (lSp K fun ds M Q=>on4 ds fun d0 d1 d2 d3=>B d0 d1 d2 d3 M Q) :=
 Fun.ok2 F S (fun ds M Q h=>by obtain ⟨d0,d1,d2,d3,rfl,_⟩:=of_4 h;exact hl.symm) fun cdv A outer s H E ds M Q hr h=>by
  obtain ⟨d0,d1,d2,d3,rfl,h⟩:=of_4 h
  exact hb cdv A outer s H E d0 d1 d2 d3 M Q hr h
theorem Fun.o5 {B:D->D->D->D->D->Mp->VK2->Prop}(F:Fun K x qual st f fd) (S:FnScope N ps (dfS st))
  (hb:∀ (cdv:Value) (A:Around) (outer:List Env) (s:Shared) (H:Hp) (E:XK) (d0 d1 d2 d3 d4:D) (M:Mp) (Q:VK2),Room k (A.deeper (envOfC qual (dfS st) s.heap.objs.size f cdv))->B d0 d1 d2 d3 d4 M Q ->
   ∃ t:TS2,PSs2 (cxOf CX0 P w K mg base N qual (dfS st) f cdv A outer s H E).nox (dfB st) t/\t { nx:=fun _ M'=>Dn Q .non M',rt:=Dn Q } (startL N [d0,d1,d2,d3,d4]) M) (hl:ps.length=5:=by rfl):FnOk P w K mg base CX0 (k+1) f fd ps (lSp K fun ds M Q=>on5 ds fun d0 d1 d2 d3 d4=>B d0 d1 d2 d3 d4 M Q) :=
 Fun.ok2 F S (fun ds M Q h=>by obtain ⟨d0,d1,d2,d3,d4,rfl,_⟩:=of_5 h;exact hl.symm) fun cdv A outer s H E ds M Q hr h=>by
  obtain ⟨d0,d1,d2,d3,d4,rfl,h⟩:=of_5 h
  exact hb cdv A outer s H E d0 d1 d2 d3 d4 M Q hr h
end
end L3
namespace SH
open PySem PySem.W PySem.Calls PyProof.Rows
def alt {α:Type}:List α->List α
 | a::_::l=>a::alt l
 | [a]=>[a]
 | []=>[]
theorem alt_get {α:Type}:∀ (l:List α) (i:Nat),(alt l)[i]? = l[2*i]?
 | [],i=>by simp [alt]
 | [a],0=>by simp [alt]
 | [a],i+1=>by simp [alt,Nat.mul_add]
 | a::b::l,0=>by simp [alt]
 | a::b::l,i+1=>by simp only [alt,List.getElem?_cons_succ,Nat.mul_add,Nat.mul_one];exact alt_get l i
theorem alt_len {α:Type}:∀ (l:List α),(alt l).length=(l.length+1) / 2
 | []=>by simp [alt]
 | [a]=>by simp [alt]
 | a::b::l=>by simp only [alt,List.length_cons,alt_len l];omega
def ofL:Nat->List Obj->BT
 | 0,_=>.nil
 | _+1,[]=>.nil
 | n+1,o::l=>.node o (ofL n (alt l)) (ofL n (alt l.tail))
theorem ofL_get:∀ (n:Nat) (l:List Obj),l.length<2^n->∀ i,(ofL n l).get i=l[i]?
 | 0,l,h,i=>by
  have:l=[]:=List.length_eq_zero_iff.mp (by simpa using h)
  subst this;simp [ofL,BT.get]
 | n+1,[],_,i=>by simp [ofL,BT.get]
 | n+1,o::l,h,i=>by
  have hl:l.length+1<2^n*2:=by simpa [Nat.pow_succ] using h
  have ha:(alt l).length<2^n:=by rw [alt_len];omega
  have hb:(alt l.tail).length<2^n:=by rw [alt_len,List.length_tail];omega
  unfold ofL
  rw [BT.get_node,ofL_get n _ ha,ofL_get n _ hb,alt_get,alt_get]
  by_cases h0:i=0
  ·subst h0;simp
  ·rw [if_neg h0]
   by_cases p:i%2=1
   ·rw [if_pos p,show 2*(i / 2)=i-1 by omega,List.getElem?_cons]
    simp [h0]
   ·rw [if_neg p,List.getElem?_tail,show 2*(i / 2-1)+1=i-1 by omega,List.getElem?_cons]
    simp [h0]
theorem abs_ofL {n:Nat}{l:List Obj}{life:Life}(h:l.length<2^n):absHeap (ofL n l) l.length life=⟨l.toArray,life⟩:=by
 have:((ofL n l).list l.length)=l:=by
  apply List.ext_getElem?
  intro i
  unfold BT.list
  rw [List.getElem?_map]
  by_cases hi:i<l.length
  ·rw [List.getElem?_range hi,Option.map_some,ofL_get n l h,List.getElem?_eq_getElem hi];rfl
  ·rw [List.getElem?_eq_none (by rw [List.length_range];omega),List.getElem?_eq_none (by omega)];rfl
 unfold absHeap
 rw [this]
def topRunT (tb:String->Option Builtin) (p:Program) (w:World) (n₀:Nat) (ann:Option Value):Nat->SharedT->Thread->Option SharedT
 | 0,_,_=>none
 | n+1,s,t=>match through t with
  | true=>some s
  | false=>match stepOk n₀ ann t with
   | false=>none
   | true=>match stepT (denote tb) p w s t with
    | some (s',t')=>topRunT tb p w n₀ ann n s' t'
    | none=>none
theorem topRun_of {tb:String->Option Builtin}{p:Program}{w:World}{n₀:Nat}{ann:Option Value}:∀ {n:Nat}{s s':SharedT}{t:Thread},topRunT tb p w n₀ ann n s t=some s'->topRun tb p w n₀ ann n s.abs t=some s'.abs
 | 0,_,_,_,h=>by cases h
 | n+1,s,s',t,h=>by
  unfold topRunT at h
  unfold topRun
  cases he:through t with
  | true=>rw [he] at h;cases h;rfl
  | false =>
   rw [he] at h
   cases hk:stepOk n₀ ann t with
   | false=>rw [hk] at h;cases h
   | true =>
    rw [hk] at h
    cases hs:stepT (denote tb) p w s t with
    | none=>rw [hs] at h;cases h
    | some r=>obtain ⟨s₂,t₂⟩:=r;rw [hs] at h;rw [stepT_spec hs];exact topRun_of h
noncomputable def boot (H₀:Heap) (os:OsState):SharedT:=⟨ofL 14 H₀.objs.toList,H₀.objs.toList.length,H₀.life,#[],boot_drawn,boot_toks,os⟩
theorem boot_abs (H₀:Heap) (os:OsState) (h:Nat.blt H₀.objs.toList.length (2^14)=true):(boot H₀ os).abs=⟨H₀,#[],boot_drawn,boot_toks,os⟩:=by
 unfold boot SharedT.abs
 dsimp only
 rw [abs_ofL (Nat.le_of_ble_eq_true h)]
noncomputable def looks (p q:Program) (loose:List Str) (Xt:Shared->Bool) {α:Type} (Yf:Shared->α) (H₀:Heap) (s:Shared) :=
 (staticsOk (importedModules p.main.body) H₀ s.heap && namesBound p s.heap && gensDone s && laidKept H₀ s.heap,openSeen q loose (importedModules p.main.body) Xt true s,Yf s)
noncomputable def whole (H₀:Heap) (p q:Program) (loose:List Str) (Xt:Shared->Bool) {α:Type} (Yf:Shared->α) (n₀:Nat) (ann:Option Value) (M:Nat) (w:World) (os:OsState) :=
 (topRunT treeTable p w n₀ ann M (boot H₀ os) (topStub p)).map fun s=>looks p q loose Xt Yf H₀ s.abs
theorem left_of {p q:Program}{loose:List Str}{Xt:Shared->Bool}{α:Type}{Yf:Shared->α}{Ya:World->α}{N M n₀:Nat}{ann:Option Value}
  (e:opening p=plainProg p.main.scope.names) (hN:Nat.ble 600 N=true) (f:∀ s,fenceModules? p s=some s) (hb:∀ P:Params,Nat.blt (boot_heap P).objs.toList.length (2^14)=true)
  (size:∀ w:World,((boot_heap w.params).isNs mainGlobals && (#[]:Array GenState).size == 0,(boot_heap w.params).objs.size,(boot_heap w.params).nsMap mainGlobals "__annotations__")=(true,n₀,ann)) (le:Nat.ble M N=true)
  (run:∀ (w:World) (os:OsState),whole (boot_heap w.params) p q loose Xt Yf n₀ ann M w os=some (true,openGood q loose,Ya w)):LeftO p q loose Xt Yf Ya N:=fun w=>by
 obtain ⟨⟨h,gs,d,k,os⟩,e,e'⟩:=Option.map_eq_some_iff.mp (boot_open (N:=N) e hN f w)
 obtain ⟨rfl,rfl,rfl,rfl⟩:h=boot_heap w.params/\gs=#[]/\d=boot_drawn/\k=boot_toks:=by simpa using e'
 obtain ⟨z1,z2,z3⟩:_/\_/\_:=by simpa only [Prod.mk.injEq] using size w
 obtain ⟨s,hs,l⟩:=Option.map_eq_some_iff.mp (run w os)
 have r:=topRun_of hs
 rw [boot_abs _ _ (hb _)] at r
 have l1:(_ && _)=true:=congrArg Prod.fst l
 have l2:=congrArg (fun x=>x.2.1) l
 have l3:=congrArg (fun x=>x.2.2) l
 have r:=topRun_mono (N-M) _ _ _ _ r
 rw [show M+(N-M)=N by have:=Nat.le_of_ble_eq_true le;omega] at r
 have t:topFrom treeTable p w N ⟨boot_heap w.params,#[],boot_drawn,boot_toks,os⟩=some s.abs:=by
  unfold topFrom
  dsimp only
  rw [z1,z2,z3,r]
  show (match staticsOk (importedModules p.main.body) (boot_heap w.params) s.abs.heap && namesBound p s.abs.heap && gensDone s.abs && laidKept (boot_heap w.params) s.abs.heap with | true=>_ | false=>_)=_
  rw [l1]
 unfold openEnds
 rw [e]
 show (topFrom treeTable p w N _).map _=_
 rw [t]
 exact congrArg some (Prod.ext l2 l3)
end SH
namespace L3
open PySem PySem.Spec PyProof.Rows L2
section
variable {X:Cx}
unseal CallR2
end
end L3
namespace L2
open PySem PySem.Spec PyProof.Rows
end L2
namespace L3
open PySem PySem.Spec PyProof.Rows L2
unseal PE2 PT2 PW2 PA2 PO2 PS2 PSs2 OpR2 UnR2 CallR2 IxR2 SlR2 PG2 PI2 MtR2
variable {X:Cx}
theorem ats_strs {Z:Zt}:∀ ss:List Str,Ats Z (ss.map V.str) (ss.map D.str)
 | []=>.nil
 | _::r=>.cons rfl (ats_strs r)
end L3
namespace L2
open PySem PySem.Spec PyProof.Rows
section
variable {prog:Program}{w:World}{A:Around}{E:Value->Shared->Prop}{s:Shared}{r:Addr}{a b:Int}{t u v:Tok}{Q:Value->Shared->Prop}
end
end L2
namespace L3
open PySem PySem.Spec PyProof.Rows L2
unseal PE2 PT2 PW2 PA2 PO2 PS2 PSs2 OpR2 UnR2 CallR2 IxR2 SlR2 PG2 PI2 MtR2
variable {X:Cx}
end L3
namespace L3
open PySem PySem.Spec PyProof.Rows L2
section
variable {X:Cx}{pins:List (Addr×Obj)}{σ:St}{H:Hp}{s:Shared}{a:Addr}{kvs:List (Key×V)}{A:Around}{E:Value->Shared->Prop}
end
section
variable {X:Cx}
unseal MtR2 PE2 PA2
end
unseal OpR2
end L3
namespace L2
open PySem PySem.Spec PyProof.Rows
section
variable {X:Cx}{e st:Expr}{te:TE}{lo hi:Option Expr}{tl th tk:TO}{pos p2:Pos}
end
end L2
namespace L3
open PySem PySem.Spec PyProof.Rows L2
unseal PE2 PT2 PW2 PA2 PO2 PS2 PSs2 OpR2 UnR2 CallR2 IxR2 SlR2 PG2 PI2 MtR2
section
variable {X:Cx}{e st:Expr}{te:TE2}{lo hi:Option Expr}{tl th tk:TO2}{pos p2:Pos}
end
end L3
namespace PySem
open Sem (wp)
def RawD (h:Heap) (d:Addr) (es:Array DictEntry) (ep:Nat):Prop:=∃ o,h.get? d=some o/\o.ExactDict/\o.data=.dict es ep
theorem RawD.typeIs {s:Shared}{d es ep} (x:RawD s.heap d es ep):s.TypeIs (.ref d) "dict":=let ⟨o,ho,hc,_⟩:=x;⟨o,ho,hc.1⟩
theorem RawD.at' {h h':Heap}{d es ep} (x:RawD h d es ep) (e:∀ o,h.get? d=some o->h'.get? d=some o):RawD h' d es ep:=let ⟨o,ho,r⟩:=x;⟨o,e _ ho,r⟩
theorem RawD.lt {h:Heap}{d es ep} (x:RawD h d es ep):d<h.objs.size:=let ⟨_,ho,_⟩:=x;Heap.lt_size ho
section
variable {prog:Program}{w:World}{A:Around}{E:Value->Shared->Prop}{s:Shared}{d it:Addr}{es:Array DictEntry}{i ep:Nat}
theorem raw_iter {Q:Value->Shared->Prop}(hd:(d == sysModules)=false) (hm:RawD s.heap d es ep) (hQ:Q (.ref s.heap.objs.size) { s with heap:=s.heap.push { cls:=.type "dict_keyiterator",data:=.fields #[.ref d,.int 0 0,.int es.size 0,.int ep 0] } }):wpAny (model prog w) A (pyIter (.ref d)) Q E s:=by
 obtain ⟨o,ho,hc,hdat⟩:=id hm
 refine wpAny_pyIter_slot hm.typeIs F.slot_dict_iter (wpAny_call_entry F.slot_dict_iter hm.typeIs F.entry_dict_iter ?_ (F.args_dict_iter_1 _))
 unfold Builtin.«dict.__iter__» Builtin.Dict.dictSlotNone
 refine wpAny_bind (wpAny_bind (wpAny_notOrdered_dict hm.typeIs (wpAny_pure ?_)))
 show wpAny _ _ (Builtin.Dict.showsAll d >>= _) _ _ s
 unfold Builtin.Dict.showsAll
 rw [if_neg (by rw [hd];exact Bool.false_ne_true)]
 refine wpAny_bind (wpAny_pure (wpAny_bind (wpAny_dictEntries ho hdat (wpAny_bind (wpAny_dictEpoch ho hdat ?_)))))
 refine wpAny_bind (wpAny_newObj_type (wpAny_pure ⟨_,rfl, "dict_keyiterator",_,⟨_,Heap.get?_push_size _ rfl,rfl⟩,F.slot_dict_keyiterator_next.lookup,?_⟩))
 simpa [rawInt] using hQ
theorem raw_next {Q:Option Value->Shared->Prop}(hit:s.heap.IsKeyIter it d i es.size ep) (hm:RawD s.heap d es ep) (hi:i<es.size)
  (hQ:∀ h',h'.IsKeyIter it d (i+1) es.size ep->Heap.SameBut it s.heap h'->Q (some es[i].key) { s with heap:=h' }):wpAny (model prog w) A (pyNext (.ref it)) Q E s:=by
 obtain ⟨o,ho,hc,hd⟩:=id hit
 obtain ⟨od,hod,hcd,hdd⟩:=id hm
 unfold pyNext
 refine wpAny_bind (wpAny_attempt (wpAny_callSpecial?_slot (name:=Str.ofString "__next__") hit.typeIs F.slot_dict_keyiterator_next (wpAny_call_entry F.slot_dict_keyiterator_next hit.typeIs F.entry_dict_keyiterator_next ?_ (F.args_dict_keyiterator_next_1 _))))
 refine wpAny_bind (wpAny_pure (wpAny_bind (wpAny_bind ?_)))
 first | refine wpAny_bind (wpAny_typeNameOfWhole_keyiter hit.typeIs (wpAny_pure ?_)) | refine wpAny_bind (wpAny_typeNameOf_keyiter hit.typeIs (wpAny_pure ?_))
 refine wpAny_bind (wpAny_fieldsOf ho hd ?_)
 simp only [show Builtin.Dict_items.ownsTuple "dict_keyiterator" = false by decide,Bool.false_eq_true,if_false]
 show wpAny _ _ (if (Value.ref d == Value.none)=true then _ else _) _ _ s
 rw [if_neg (show ¬ ((Value.ref d == Value.none)=true) from Bool.false_ne_true)]
 refine wpAny_bind (wpAny_pure (wpAny_bind (wpAny_dictEntries hod hdd ?_)))
 rw [if_neg (by simp)]
 refine wpAny_bind (wpAny_pure (wpAny_bind (wpAny_dictEpoch hod hdd ?_)))
 rw [if_neg (by simp)]
 refine wpAny_pure ?_
 simp only [show ¬ ((i:Int)<0) from by omega,if_false,Int.toNat_natCast,Array.getElem?_eq_getElem hi]
 refine wpAny_bind ?_
 first | refine wpAny_bind (wpAny_typeNameOfWhole_keyiter hit.typeIs (wpAny_pure ?_)) | refine wpAny_bind (wpAny_typeNameOf_keyiter hit.typeIs (wpAny_pure ?_))
 refine wpAny_bind (wpAny_isOneOf_keyiter hit.typeIs ?_)
 show wpAny _ _ (setField (.ref it) 1 (rawInt ((i:Int)+1)) >>= _) _ _ s
 refine wpAny_bind (wpAny_setField ho hd (by simp) ?_)
 have hit':(s.heap.update it (Obj.mapFields (·.setIfInBounds 1 (rawInt ((i:Int)+1))))).IsKeyIter it d (i+1) es.size ep :=
  ⟨_,Heap.get?_update_self _ ho (Obj.isFreed_of_fields (Obj.data_mapFields hd _)),(Obj.cls_mapFields ..).trans hc,by rw [Obj.data_mapFields hd];simp [rawInt]⟩
 refine wpAny_bind (wpAny_holding (wpAny_bind (wpAny_isOneOf_keyiter (s:={ s with heap:=s.heap.update it (Obj.mapFields (·.setIfInBounds 1 (rawInt ((i:Int)+1)))) }) hit'.typeIs ?_)))
 show wpAny _ _ (pure es[i].key) _ _ _
 exact wpAny_pure (wpAny_pure ⟨_,rfl,wpAny_pure (hQ _ hit' (Heap.SameBut.update ..))⟩)
theorem raw_end {Q:Option Value->Shared->Prop}(hh:A.handled=none) (hit:s.heap.IsKeyIter it d es.size es.size ep) (hm:RawD s.heap d es ep) (hQ:∀ h',Heap.ExtBut it s.heap h'->Q none { s with heap:=h' }):wpAny (model prog w) A (pyNext (.ref it)) Q E s:=by
 obtain ⟨o,ho,hc,hd⟩:=id hit
 obtain ⟨od,hod,hcd,hdd⟩:=id hm
 unfold pyNext
 refine wpAny_bind (wpAny_attempt (wpAny_callSpecial?_slot (name:=Str.ofString "__next__") hit.typeIs F.slot_dict_keyiterator_next (wpAny_call_entry F.slot_dict_keyiterator_next hit.typeIs F.entry_dict_keyiterator_next ?_ (F.args_dict_keyiterator_next_1 _))))
 refine wpAny_bind (wpAny_pure (wpAny_bind (wpAny_bind ?_)))
 first | refine wpAny_bind (wpAny_typeNameOfWhole_keyiter hit.typeIs (wpAny_pure ?_)) | refine wpAny_bind (wpAny_typeNameOf_keyiter hit.typeIs (wpAny_pure ?_))
 refine wpAny_bind (wpAny_fieldsOf ho hd ?_)
 simp only [show Builtin.Dict_items.ownsTuple "dict_keyiterator" = false by decide,Bool.false_eq_true,if_false]
 show wpAny _ _ (if (Value.ref d == Value.none)=true then _ else _) _ _ s
 rw [if_neg (show ¬ ((Value.ref d == Value.none)=true) from Bool.false_ne_true)]
 refine wpAny_bind (wpAny_pure (wpAny_bind (wpAny_dictEntries hod hdd ?_)))
 rw [if_neg (by simp)]
 refine wpAny_bind (wpAny_pure (wpAny_bind (wpAny_dictEpoch hod hdd ?_)))
 rw [if_neg (by simp)]
 refine wpAny_pure ?_
 simp only [show ¬ ((es.size:Int)<0) from by omega,if_false,Int.toNat_natCast,Array.getElem?_eq_none (Nat.le_refl es.size)]
 refine wpAny_bind ?_
 first | refine wpAny_bind (wpAny_typeNameOfWhole_keyiter hit.typeIs (wpAny_pure ?_)) | refine wpAny_bind (wpAny_typeNameOf_keyiter hit.typeIs (wpAny_pure ?_))
 show wpAny _ _ (setField (.ref it) 0 .none >>= _) _ _ s
 refine wpAny_bind (wpAny_setField ho hd (by simp) ?_)
 show wpAny _ _ (newExc (.type "StopIteration") [] >>= _) _ _ _
 refine wpAny_bind ?_
 simp only [newExc,newTuple]
 refine wpAny_bind (wpAny_newObj_type ?_ (by size_fits))
 refine wpAny_bind (m:=firstArgMember _ _) (wpAny_of_eq (a:=Value.none) (by first | rfl | (simp only [firstArgMember];rfl)) ?_)
 refine wpAny_newObj_type ?_ (by size_fits)
 simp only [raiseNew]
 refine wpAny_bind (wpAny_handled ?_)
 rw [show A.in1.handled=none from hh]
 refine wpAny_bind (wpAny_pure (wpAny_throw ?_))
 refine wpAny_bind (wpAny_isInstance (T:="StopIteration") (b:=true) ⟨_,Heap.get?_push_size _ rfl,rfl⟩ isSubtype_stop ?_)
 exact wpAny_pure (hQ _ (((Heap.SameBut.update ..).extBut.push _).push _))
theorem raw_keys (hd:(d == sysModules)=false):PySem.W.KdlSrc prog w "dict" d d es.size (fun i v=>∃ h:i<es.size,v=es[i].key) (fun h=>RawD h d es ep) where
 type:=fun _ hm=>hm.typeIs
 there:=fun _ hm=>⟨hm.lt,hm.lt⟩
 keep:=fun _ _ hm hk=>hm.at' fun o e=>hk d (.inl rfl) o e
 notList:=by decide
 notTuple:=by decide
 hint:=fun _ _ _ _ hm hq=>PySem.W.kdl_hint_dict hm.typeIs hq
 iter:=fun A s hh hm=>⟨_,fun i h=>h.IsKeyIter s.heap.objs.size d i es.size ep/\RawD h d es ep,(fun _ _ hq=>raw_iter hd hm hq),
  {
   sub:=fun b hb=>by simp at hb;simp [hb]
   frame:=fun _ _ _ st hk=>⟨st.1.at fun o e=>hk _ (by simp) o e,st.2.at' fun o e=>hk d (by simp) o e⟩
   item:=fun i s' Q E hi st hQ=>raw_next st.1 st.2 hi fun h' hit' hs'=>hQ _ h' s'.toks ⟨hi,rfl⟩ ⟨hit',st.2.at' fun o e=>hs'.extBut d o (Nat.ne_of_lt hm.lt) e⟩ fun b o hb e=>hs'.extBut b o (fun h=>hb (by simp [h])) e
   done:=fun s' Q E st hQ=>raw_end hh st.1 st.2 fun h' he'=>hQ h' s'.toks fun b o hb e=>he' b o (fun h=>hb (by simp [h])) e
   self:=fun _ _ _ _ st hQ=>wpAny_pyIter_keyiter st.1 hQ },⟨⟨_,Heap.get?_push_size _ rfl,rfl,rfl⟩,hm.at' fun _ e=>Heap.get?_push_of_some _ e⟩⟩
end
end PySem
namespace L3
open PySem PySem.Spec PyProof.Rows L2
unseal PE2 PT2 PW2 PA2 PO2 PS2 PSs2 OpR2 UnR2 CallR2 IxR2 SlR2 PG2 PI2 MtR2
def dtOf (M:Mp):D->Option (List (List Key×D))
 | .dct kvs=>some kvs
 | .ref p=>match M p with
  | some (.dct kvs)=>some kvs
  | _=>none
 | _=>none
def valT (kvs:List (List Key×D)) (k:List Key):Option D:=(kvs.find? fun kv=>decide (kv.1=k)).map (·.2)
def putT (kvs:List (List Key×D)) (k:List Key) (v:D):List (List Key×D):=if kvs.any (fun kv=>decide (kv.1=k)) then kvs.map fun kv=>if kv.1=k then (kv.1,v) else kv else kvs++[(k,v)]
def tkD (ks:List Key):D:=.tup (ks.map kD)
section
variable {K:PySem.W.Frag}{H:Hp}{M:Mp}{Z:Zt}
theorem HR.rdDT (h:HR K H M Z) {v:V}{d:D}{ds:List (List Key×D)}(e:dtOf M d=some ds) (a:At Z v d):∃ p vs,v=.ref p/\Rd H p (.dT vs)/\KAts Z vs ds:=by
 cases d with
 | dct xs =>
  cases e
  obtain ⟨p,rfl,z⟩:=a
  rcases h.z p _ z with ⟨vs,r,a⟩|k
  ·exact ⟨p,vs,rfl,r,a⟩
  ·exact k.elim
 | ref p =>
  cases (show v=.ref p from a)
  unfold dtOf at e
  simp only at e
  split at e
  ·next q =>
   cases e
   obtain ⟨vs,r,a⟩:=h.rdMT q
   exact ⟨p,vs,rfl,.inl r,a⟩
  ·cases e
 | _=>cases e
theorem ats_keys:∀ {ks:List Key}{vs:List V},Ats Z vs (ks.map kD)->vs=ks.map kV
 | [],_,.nil=>rfl
 | k::ks,_,.cons a t=>by rw [kD_kV a,ats_keys t];rfl
theorem keys_ats:∀ ks:List Key,Ats Z (ks.map kV) (ks.map kD)
 | []=>.nil
 | k::ks=>.cons (At.key Z k) (keys_ats ks)
theorem HR.rdKey (hg:gTup=false) (h:HR K H M Z) {v:V}{ks:List Key}(a:At Z v (tkD ks)):∃ p,v=.ref p/\H p=some (.tup (ks.map kV)):=by
 obtain ⟨p,vs,e,hp,a2⟩:=h.rdK hg a
 exact ⟨p,e,by rw [hp,ats_keys a2]⟩
theorem KAts.valT {k:List Key}:∀ {vs:List (List Key×V)}{ds:List (List Key×D)},KAts Z vs ds->(L3.valT ds k=none/\valV vs k=none)\/∃ d v,L3.valT ds k=some d/\valV vs k=some v/\At Z v d
 | _,_,.nil=>.inl ⟨rfl,rfl⟩
 | (k1,v)::vs,(k2,d)::ds,.cons r t=>by
  obtain ⟨e,a⟩:=r
  have e':k1=k2:=e
  subst e'
  by_cases hk:k1=k
  ·exact .inr ⟨d,v,by simp [L3.valT,List.find?_cons,hk],by simp [valV,List.find?_cons,hk],a⟩
  ·rw [show L3.valT ((k1,d)::ds) k=L3.valT ds k by simp [L3.valT,List.find?_cons,hk],show valV ((k1,v)::vs) k=valV vs k by simp [valV,List.find?_cons,hk]]
   exact KAts.valT t
theorem KAts.lenT {vs:List (List Key×V)}{ds:List (List Key×D)}(h:KAts Z vs ds):vs.length=ds.length:=Paired.length h
theorem KAts.isSomeT {k:List Key}{vs:List (List Key×V)}{ds:List (List Key×D)}(h:KAts Z vs ds):(valV vs k).isSome=(L3.valT ds k).isSome:=by
 rcases h.valT (k:=k) with ⟨e1,e2⟩|⟨d,v,e1,e2,_⟩<;>rw [e1,e2]<;>rfl
theorem KAts.putT {k:List Key}{v:V}{d:D}(a:At Z v d) {vs:List (List Key×V)}{ds:List (List Key×D)}(h:KAts Z vs ds):KAts Z (putK vs k v) (L3.putT ds k d):=by
 have any:∀ {vs:List (List Key×V)} {ds:List (List Key×D)},KAts Z vs ds->(vs.any fun kv=>decide (kv.1=k))=ds.any fun kv=>decide (kv.1=k):=fun h=>by
  induction h with
  | nil=>rfl
  | cons r t ih=>rw [List.any_cons,List.any_cons,ih,r.1]
 have repl:∀ {vs:List (List Key×V)} {ds:List (List Key×D)},KAts Z vs ds->KAts Z (vs.map fun kv=>if kv.1=k then (kv.1,v) else kv) (ds.map fun kv=>if kv.1=k then (kv.1,d) else kv):=fun h=>by
  induction h with
  | nil=>exact .nil
  | @cons p q _ _ r t ih =>
   rw [List.map_cons,List.map_cons]
   refine .cons ?_ ih
   by_cases e:p.1=k
   ·rw [if_pos e,if_pos (r.1.symm.trans e)];exact ⟨r.1,a⟩
   ·rw [if_neg e,if_neg (fun z=>e (r.1.trans z))];exact r
 have app:∀ {vs:List (List Key×V)} {ds:List (List Key×D)},KAts Z vs ds->KAts Z (vs++[(k,v)]) (ds++[(k,d)]):=fun h=>by
  induction h with
  | nil=>exact .cons ⟨rfl,a⟩ .nil
  | cons r t ih=>exact .cons r ih
 unfold putK L3.putT
 rw [any h]
 split
 ·exact repl h
 ·exact app h
theorem KAts.keysT {vs:List (List Key×V)}{ds:List (List Key×D)}(h:KAts Z vs ds):vs.map (fun x=>tkD x.1)=ds.map fun x=>tkD x.1:=by
 induction h with
 | nil=>rfl
 | cons r t ih=>rw [List.map_cons,List.map_cons,ih,r.1]
theorem HR.seen {p:Addr}{d:D}(h:HR K H M Z) (hb:HB H Z p d) (hM:M p=none):HR K H M (ext Z p d):=by
 refine ⟨fun b u z=>?_,fun b u q=>?_⟩
 ·rcases z with z|⟨rfl,rfl⟩
  ·rcases h.z b u z with k|k
   ·exact .inl (k.mono Le.ext)
   ·exact .inr (k.mono Le.ext)
  ·exact .inl (hb.mono Le.ext)
 ·obtain ⟨k1,k2⟩:=h.m b u q
  refine ⟨fun d' z=>?_,k2.mono Le.ext⟩
  rcases z with z|⟨rfl,rfl⟩
  ·exact (k1 d' z).mono Le.ext
  ·rw [hM] at q;cases q
theorem HR.noTup {p:Addr}{vs:List V}(h:HR K H M Z) (e:H p=some (.tup vs)):M p=none:=by
 cases q:M p with
 | none=>rfl
 | some o =>
  have mb:=(h.m p o q).2
  cases o with
  | obj C fs=>obtain ⟨dx,vs,r,_⟩:=mb;rw [e] at r;cases r
  | _=>obtain ⟨vs,r,_⟩:=mb;rw [e] at r;cases r
theorem HR.seenKeys:∀ {kvs:List (List Key×V)}{xs:List (List Key×Addr×Value)}{Z:Zt},HR K H M Z->KT H kvs xs->∃ Z',Le Z Z'/\HR K H M Z'/\Ats Z' (xs.map fun x=>V.ref x.2.1) (kvs.map fun x=>tkD x.1)
 | _,_,Z,h,.nil=>⟨Z,Le.refl _,h,.nil⟩
 | p::kvs,x::xs,Z,h,.cons r t=>by
  obtain ⟨_,hb,_⟩:=r
  obtain ⟨Z',l,h',a⟩:=HR.seenKeys (h.seen (p:=x.2.1) (d:=tkD p.1) ⟨_,hb,keys_ats p.1⟩ (h.noTup hb)) t
  exact ⟨Z',Le.ext.trans l,h',.cons (At.mono l at_extT) a⟩
end
section
variable {X:Cx}{pos pos':Pos}{o i value:Expr}{td ty tv:TE2}
def onMT (o:Option MO) (k:List (List Key×D)->Prop):Prop:=match o with
 | some (.dct kvs)=>k kvs
 | _=>False
theorem of_MT {o:Option MO}{k:List (List Key×D)->Prop}(h:onMT o k):∃ kvs,o=some (.dct kvs)/\k kvs:=by
 unfold onMT at h
 split at h
 ·exact ⟨_,rfl,h⟩
 ·exact h.elim
def uTnew:TE2:=fun _ M Q=>∀ p,M p=none->Q (.ref p) (put M p (.dct []))
theorem qtnew:PE2 X (.Dict [] [] pos) uTnew:=PE.mono pe_dnewT fun σ H Q ⟨Z,τ,M,Q2,st,hr,h,k⟩ p hp=>k Z (.ref p) (.ref p) _ _ (Le.refl _) (hr.newDT hp .nil) rfl (h p (hr.fresh hp))
def uTput (td ty tv:TE2):TS2:=fun E τ M=>tv τ M fun v M1=>td τ M1 fun x M2=>ty τ M2 fun y M3=>onR x fun p=>∃ ks,y=tkD ks/\onMT (M3 p) fun kvs=>kvs.length<sizeLine/\E.nx τ (put M3 p (.dct (putT kvs ks v)))
theorem qs_tput (hg:gTup=false) (hu:X.A.units+1<cLine) (ho:PE2 X o td) (hi:PE2 X i ty) (hv:PE2 X value tv) (hs:swapsWith value (some (.Subscript o i pos')) pos.line X.env=pure false) :
  PS2 X (.Assign [.Subscript o i pos'] value pos) (uTput td ty tv):=PS.mono (ps_dput hu ho hi hv hs) (by
 rintro D σ H ⟨Z,τ,M,D2,st,hr,h,er⟩
 refine lE.bind st hr h fun Z1 v dv H1 M1 l1 h1 a1 q1=>lE.bind (st.mono l1) h1 q1 fun Z2 x dx H2 M2 l2 h2 a2 q2=>lE.bind (st.mono (l1.trans l2)) h2 q2 fun Z3 y dy H3 M3 l3 h3 a3 q3=>?_
 obtain ⟨p,rfl,ks,rfl,q5⟩:=of_R q3
 cases (show x=V.ref p from a2)
 obtain ⟨b,rfl,hb⟩:=h3.rdKey hg a3
 obtain ⟨kvs,e,hl,q⟩:=of_MT q5
 obtain ⟨vs,r,a4⟩:=h3.rdMT e
 refine ⟨p,_,rfl,DPut.t r hb (by rw [a4.lenT];exact hl),?_⟩
 exact lS.nx (er.le (l1.trans (l2.trans l3))) (st.mono (l1.trans (l2.trans l3))) (h3.chgDT e (a4.putT (a1.mono (l2.trans l3)))) q)
def uTget (td ty:TE2):TE2:=fun τ M Q=>td τ M fun x M1=>ty τ M1 fun y M2=>onO (dtOf M2 x) fun kvs=>∃ ks,y=tkD ks/\onO (valT kvs ks) fun v=>Q v M2
theorem qtget (hg:gTup=false) (hu:X.A.units+1<cLine) (ho:PE2 X o td) (hi:PE2 X i ty) (hs:NoSl i):PE2 X (.Subscript o i pos) (uTget td ty):=PE.mono (pe_dget hu ho hi hs) (by
 rintro σ H Q ⟨Z,τ,M,Q2,st,hr,h,k⟩
 refine lE.bind st hr h fun Z1 x dx H1 M1 l1 h1 a1 q1=>lE.bind (st.mono l1) h1 q1 fun Z2 y dy H2 M2 l2 h2 a2 q2=>?_
 obtain ⟨kvs,e,ks,rfl,q4⟩:=of_O q2
 obtain ⟨d,e2,q⟩:=of_O q4
 obtain ⟨p,vs,rfl,r,a3⟩:=h2.rdDT e (a1.mono l2)
 obtain ⟨b,rfl,hb⟩:=h2.rdKey hg a2
 rcases a3.valT (k:=ks) with ⟨z,_⟩|⟨d',v,z,zv,av⟩
 ·rw [e2] at z;cases z
 ·rw [e2] at z
  cases z
  exact ⟨p,v,rfl,.inr ⟨vs,ks,b,r,rfl,hb,zv.symm⟩,(k.le (l1.trans l2)).v h2 av q⟩)
def sInT (neg:Bool):R22:=fun x y M Q=>onO (dtOf M y) fun kvs=>∃ ks,x=tkD ks/\Q (.bl (if neg then !(valT kvs ks).isSome else (valT kvs ks).isSome)) M
theorem o_notinT (hg:gTup=false) (hu:X.A.units+1<cLine):OpR2 X (compareOp .NotIn) (sInT true):=by
 intro pins s σ H x y v u Q I rx ry h
 obtain ⟨Z,dx,dy,M,Q2,hr,ax,ay,h,k⟩:=h
 obtain ⟨kvs,e,ks,rfl,q⟩:=of_O h
 obtain ⟨p,vs,rfl,r,a3⟩:=hr.rdDT e ay
 obtain ⟨b,rfl,hb⟩:=hr.rdKey hg ax
 cases (show u=Value.ref p from ry)
 refine d_notIn hu I (.inr ⟨vs,ks,b,r,rfl,hb,rfl⟩) rx fun s' I'=>⟨.bl _,H,I',rfl,?_⟩
 rw [a3.isSomeT]
 exact k.b hr q
theorem raw_of {pins:List (Addr×Obj)}{σ:St}{H:Hp}{s:Shared}{p:Addr}{vs:List (List Key×V)}(I:Inv X pins σ H s) (rd:Rd H p (.dT vs)) :
  ∃ xs es ep,KT H vs xs/\(p == sysModules)=false/\vs.length<=sizeLine/\PySem.RawD s.heap p es ep/\es.toList=xs.map (entryOfKey (tupleKind (mixKind X.prog X.w))):=by
 obtain ⟨z,hd,xs,kt,o,es,ep,h1,h2,h3,h4,_⟩:=dt_rd I.hok rd
 exact ⟨xs,es,ep,kt,hd,z,⟨o,h1,h2,h3⟩,h4⟩
theorem c_listTF (hc:X.calm=true):CallR2 X (.type "list") (fun xs M Q=>on1 xs fun x=>onO (dtOf M x) fun kvs=>Q (.lst (kvs.map fun p=>tkD p.1)) M):=by
 intro pins s σ H xs us Q I r h
 obtain ⟨Z,ds,M,Q2,hr,a,h,k⟩:=h
 obtain ⟨x,rfl,h1⟩:=of_1 h
 obtain ⟨kvs,e,q⟩:=of_O h1
 obtain ⟨v,rfl,a1⟩:=ats1 a
 obtain ⟨p,vs,rfl,rd,a2⟩:=hr.rdDT e a1
 obtain ⟨u,rfl,ru⟩:=vals1 r
 cases (show u=Value.ref p from ru)
 obtain ⟨xs,es,ep,kt,hd,z,raw,he⟩:=raw_of I rd
 have h1:=Paired.length kt
 have el:es.size=xs.length:=by rw [<- Array.length_toList,he,List.length_map]
 refine PySem.W.kdl_call (PySem.raw_keys hd) (I.ok.hd hc) raw (by omega) fun h' tk acc c kp hD items=>?_
 obtain ⟨Z',l,h3,a3⟩:=hr.seenKeys kt
 have ek:vs.map (fun x=>tkD x.1)=kvs.map fun x=>tkD x.1:=KAts.keysT a2
 rw [ek] at a3
 have hv:Vals (xs.map fun x=>V.ref x.2.1) acc.toList:=by
  have:acc.toList=xs.map fun x=>Value.ref x.2.1:=by
   apply List.ext_getElem?
   intro j
   rw [Array.getElem?_toList,List.getElem?_map]
   rcases Nat.lt_or_ge j es.size with hj|hj
   ·have hj2:j<acc.size:=by rw [items.1];exact hj
    obtain ⟨hj',e'⟩:=items.2 j acc[j] (Array.getElem?_eq_getElem hj2)
    rw [Array.getElem?_eq_getElem hj2,e']
    have e3:es.toList[j]? = (xs[j]?).map (entryOfKey (tupleKind (mixKind X.prog X.w))):=by rw [he,List.getElem?_map]
    rw [Array.getElem?_toList,Array.getElem?_eq_getElem hj] at e3
    cases hx:xs[j]? with
    | none=>rw [hx] at e3;cases e3
    | some x=>rw [hx] at e3;rw [Option.some.inj e3];rfl
   ·rw [Array.getElem?_eq_none (by rw [items.1];exact hj),List.getElem?_eq_none (by omega)]
    rfl
  rw [this]
  clear this hD items a3 he el h1 kt
  induction xs with
  | nil=>exact .nil
  | cons x xs ih=>exact .cons rfl ih
 refine ⟨.ref _,_,I.laid (t':=tk) (o:=.lst (xs.map fun x=>V.ref x.2.1)) kp (Nat.le_refl _) ?_,rfl,(k.le l).f h3 (I.hok.fresh (Nat.le_refl _)) a3 q⟩
 exact ⟨by rw [List.length_map];omega,acc.toList,c,hv,by rw [hD]⟩
theorem r_tnew {τ:St2}{M:Mp}{Q:VK2}:uTnew τ M Q=∀ p,M p=none->Q (.ref p) (put M p (.dct [])):=rfl
theorem r_tput {E:Ends2}{τ:St2}{M:Mp}:uTput td ty tv E τ M=tv τ M fun v M1=>td τ M1 fun x M2=>ty τ M2 fun y M3=>onR x fun p=>∃ ks,y=tkD ks/\onMT (M3 p) fun kvs=>kvs.length<sizeLine/\E.nx τ (put M3 p (.dct (putT kvs ks v))):=rfl
theorem r_tget {τ:St2}{M:Mp}{Q:VK2}:uTget td ty τ M Q=td τ M fun x M1=>ty τ M1 fun y M2=>onO (dtOf M2 x) fun kvs=>∃ ks,y=tkD ks/\onO (valT kvs ks) fun v=>Q v M2:=rfl
theorem r_inT {n:Bool}{x y:D}{M:Mp}{Q:VK2}:sInT n x y M Q=onO (dtOf M y) fun kvs=>∃ ks,x=tkD ks/\Q (.bl (if n then !(valT kvs ks).isSome else (valT kvs ks).isSome)) M:=rfl
end
structure Mf (K:PySem.W.Frag) (C:Addr) (m qual:Str) (st:Stmt) (ps:List Str) (f:Addr) (fd:FuncData):Prop where
 F:Fun K m qual st f fd
 b:Binds K fd ps []
 m:Meth K C m f
def onMO (C:Addr) (o:Option MO) (k:List (Str×D)->Prop):Prop:=∃ fs,o=some (.obj C fs)/\k fs
theorem r_onMO {C:Addr}{fs:List (Str×D)}{k:List (Str×D)->Prop}:onMO C (some (.obj C fs)) k=k fs:=propext ⟨fun ⟨fs',e,h⟩=>by cases e;exact h,fun h=>⟨fs,rfl,h⟩⟩
def putO (f:Str) (v:D):List (Str×D)->List (Str×D)
 | []=>[(f,v)]
 | p::r=>if p.1=f then (p.1,v)::r else p::putO f v r
section
variable {K:PySem.W.Frag}{H:Hp}{M:Mp}{Z:Zt}{f:Str}{vs:List (Str×V)}{ds:List (Str×D)}
theorem KAts.putO {v:V}{d:D}(a:At Z v d) (h:KAts Z vs ds):KAts Z (putF f v vs) (L3.putO f d ds):=by
 induction h with
 | nil=>exact .cons ⟨rfl,a⟩ .nil
 | @cons p q vs ds r t ih =>
  unfold putF L3.putO
  have e:p.1=q.1:=r.1
  by_cases c:p.1=f
  ·rw [if_pos c,if_pos (by rw [<- e];exact c)];exact .cons ⟨e,a⟩ t
  ·rw [if_neg c,if_neg (by rw [<- e];exact c)];exact .cons r ih
theorem KAts.look (h:KAts Z vs ds):(ds.lookup f=none/\vs.lookup f=none)\/∃ d v,ds.lookup f=some d/\vs.lookup f=some v/\At Z v d:=by
 induction h with
 | nil=>exact .inl ⟨rfl,rfl⟩
 | @cons p q vs ds r t ih =>
  have e:p.1=q.1:=r.1
  rw [List.lookup,List.lookup,e]
  cases c:f == q.1 with
  | true=>exact .inr ⟨_,_,rfl,rfl,r.2⟩
  | false=>exact ih
theorem HR.newO {x dx C:Addr}(h:HR K H M Z) (e1:H x=none) (e2:H dx=none) (ne:dx≠x):HR K (upd (upd H dx (.own x)) x (.ins C dx [])) (put M x (.obj C [])) Z:=by
 obtain ⟨h1,h2⟩:=h.lay e2 (.own x)
 exact HR.newM (H:=upd H dx (.own x)) ⟨h1,h2⟩ (by rw [upd_ne (Ne.symm ne)];exact e1) ⟨dx,[],upd_same,.nil⟩
end
section
variable {X:Cx}{C:Addr}{pos pos' apos p:Pos}{o e value:Expr}{es:List Expr}{f m x:Str}{ta tv:TE2}{t:TA2}
def uFld (C:Addr) (f:Str) (ta:TE2):TE2:=fun τ M Q=>ta τ M fun x M1=>onR x fun p=>onMO C (M1 p) fun fs=>onO (fs.lookup f) fun d=>Q d M1
theorem qfld (c:Cls X.K C) (n:NoAttr X.K C f) (he:PE2 X e ta) (hb:attributeBase e f X.env (eval e X.env)=eval e X.env:=by rfl):PE2 X (.Attribute e f pos) (uFld C f ta):=PE.mono (pe_fld he hb) (by
 rintro σ H Q ⟨Z,τ,M,Q2,st,hr,h,k⟩
 refine lE.bind st hr h fun Z1 x dx H1 M1 l1 h1 a1 q1=>?_
 obtain ⟨p,rfl,fs,hm,q2⟩:=of_R q1
 obtain ⟨d,hd,q⟩:=of_O q2
 obtain ⟨ix,vs,hv,ka⟩:=h1.rdMO hm
 rcases ka.look (f:=f) with ⟨e1,_⟩|⟨d',v,e1,e2,a⟩
 ·rw [hd] at e1;cases e1
 ·rw [hd] at e1
  cases e1
  exact ⟨p,C,ix,vs,v,a1,hv,c,n,e2,k Z1 v d H1 M1 l1 h1 a q⟩)
def uSFld (C:Addr) (f:Str) (ta tv:TE2):TS2:=fun E τ M=>tv τ M fun y M1=>ta τ M1 fun x M2=>onR x fun p=>onMO C (M2 p) fun fs=>fs.length<1000/\E.nx τ (put M2 p (.obj C (putO f y fs)))
theorem qs_fld (c:Cls X.K C) (n:NoAttr X.K C f) (ha:PE2 X o ta) (hv:PE2 X value tv) (hs:swapsWith value (some (.Attribute o f pos')) pos.line X.env=pure false:=by rfl):PS2 X (.Assign [.Attribute o f pos'] value pos) (uSFld C f ta tv):=PS.mono (ps_fld ha hv hs) (by
 rintro D σ H ⟨Z,τ,M,D2,st,hr,h,er⟩
 refine lE.bind st hr h fun Z1 y dy H1 M1 l1 h1 a1 q1=>lE.bind (st.mono l1) h1 q1 fun Z2 x dx H2 M2 l2 h2 a2 q2=>?_
 obtain ⟨p,rfl,fs,hm,hl,q⟩:=of_R q2
 obtain ⟨ix,vs,hv,ka⟩:=h2.rdMO hm
 refine ⟨p,C,ix,vs,a2,hv,c,n,by rw [Paired.length ka];exact hl,?_⟩
 exact er.nx Z2 σ τ _ _ (l1.trans l2) (st.mono (l1.trans l2)) (h2.chg (u':=.obj C (putO f dy fs)) hm ⟨ix,_,upd_same,ka.putO (a1.mono l2)⟩) q)
def uMeth (C:Addr) (m:Str) (sp:Sp2) (ta:TE2) (t:TA2):TE2:=fun τ M Q=>ta τ M fun x M1=>onR x fun p=>onMO C (M1 p) fun fs=>fs.lookup m=none/\t τ M1 fun xs M2=>sp (.ref p::xs) M2 Q
theorem lMeth {K:PySem.W.Frag}{sp:Sp2}:∀ σ H Q,lE K (uMeth C m sp ta t) σ H Q->tMeth C m (lSp K sp) [] E0 (lE K ta) (lA K t) σ H Q:=by
 rintro σ H Q ⟨Z,τ,M,Q2,st,hr,h,k⟩
 refine lE.bind st hr h fun Z1 x dx H1 M1 l1 h1 a1 q1=>?_
 obtain ⟨p,rfl,fs,hm,hn,q⟩:=of_R q1
 obtain ⟨ix,vs,hv,ka⟩:=h1.rdMO hm
 have a1:x=.ref p:=a1
 subst a1
 refine ⟨p,ix,vs,rfl,hv,?_,Z1,τ,M1,_,st.mono l1,h1,q,fun Z2 ws ds H2 M2 l2 h2 a2 q2=>?_⟩
 ·rcases ka.look (f:=m) with ⟨_,e2⟩|⟨d',v,e1,_,_⟩
  ·exact e2
  ·rw [hn] at e1;cases e1
 ·show lSp K sp (V.ref p::(ws++[])) H2 Q E0
  rw [List.append_nil]
  exact ⟨Z2,.ref p::ds,M2,Q2,h2,.cons rfl a2,q2,k.le (l1.trans l2)⟩
theorem qmeth {k:Nat}{qual:Str}{st:Stmt}{ps:List Str}{g:Addr}{fd:FuncData}{sp:Sp2}{pl:Sem Bool}(c:Cls X.K C) (d:Mf X.K C m qual st ps g fd) (G:FnOk X.prog X.w X.K X.mg X.base CX0 k g fd ps (lSp X.K sp)) (hr:Room k X.A) (ho:PE2 X o ta) (ha:PA2 X (e::es) t)
  (hst:starEach (e::es) X.env=(false,eval e X.env)::starEach es X.env:=by rfl) (hpl:(backTo pos (starEach es X.env)).any (·.1)=false:=by rfl)
  (ht:eval (.Call (.Attribute o m apos) (e::es) [] pos) X.env=(do
   let ov <- eval o X.env
   standAt apos.atName
   let (f,first) <- holding [ov] (getMethod ov m pl)
   callWith pos f first (backTo pos (starEach (e::es) X.env)) (backToKw pos (keywordEach [] X.env))):=by rfl) :
  PE2 X (.Call (.Attribute o m apos) (e::es) [] pos) (uMeth C m sp ta t):=PE.mono (pe_meth ho c d.m G hr d.b .nil pass0 ha hst hpl ht) lMeth
theorem qmeth0 {k:Nat}{qual:Str}{st:Stmt}{ps:List Str}{g:Addr}{fd:FuncData}{sp:Sp2}{pl:Sem Bool}(c:Cls X.K C) (d:Mf X.K C m qual st ps g fd) (G:FnOk X.prog X.w X.K X.mg X.base CX0 k g fd ps (lSp X.K sp)) (hr:Room k X.A) (ho:PE2 X o ta)
  (ht:eval (.Call (.Attribute o m apos) [] [] pos) X.env=(do
   let ov <- eval o X.env
   standAt apos.atName
   let (f,first) <- holding [ov] (getMethod ov m pl)
   callWith pos f first (backTo pos (starEach [] X.env)) (backToKw pos (keywordEach [] X.env))):=by rfl) :
  PE2 X (.Call (.Attribute o m apos) [] [] pos) (uMeth C m sp ta uNil):=PE.mono (pe_meth0 ho c d.m G hr d.b .nil pass0 ht) (by
 intro σ H Q h
 obtain ⟨Z,τ,M,Q2,st,hr,h,k⟩:=h
 refine lE.bind st hr h fun Z1 x dx H1 M1 l1 h1 a1 q1=>?_
 obtain ⟨p,rfl,fs,hm,hn,q⟩:=of_R q1
 obtain ⟨ix,vs,hv,ka⟩:=h1.rdMO hm
 have a1:x=.ref p:=a1
 subst a1
 refine ⟨p,ix,vs,rfl,hv,?_,⟨Z1,[.ref p],M1,Q2,h1,.cons rfl .nil,q,k.le l1⟩⟩
 rcases ka.look (f:=m) with ⟨_,e2⟩|⟨d',v,e1,_,_⟩
 ·exact e2
 ·rw [hn] at e1;cases e1)
def uMake (C:Addr) (sp:Sp2) (t:TA2):TE2:=fun τ M Q=>t τ M fun xs M1=>∀ p,M1 p=none->sp (.ref p::xs) (put M1 p (.obj C [])) fun v M2=>v=.non/\Q (.ref p) M2
theorem make_in {K:PySem.W.Frag}{sp:Sp2}{Z Z1:Zt}{H1:Hp}{M1:Mp}{vs:List V}{ds:List D}{Q:VK}{Q2:VK2}(l1:Le Z Z1) (h1:HR K H1 M1 Z1) (a1:Ats Z1 vs ds) (k:VKr K Z Q2 Q) (q1:∀ p,M1 p=none->sp (.ref p::ds) (put M1 p (.obj C [])) fun v M2=>v=.non/\Q2 (.ref p) M2) :
  ∀ x dx,H1 x=none->H1 dx=none->dx≠x->lSp K sp (.ref x::(vs++[])) (upd (upd H1 dx (.own x)) x (.ins C dx [])) (fun v H2=>v=.non/\Q (.ref x) H2) E0:=fun x dx e1 e2 ne=>by
 rw [List.append_nil]
 refine ⟨Z1,.ref x::ds,_,_,h1.newO e1 e2 ne,.cons rfl a1,q1 x (h1.fresh e1),fun Z2 v d H2 M2 l2 h2 a2 q2=>?_⟩
 obtain ⟨rfl,q⟩:=q2
 exact ⟨a2,k Z2 (.ref x) (.ref x) H2 M2 (l1.trans l2) h2 rfl q⟩
theorem qmake0 {k:Nat}{g:Addr}{qual:Str}{st:Stmt}{ps:List Str}{fd:FuncData}{sp:Sp2}(mk:Mk X.K C g) (d:Mf X.K C "__init__" qual st ps g fd) (G:FnOk X.prog X.w X.K X.mg X.base CX0 k g fd ps (lSp X.K sp)) (hr:Room (k+1) X.A) (hm:X.mg x=some (.ref C)) (hg:Gl X x:=by rfl) (hdb:(x == ("__debug__":Str))=false:=by decide) :
  PE2 X (.Call (.Name x p) [] [] pos) (uMake C sp uNil):=PE.mono (pe_make0 mk G hr hg hm d.b .nil pass0 hdb) (by
 rintro σ H Q ⟨Z,τ,M,Q2,st,hr,h,k⟩
 exact make_in (Le.refl _) hr .nil k h)
theorem r_fld {τ:St2}{M:Mp}{Q:VK2}:uFld C f ta τ M Q=ta τ M fun x M1=>onR x fun p=>onMO C (M1 p) fun fs=>onO (fs.lookup f) fun d=>Q d M1:=rfl
theorem r_sfld {E:Ends2}{τ:St2}{M:Mp}:uSFld C f ta tv E τ M=tv τ M fun y M1=>ta τ M1 fun x M2=>onR x fun p=>onMO C (M2 p) fun fs=>fs.length<1000/\E.nx τ (put M2 p (.obj C (putO f y fs))):=rfl
theorem r_meth {sp:Sp2}{τ:St2}{M:Mp}{Q:VK2}:uMeth C m sp ta t τ M Q=ta τ M fun x M1=>onR x fun p=>onMO C (M1 p) fun fs=>fs.lookup m=none/\t τ M1 fun xs M2=>sp (.ref p::xs) M2 Q:=rfl
theorem r_make {sp:Sp2}{τ:St2}{M:Mp}{Q:VK2}:uMake C sp t τ M Q=t τ M fun xs M1=>∀ p,M1 p=none->sp (.ref p::xs) (put M1 p (.obj C [])) fun v M2=>v=.non/\Q (.ref p) M2:=rfl
end
end L3
namespace L3
open PySem PySem.Spec PyProof.Rows L2
section
variable {prog:Program}{w:World}{A:Around}{E:Value->Shared->Prop}{s:Shared}{kd:SortKind}{a₀:Array Keyed}
structure So (kd:SortKind) (a₀:Array Keyed) (st:SortSt):Prop where
 pm:(arrOf st).Perm a₀
 kn:kindOf st=kd
 ok:failedOf st=none
 pn:pendingOf st=#[]
def Askd (prog:Program) (w:World) (s:Shared) (kd:SortKind) (a₀:Array Keyed):Prop:=∀ x∈a₀.toList,∀ y∈a₀.toList,∀ (A:Around) (E:Value->Shared->Prop) (Q:Bool->Shared->Prop),(∀ b,Q b s)->wpAny (model prog w) A (keyLt' kd x.1 y.1) Q E s
theorem So.arr {st:SortSt}(h:So kd a₀ st) {xs:Array Keyed}(p:xs.Perm (arrOf st)):So kd a₀ (setArr st xs):=⟨p.trans h.pm,h.kn,h.ok,h.pn⟩
theorem So.get {st:SortSt}(h:So kd a₀ st) {i:Nat}(hi:i<a₀.size):∃ x∈a₀.toList,(arrOf st)[i]? = some x:=by
 have hz:i<(arrOf st).size:=by rw [h.pm.size_eq];exact hi
 exact ⟨(arrOf st)[i],(Array.perm_iff_toList_perm.mp h.pm).mem_iff.mp (by simp),getElem?_pos _ i hz⟩
theorem so_lt {st:SortSt}{i j:Nat}{Q:Option Bool->SortSt->Prop}(hA:Askd prog w s kd a₀) (h:So kd a₀ st) (hi:i<a₀.size) (hj:j<a₀.size) (q:∀ b,Q (some b) st):wpS (model prog w) A E s (ltAt' i j) Q st:=by
 obtain ⟨x,mx,ex⟩:=h.get hi
 obtain ⟨y,my,ey⟩:=h.get hj
 rw [ltAt'_eq]
 refine wpS_bind (wpS_get ?_)
 show wpS _ _ _ _ (elem' (arrOf st) i >>= fun x=>elem' (arrOf st) j >>= fun y=>lt' x y) Q st
 rw [elem'_eq,elem'_eq,ex,ey]
 refine wpS_bind (wpS_pure (wpS_bind (wpS_pure ?_)))
 rw [lt'_eq]
 refine wpS_bind (wpS_get (wpS_bind (wpS_lift ?_)))
 rw [h.kn]
 exact wpAny_attempt (hA x mx y my _ _ _ fun b=>⟨rfl,wpS_pure (q b)⟩)
theorem so_rev {st:SortSt}{i j:Nat}{Q:Unit->SortSt->Prop}(h:So kd a₀ st) (q:∀ st',So kd a₀ st'->Q () st'):wpS (model prog w) A E s (reverseSlice' i j) Q st:=by
 rw [reverseSlice'_eq]
 exact wpS_modify (q _ (h.arr (mirror_perm ..)))
theorem so_asc {st:SortSt}{a n:Nat}{Q:AscSt->SortSt->Prop}(hA:Askd prog w s kd a₀) (hn:n<=a₀.size) (ha:1<=a) (han:a<=n) (h:So kd a₀ st) (q:∀ m,a<=m->m<=n->Q (none,m) st):wpS (model prog w) A E s (ascLoop a n) Q st:=by
 unfold ascLoop
 refine wpS_forRange (I:=fun i c st'=>st'=st/\c=(none,i)) ?_ ?_ ⟨rfl,rfl⟩
 ·rintro i c st' h1 h2 ⟨rfl,rfl⟩
  refine wpS_bind (so_lt hA h (by show i<_;omega) (by show i-1<_;omega) fun b=>?_)
  cases b with
  | true=>exact wpS_pure (q i h1 (Nat.le_of_lt h2))
  | false=>exact wpS_pure ⟨rfl,rfl⟩
 ·rintro c st' ⟨rfl,rfl⟩
  exact q _ (by omega) (by omega)
theorem so_tail {st:SortSt}{a n:Nat}{Q:Option Nat->SortSt->Prop}(hA:Askd prog w s kd a₀) (hn:n<=a₀.size) (ha:1<=a) (han:a<=n) (h:So kd a₀ st) (q:∀ m st',So kd a₀ st'->1<=m->m<=n->Q (some m) st'):wpS (model prog w) A E s (tail3 a n) Q st:=by
 unfold tail3
 refine wpS_bind (so_rev h fun st' h'=>wpS_bind (so_asc hA hn ha han h' fun m h1 h2=>?_))
 exact wpS_pure (q m st' h' (by omega) h2)
theorem so_desc {st:SortSt}{a n:Nat}{Q:DescSt->SortSt->Prop}(hA:Askd prog w s kd a₀) (hn:n<=a₀.size) (ha:1<=a) (han:a<=n) (h:So kd a₀ st) (q:∀ m k st',So kd a₀ st'->a<=m->m<=n->Q (none,m,k) st'):wpS (model prog w) A E s (descLoop a n) Q st:=by
 unfold descLoop
 refine wpS_forRange (I:=fun i c st'=>So kd a₀ st'/\∃ k,c=(none,i,k)) ?_ ?_ ⟨h,0,rfl⟩
 ·rintro i c st' h1 h2 ⟨h',k,rfl⟩
  refine wpS_bind (so_lt hA h' (by show i<_;omega) (by show i-1<_;omega) fun b=>?_)
  cases b with
  | true =>
   dsimp only
   rw [if_pos rfl]
   split
   ·exact wpS_bind (so_rev h' fun st2 h2=>wpS_pure ⟨h2,0,rfl⟩)
   ·exact wpS_pure ⟨h',0,rfl⟩
  | false =>
   dsimp only
   rw [if_neg (fun z=>nomatch z)]
   refine wpS_bind (so_lt hA h' (by omega) (by omega) fun b=>?_)
   cases b with
   | true=>exact wpS_pure (q i k st' h' h1 (Nat.le_of_lt h2))
   | false=>exact wpS_pure ⟨h',k+1,rfl⟩
 ·rintro c st' ⟨h',k,rfl⟩
  exact q _ k st' h' (by omega) (by omega)
theorem so_part {st:SortSt}{a n:Nat}{Q:Option Nat->SortSt->Prop}(hA:Askd prog w s kd a₀) (hn:n<=a₀.size) (han:a+1<=n) (h:So kd a₀ st) (q:∀ m st',So kd a₀ st'->1<=m->m<=n->Q (some m) st'):wpS (model prog w) A E s (descPart a n) Q st:=by
 unfold descPart
 refine wpS_bind (wpS_lift (wpAny_rule ⟨rfl,wpS_bind (so_desc hA hn (by omega) han h fun m k st' h' h1 h2=>?_)⟩))
 dsimp only
 split
 ·exact wpS_bind (so_rev h' fun st2 h3=>so_tail hA hn (by omega) h2 h3 q)
 ·exact so_tail hA hn (by omega) h2 h' q
theorem so_run {st:SortSt}{n:Nat}{Q:Option Nat->SortSt->Prop}(hA:Askd prog w s kd a₀) (hn:n<=a₀.size) (h1:1<=n) (h:So kd a₀ st) (q:∀ m st',So kd a₀ st'->1<=m->m<=n->Q (some m) st'):wpS (model prog w) A E s (countRun' 0 n) Q st:=by
 rw [countRun0_eq]
 refine wpS_bind (so_asc hA hn (Nat.le_refl 1) h1 h fun m h2 h3=>?_)
 dsimp only
 split
 ·exact wpS_pure (q m st h h2 h3)
 ·next e =>
  have hm:m<n:=by
   rcases Nat.lt_or_ge m n with c|c
   ·exact c
   ·exact absurd (beq_iff_eq.mpr (Nat.le_antisymm h3 c)) e
  split
  ·refine wpS_bind (so_lt hA h (by omega) (by omega) fun b=>?_)
   cases b with
   | true=>exact wpS_pure (q m st h h2 h3)
   | false=>exact wpS_bind (so_rev h fun st2 h4=>so_part hA hn hm h4 q)
  ·exact so_part hA hn hm h q
theorem so_bin {st:SortSt}{n ok:Nat}{Q:Bool->SortSt->Prop}(hA:Askd prog w s kd a₀) (hn:n<=a₀.size) (h:So kd a₀ st) (q:∀ st',So kd a₀ st'->Q true st'):wpS (model prog w) A E s (binarySort' 0 n ok) Q st:=by
 rw [binarySort'_eq]
 simp only [Nat.zero_add]
 refine wpS_bind (wpS_forRange (I:=fun _ c st'=>c=(none,())/\So kd a₀ st') ?_ ?_ ⟨rfl,h⟩)
 ·rintro k c st' h1 h2 ⟨rfl,h'⟩
  refine wpS_bind (wpS_forRange (I:=fun _ c st2=>st2=st'/\∃ l r,c=(none,l,r)/\l<=r/\r<=k) ?_ ?_ ⟨rfl,0,k,rfl,Nat.zero_le _,Nat.le_refl _⟩)
  ·rintro x c st2 _ _ ⟨rfl,l,r,rfl,h3,h4⟩
   dsimp only
   split
   ·exact wpS_pure (wpS_bind (wpS_modify (wpS_pure ⟨rfl,h'.arr (bubble_perm ..)⟩)))
   ·refine wpS_bind (so_lt hA h' (by omega) (by omega) fun b=>?_)
    cases b with
    | true=>exact wpS_pure ⟨rfl,l,(l+r) / 2,rfl,by omega,by omega⟩
    | false=>exact wpS_pure ⟨rfl,(l+r) / 2+1,r,rfl,by omega,h4⟩
  ·rintro c st2 ⟨rfl,l,r,rfl,_,_⟩
   exact wpS_bind (wpS_modify (wpS_pure ⟨rfl,h'.arr (bubble_perm ..)⟩))
 ·rintro c st' ⟨rfl,h'⟩
  exact wpS_pure (q st' h')
def SoD (a₀:Array Keyed) (st:SortSt):Prop:=(arrOf st).Perm a₀/\failedOf st=none/\pendingOf st=#[(0,a₀.size,0)]
theorem So.fin {st:SortSt}(h:So kd a₀ st):SoD a₀ (setPending st ((pendingOf st).push (0,a₀.size,0))):=⟨h.pm,h.ok,by rw [h.pn];rfl⟩
theorem so_runs {st:SortSt}{Q:Unit->SortSt->Prop}(hA:Askd prog w s kd a₀) (h:So kd a₀ st) (h2:2<=a₀.size) (h64:a₀.size<64) (q:∀ st',(arrOf st').Perm a₀->failedOf st'=none->Q () st'):wpS (model prog w) A E s sortRuns' Q st:=by
 rw [sortRuns'_eq]
 refine wpS_bind (wpS_get ?_)
 dsimp only
 have mr:minRun' a₀.size a₀.size 0=a₀.size:=by
  obtain ⟨f,e⟩:∃ f,a₀.size=f+1:=⟨a₀.size-1,by omega⟩
  have:=minRun'_succ f a₀.size 0
  rw [if_pos h64,<- e] at this
  exact this
 simp only [h.pm.size_eq,mr]
 refine wpS_bind (wpS_mono (wpS_forRange (I:=fun i c st'=>(i=0/\c=(none,0)/\So kd a₀ st')\/(0<i/\c=(none,a₀.size)/\SoD a₀ st')) (Q:=fun c st'=>c=(none,a₀.size)/\SoD a₀ st') ?_ ?_ (.inl ⟨rfl,rfl,h⟩)) ?_)
 ·rintro i c st' _ hi (⟨rfl,rfl,h'⟩|⟨_,rfl,hD⟩)
  ·dsimp only
   rw [if_neg (by omega)]
   simp only [Nat.sub_zero,Nat.min_self,Nat.zero_add]
   refine wpS_bind (so_run hA (Nat.le_refl _) (by omega) h' fun m st3 h3 m1 m2=>?_)
   dsimp only
   have tl:∀ {st4:SortSt},So kd a₀ st4->(pendingOf st4).back? = none:=fun h4=>by rw [h4.pn];rfl
   by_cases c:m<a₀.size
   ·rw [if_pos c]
    refine wpS_bind (wpS_lift (wpAny_rule ⟨rfl,wpS_bind (so_bin hA (Nat.le_refl _) h3 fun st4 h4=>?_)⟩))
    rw [if_neg (fun z=>nomatch z)]
    refine wpS_bind (wpS_get ?_)
    rw [tl h4]
    exact wpS_bind (wpS_modify (wpS_pure (.inr ⟨Nat.succ_pos _,rfl,h4.fin⟩)))
   ·rw [if_neg c]
    have e:m=a₀.size:=Nat.le_antisymm m2 (Nat.le_of_not_lt c)
    subst e
    refine wpS_bind (wpS_get ?_)
    rw [tl h3]
    exact wpS_bind (wpS_modify (wpS_pure (.inr ⟨Nat.succ_pos _,rfl,h3.fin⟩)))
  ·dsimp only
   rw [if_pos (Nat.le_refl _)]
   exact wpS_pure ⟨rfl,hD⟩
 ·rintro c st' (⟨e,_⟩|⟨_,rfl,hD⟩)
  ·omega
  ·exact ⟨rfl,hD⟩
 ·rintro c st' ⟨rfl,hD⟩
  refine wpS_bind (wpS_mono (wpS_forRange (I:=fun _ c st2=>st2=st'/\c=(none,())) (Q:=fun c st2=>st2=st'/\c=(none,())) ?_ (fun _ _ z=>z) ⟨rfl,rfl⟩) ?_)
  ·rintro x c st2 _ _ ⟨rfl,rfl⟩
   refine wpS_bind (wpS_get ?_)
   rw [if_pos (show (pendingOf st2).size<=1 by rw [hD.2.2];exact Nat.le_refl 1)]
   exact wpS_pure ⟨rfl,rfl⟩
  ·rintro c st2 ⟨rfl,rfl⟩
   exact wpS_pure (q _ hD.1 hD.2.1)
theorem so_sort {a:Addr}{vs:List Value}{n:Nat}{P:Fin->Shared->Prop}(ho:s.heap.get? a=some (seqObj "list" vs.toArray n)) (h64:vs.length<64)
  (hk:∀ (s1:Shared) (Q:SortKind->Shared->Prop),(∀ b o,s.heap.get? b=some o->b≠a->s1.heap.get? b=some o)->2<=vs.length->(∀ kd,Askd prog w s1 kd (pairsOf vs)->Q kd s1)->wpAny (model prog w) A (keyKind' vs.toArray) Q E s1)
  (q:∀ out:Array Value,out.toList.Perm vs->P (.done (.ret .none)) { s with heap:=sortedHeap s.heap a vs out }):wpAny (model prog w) A (Builtin.«list.sort» ⟨[.ref a],[]⟩) P E s:=by
 rw [list_sort_plain]
 have la:a<s.heap.objs.size:=Heap.lt_size ho
 refine wpAny_bind (listItems_at ho rfl (wpAny_bind (listUpdate_at ho rfl ?_)))
 obtain ⟨c,hc⟩:∃ c,(s.heap.update a (Obj.mapSeq fun _=>#[])).get? a=some (seqObj "list" #[] c):=⟨_,get?_update_seq ho (fun _=>#[])⟩
 refine wpAny_bind (seqEpoch_at hc rfl (wpAny_bind (wpAny_newTuple (wpAny_bind (wpAny_newList (wpAny_holding ?_))))))
 have ne1:a≠(s.heap.update a (Obj.mapSeq fun _=>#[])).objs.size:=by rw [Heap.size_update];exact Nat.ne_of_lt la
 have ne2:a≠((s.heap.update a (Obj.mapSeq fun _=>#[])).push (seqObj "tuple" vs.toArray 0)).objs.size:=by rw [size_push',Heap.size_update];exact Nat.ne_of_lt (Nat.lt_succ_of_lt la)
 have h6:(((s.heap.update a (Obj.mapSeq fun _=>#[])).push (seqObj "tuple" vs.toArray 0)).push (seqObj "list" #[] 0)).get? a=some (seqObj "list" #[] c):=by
  rw [Heap.get?_push_ne _ _ _ ne2,Heap.get?_push_ne _ _ _ ne1]
  exact hc
 have old:∀ b o,s.heap.get? b=some o->b≠a->(((s.heap.update a (Obj.mapSeq fun _=>#[])).push (seqObj "tuple" vs.toArray 0)).push (seqObj "list" #[] 0)).get? b=some o:=fun b o hb ne=>by
  have lb:=Heap.lt_size hb
  rw [Heap.get?_push_ne _ _ _ (by rw [size_push',Heap.size_update];exact Nat.ne_of_lt (Nat.lt_succ_of_lt lb)),Heap.get?_push_ne _ _ _ (by rw [Heap.size_update];exact Nat.ne_of_lt lb)]
  exact Heap.get?_update_of_ne _ (Ne.symm ne) hb
 have sz:vs.toArray.size=vs.length:=List.size_toArray ..
 have pt:∀ {out:Array Keyed},out.Perm (pairsOf vs)->(out.map (·.2)).toList.Perm vs:=fun {out} p=>by
  have e:((pairsOf vs).map (·.2)).toList=vs:=by rw [Array.toList_map,pairsOf_toList];exact List.map_snd_zip (Nat.le_refl _)
  rw [<- e,Array.toList_map,Array.toList_map]
  exact (Array.perm_iff_toList_perm.mp p).map _
 have p1:(pairsOf vs).size=vs.length:=pairsOf_size vs
 have p2:(63:Nat)<=sizeLine:=by decide
 generalize hh:(((s.heap.update a (Obj.mapSeq fun _=>#[])).push (seqObj "tuple" vs.toArray 0)).push (seqObj "list" #[] 0))=h6h at h6 old
 show wpAny (model prog w) A _ P E { s with heap:=h6h }
 have go:∀ st':SortSt,(arrOf st').Perm (pairsOf vs)->failedOf st'=none->wpAny (model prog w) A (do
   let touched:=(<- seqEpoch a) != c
   Builtin.List.listUpdate (.ref a) fun _=>(arrOf st').map (·.2)
   if let some e:=failedOf st' then rule "list.sort.comparison-raised";throw e
   if touched then rule "list.sort.modified";raiseError "ValueError" "list modified during sort"
   ret .none) P E { s with heap:=h6h }:=fun st' pm fl=>by
  refine wpAny_bind (seqEpoch_at h6 rfl (wpAny_bind (listUpdate_at h6 rfl ?_ (hsz2:=?_))))
  ·rw [fl]
   simp only [bne_self_eq_false,Bool.false_eq_true,if_false]
   subst hh
   exact wpAny_pure (q _ (pt pm))
  ·rw [Array.size_map,pm.size_eq,p1]
   omega
 dsimp only
 by_cases h2:vs.toArray.size<2
 ·rw [if_pos h2,if_pos h2]
  refine wpAny_bind (wpAny_pure ?_)
  rw [StateT.run_pure]
  exact wpAny_bind (wpAny_pure (go (SortSt.mk' general' (vs.toArray.zip vs.toArray) #[] 7 none) (Array.Perm.refl _) rfl))
 ·rw [if_neg h2,if_neg h2]
  refine wpAny_bind (hk _ _ old (by omega) fun kd hA=>?_)
  refine wpAny_bind (wpAny_mono (so_runs (A:=A) (E:=E) hA (st:=SortSt.mk' kd (vs.toArray.zip vs.toArray) #[] 7 none) (Q:=fun _ st'=>(arrOf st').Perm (pairsOf vs)/\failedOf st'=none) ⟨Array.Perm.refl _,rfl,rfl,rfl⟩ (by omega) (by omega) fun st' a1 a2=>⟨a1,a2⟩) ?_ fun _ _ e=>e)
  rintro ⟨⟨⟩,st'⟩ s' ⟨rfl,hp,hf⟩
  exact go st' hp hf
theorem so_sorted {l:Addr}{vs:List Value}{Q:Value->Shared->Prop}(hl:s.heap.IsList l vs.toArray) (h64:vs.length<64)
  (hk:∀ (A:Around) (E:Value->Shared->Prop) (s1:Shared) (Q:SortKind->Shared->Prop),(∀ b o,s.heap.get? b=some o->s1.heap.get? b=some o)->2<=vs.length->(∀ kd,Askd prog w s1 kd (pairsOf vs)->Q kd s1)->wpAny (model prog w) A (keyKind' vs.toArray) Q E s1)
  (q:∀ out:Array Value,out.toList.Perm vs->Q (.ref (s.heap.objs.size+1)) { s with heap:=sortedAll s.heap vs out }):wpAny (model prog w) A (call (.builtin "sorted") [.ref l]) Q E s:=by
 refine Calls.call_function_entry kind_sorted plain_sorted entry_sorted (args_sorted1 _) ?_
 unfold Builtin.«sorted»
 refine wpAny_bind (m:=checkCount "sorted" 1 1 _) (wpAny_pure (wpAny_bind (collect_list hl (wpAny_bind (wpAny_newList ?_)))))
 have sz:((s.heap.push (seqObj "list" #[] 0)).update s.heap.objs.size (Obj.mapSeq (·++vs.toArray))).objs.size=s.heap.objs.size+1:=by rw [Heap.size_update,size_push']
 have ho:(((s.heap.push (seqObj "list" #[] 0)).update s.heap.objs.size (Obj.mapSeq (·++vs.toArray))).push (seqObj "list" vs.toArray 0)).get? (s.heap.objs.size+1)=some (seqObj "list" vs.toArray 0):=by rw [<- sz];exact Heap.get?_push_size _ rfl
 have old:∀ b o,s.heap.get? b=some o->(((s.heap.push (seqObj "list" #[] 0)).update s.heap.objs.size (Obj.mapSeq (·++vs.toArray))).push (seqObj "list" vs.toArray 0)).get? b=some o/\b≠s.heap.objs.size+1:=fun b o hb=>by
  have lb:=Heap.lt_size hb
  refine ⟨?_,Nat.ne_of_lt (Nat.lt_succ_of_lt lb)⟩
  rw [Heap.get?_push_ne _ _ _ (by rw [sz];exact Nat.ne_of_lt (Nat.lt_succ_of_lt lb))]
  exact Heap.get?_update_of_ne _ (Ne.symm (Nat.ne_of_lt lb)) (Heap.get?_push_of_some _ hb)
 show wpAny _ _ _ _ _ { s with heap:=((s.heap.push (seqObj "list" #[] 0)).update s.heap.objs.size (Obj.mapSeq (·++vs.toArray))).push (seqObj "list" vs.toArray 0) }
 rw [sz]
 refine wpAny_bind (wpAny_holding (wpAny_call_entry slot_list_sort ⟨_,ho,rfl⟩ entry_list_sort (so_sort ho h64 (fun s1 Q o h2 hq=>hk _ _ s1 Q (fun b ob hb=>o b ob (old b ob hb).1 (old b ob hb).2) h2 hq) fun out po=>⟨_,rfl,?_⟩) (args_list_sort _)))
 exact wpAny_pure ⟨_,rfl,q out po⟩
def TuK (h:Heap) (ks:List Key) (v:Value):Prop:=∃ a o its n,v=.ref a/\h.get? a=some o/\o.cls=.type "tuple"/\o.data=.seq its n/\Vals (ks.map kV) its.toList
theorem TuK.mono {h h':Heap}{ks:List Key}{v:Value}(x:TuK h ks v) (k:∀ b o,h.get? b=some o->h'.get? b=some o):TuK h' ks v:=by
 obtain ⟨a,o,its,n,h1,h2,r⟩:=x
 exact ⟨a,o,its,n,h1,k _ _ h2,r⟩
theorem first_eq (v:Value):firstOfTuple' v=(do
  if (<- typeOf v) != .type "tuple" then return none
  return (<- Builtin.List.listItems v)[0]?):=rfl
theorem tuLt_eq (b:Bool) (x y:Value):keyLt' (tuples' b) x y=(do
  let xs <- Builtin.List.listItems x;let ys <- Builtin.List.listItems y
  for ((p,q),i) in (xs.toList.zip ys.toList).zipIdx do
   if !(<- eqBool p q) then return <- oneLt' (b && i == 0) p q
  return xs.size<ys.size):=rfl
theorem so_first {ks:List Key}{x:Str}{v:Value}{Q:Option Value->Shared->Prop}(h:TuK s.heap (.inr x::ks) v) (q:∀ t,Q (some (.str x t)) s):wpAny (model prog w) A (firstOfTuple' v) Q E s:=by
 obtain ⟨a,o,its,n,rfl,ho,hc,hd,hv⟩:=h
 rw [first_eq]
 obtain ⟨its⟩:=its
 cases its with
 | nil=>cases hv
 | cons u us =>
  cases hv with
  | cons r _ =>
   obtain ⟨t,rfl⟩:=r
   refine wpAny_bind (wpAny_typeOf ⟨o,ho,hc⟩ ?_)
   rw [if_neg (by simp)]
   exact wpAny_bind (listItems_at ho hd (wpAny_pure (q t)))
def Alike:Key->Key->Prop
 | .inl _,.inl _=>True
 | .inr _,.inr _=>True
 | _,_=>False
theorem so_one {k l:Key}{u v:Value}{b:Bool}{Q:Bool->Shared->Prop}(ha:Alike k l) (hu:RelV (kV k) u) (hv:RelV (kV l) v) (q:∀ c,Q c s):wpAny (model prog w) A (oneLt' b u v) Q E s:=by
 cases k with
 | inl i =>
  cases l with
  | inr _=>exact ha.elim
  | inl j =>
   obtain ⟨t,rfl⟩:=hu
   obtain ⟨t',rfl⟩:=hv
   cases b with
   | true=>exact oneLt_int (q _)
   | false =>
    rw [oneLt'_eq,if_neg (fun z=>nomatch z)]
    exact wpAny_bind (wpAny_lt_int (wpAny_truthy_bool (q _)))
 | inr x =>
  cases l with
  | inl _=>exact ha.elim
  | inr y =>
   obtain ⟨t,rfl⟩:=hu
   obtain ⟨t',rfl⟩:=hv
   cases b with
   | true=>exact oneLt_str (q _)
   | false =>
    rw [oneLt'_eq,if_neg (fun z=>nomatch z)]
    exact wpAny_bind (wpAny_richCompare_same (op:=.Lt) (T:="str") (typeIs_str s x t) (typeIs_str s y t') slot_str_lt (call_str_lt ⟨by simp,wpAny_truthy_bool (q _)⟩))
theorem is_of {k:Key}{v:Value}(h:RelV (kV k) v):(mixKind prog w).is k v=true:=by
 cases k with
 | inl i=>obtain ⟨t,rfl⟩:=h;exact mixKind_int ..
 | inr x=>obtain ⟨t,rfl⟩:=h;exact mixKind_str ..
theorem zip_alike:∀ {ks ls:List Key}{us vs:List Value},Paired Alike ks ls->Vals (ks.map kV) us->Vals (ls.map kV) vs->∀ x∈us.zip vs,∃ k m,Alike k m/\RelV (kV k) x.1/\RelV (kV m) x.2
 | _,_,_,_,.nil,.nil,.nil,x,h=>by cases h
 | _,_,_,_,.cons h1 t1,.cons h2 t2,.cons h3 t3,x,h=>by
  rw [List.zip_cons_cons] at h
  rcases List.mem_cons.mp h with rfl|h
  ·exact ⟨_,_,h1,h2,h3⟩
  ·exact zip_alike t1 t2 t3 x h
theorem so_tup {b:Bool}{ks ls:List Key}{u v:Value}{Q:Bool->Shared->Prop}(hal:Paired Alike ks ls) (hu:TuK s.heap ks u) (hv:TuK s.heap ls v) (q:∀ c,Q c s):wpAny (model prog w) A (keyLt' (tuples' b) u v) Q E s:=by
 obtain ⟨a,o,its,n,rfl,ho,_,hd,h1⟩:=hu
 obtain ⟨a',o',its',n',rfl,ho',_,hd',h1'⟩:=hv
 rw [tuLt_eq]
 refine wpAny_bind (listItems_at ho hd (wpAny_bind (listItems_at ho' hd' ?_)))
 refine wpAny_bind (wpAny_mono (wpAny_forIn_list _ (fun (l:List ((Value×Value)×Nat)) r s'=>s'=s/\r=(none,())/\∀ x∈l,∃ k m,Alike k m/\RelV (kV k) x.1.1/\RelV (kV m) x.1.2) (fun r s'=>s'=s/\((∃ c,r=(some c,()))\/r=(none,()))) ?_ ?_ _ _ ⟨rfl,rfl,?_⟩) ?_ fun _ _ e=>e)
 ·rintro ⟨⟨y,z⟩,i⟩ rest r s' ⟨rfl,rfl,hl⟩
  obtain ⟨k,m,al,hk,hm⟩:=hl _ List.mem_cons_self
  refine wpAny_bind ((mixKind prog w).eqBool (is_of hk) (is_of hm) ?_)
  split
  ·exact wpAny_bind (so_one al hk hm fun c=>wpAny_pure ⟨rfl,.inl ⟨c,rfl⟩⟩)
  ·exact wpAny_pure ⟨rfl,rfl,fun x hx=>hl x (List.mem_cons_of_mem _ hx)⟩
 ·rintro r s' ⟨rfl,rfl,_⟩
  exact ⟨rfl,.inr rfl⟩
 ·exact fun x hx=>zip_alike hal h1 h1' x.1 (List.fst_mem_of_mem_zipIdx hx)
 ·rintro r s' ⟨rfl,⟨c,rfl⟩|rfl⟩
  ·exact wpAny_pure (q c)
  ·exact wpAny_pure (q _)
theorem so_firsts {Q:List (Option Value)->Shared->Prop}:∀ {vs:List Value},(∀ v∈vs,∃ x ks,TuK s.heap (.inr x::ks) v)->(∀ (us:List Value) (ss:List Str),StrsAre us ss->us.length=vs.length->Q (us.map some) s)->wpAny (model prog w) A (vs.mapM firstOfTuple') Q E s
 | [],_,q=>by
  rw [List.mapM_nil]
  exact wpAny_pure (q [] [] .nil rfl)
 | v::vs,h,q=>by
  rw [List.mapM_cons]
  obtain ⟨x,ks,hv⟩:=h v List.mem_cons_self
  refine wpAny_bind (so_first hv fun t=>wpAny_bind (so_firsts (fun v hv=>h v (List.mem_cons_of_mem _ hv)) fun us ss hu hl=>?_))
  exact wpAny_pure (q (.str x t::us) (x::ss) (.cons x t hu) (by rw [List.length_cons,List.length_cons,hl]))
theorem so_kind {vs:List Value}{Q:SortKind->Shared->Prop}(h:∀ v∈vs,∃ x ks,TuK s.heap (.inr x::ks) v) (q:∀ b,Q (tuples' b) s):wpAny (model prog w) A (keyKind' vs.toArray) Q E s:=by
 rw [keyKind'_eq,List.mapM_toArray]
 refine wpAny_bind (wpAny_map (so_firsts h fun us ss hu hl=>?_))
 rw [if_pos (by simp)]
 refine wpAny_bind (wpAny_rule ?_)
 have e:Array.filterMap id (us.map some).toArray=us.toArray:=by simp [List.filterMap_map]
 rw [e,oneTypeOnly'_eq,List.mapM_toArray,mapM_typeOf_strs hu]
 simp only [map_pure,pure_bind]
 split
 ·exact wpAny_bind (wpAny_pure (wpAny_pure (q _)))
 ·exact wpAny_bind (wpAny_pure (wpAny_pure (q _)))
end
theorem perm_lift {α β:Type}{f:α->β}{l m:List β}(h:l.Perm m):∀ {rs:List α},m=rs.map f->∃ rs':List α,rs'.Perm rs/\l=rs'.map f:=by
 induction h with
 | nil=>exact fun {rs} e=>⟨rs,.refl _,e⟩
 | cons x _ ih =>
  intro rs e
  cases rs with
  | nil=>cases e
  | cons r rs =>
   rw [List.map_cons] at e
   obtain ⟨e1,e2⟩:=List.cons.inj e
   obtain ⟨rs',p,rfl⟩:=ih e2
   exact ⟨r::rs',p.cons r,by rw [List.map_cons,e1]⟩
 | swap x y l =>
  intro rs e
  match rs,e with
  | r::r'::rs,e =>
   rw [List.map_cons,List.map_cons] at e
   obtain ⟨e1,e2⟩:=List.cons.inj e
   obtain ⟨e3,e4⟩:=List.cons.inj e2
   exact ⟨r'::r::rs,.swap ..,by rw [List.map_cons,List.map_cons,<- e1,<- e3,<- e4]⟩
 | trans _ _ ih1 ih2 =>
  intro rs e
  obtain ⟨r2,p2,e2⟩:=ih2 e
  obtain ⟨r1,p1,e1⟩:=ih1 e2
  exact ⟨r1,p1.trans p2,e1⟩
theorem tri {Z:Zt}:∀ {ws:List V}{its:List Value}{kss:List (List Key)},Ats Z ws (kss.map tkD)->Vals ws its->∃ rs:List (Value×V×List Key),its=rs.map (·.1)/\ws=rs.map (·.2.1)/\kss=rs.map (·.2.2)/\∀ r∈rs,At Z r.2.1 (tkD r.2.2)/\RelV r.2.1 r.1
 | [],[],[],_,_=>⟨[],rfl,rfl,rfl,fun _ h=>nomatch h⟩
 | w::ws,u::its,k::kss,.cons a1 t1,.cons a2 t2=>by
  obtain ⟨rs,rfl,rfl,rfl,h⟩:=tri t1 t2
  refine ⟨(u,w,k)::rs,rfl,rfl,rfl,fun r hr=>?_⟩
  rcases List.mem_cons.mp hr with rfl|hr
  ·exact ⟨a1,a2⟩
  ·exact h r hr
theorem tri_at {Z:Zt}:∀ {rs:List (Value×V×List Key)},(∀ r∈rs,At Z r.2.1 (tkD r.2.2)/\RelV r.2.1 r.1)->Ats Z (rs.map (·.2.1)) ((rs.map (·.2.2)).map tkD)/\Vals (rs.map (·.2.1)) (rs.map (·.1))
 | [],_=>⟨.nil,.nil⟩
 | r::rs,h=>by
  obtain ⟨h1,h2⟩:=h r List.mem_cons_self
  obtain ⟨t1,t2⟩:=tri_at fun x hx=>h x (List.mem_cons_of_mem _ hx)
  exact ⟨.cons h1 t1,.cons h2 t2⟩
section
variable {X:Cx}
unseal CallR2
theorem c_sortedT:CallR2 X (.builtin "sorted") (fun xs M Q=>on1 xs fun x=>onO (lsOf M x) fun ds=>∃ kss:List (List Key),ds=kss.map tkD/\kss.length<64/\(∀ k∈kss,∃ x r,k=.inr x::r)/\(∀ k∈kss,∀ l∈kss,Paired Alike k l)/\∀ ys:List (List Key),ys.Perm kss->Q (.lst (ys.map tkD)) M):=by
 intro pins s σ H xs us Q I r h
 obtain ⟨Z,ds,M,Q2,hr,a,h,k⟩:=h
 obtain ⟨x,rfl,h1⟩:=of_1 h
 obtain ⟨zs,e,kss,rfl,h64,hf,al,q⟩:=of_O h1
 obtain ⟨v,rfl,av⟩:=ats1 a
 obtain ⟨p,ws,rfl,hs,a2⟩:=hr.rdL e av
 obtain ⟨u,rfl,ru⟩:=vals1 r
 cases (show u=Value.ref p from ru)
 obtain ⟨its,rv,pl,hz⟩:=I.list hs
 obtain ⟨rs,rfl,rfl,rfl,hrs⟩:=tri a2 rv
 have tk:∀ r∈rs,TuK s.heap r.2.2 r.1:=fun r hr'=>by
  obtain ⟨b1,b2⟩:=hrs r hr'
  obtain ⟨c,vs,ec,hc,a3⟩:=hr.rdT b1
  obtain ⟨its,r1,⟨o,h1,h2,n,h3⟩,_⟩:=I.tuple hc
  rw [ec] at b2
  have e3:=ats_keys a3
  rw [e3] at r1
  exact ⟨c,o,_,n,b2,h1,h2,h3,r1⟩
 rw [List.length_map] at h64
 refine so_sorted pl.isList (by rw [List.length_map];exact h64) (fun A E s1 Q keep _ hq=>?_) fun out po=>?_
 ·refine so_kind (fun v hv=>?_) fun b=>hq _ fun x hx y hy A E Q q=>?_
  ·obtain ⟨r,hr',rfl⟩:=List.mem_map.mp hv
   obtain ⟨x,ks,e⟩:=hf _ (List.mem_map.mpr ⟨r,hr',rfl⟩)
   exact ⟨x,ks,by rw [<- e];exact (tk r hr').mono keep⟩
  ·rw [pairsOf_toList] at hx hy
   obtain ⟨_,mx⟩:=mem_zip_self hx
   obtain ⟨_,my⟩:=mem_zip_self hy
   obtain ⟨r,h1,e1⟩:=List.mem_map.mp mx
   obtain ⟨r',h2,e2⟩:=List.mem_map.mp my
   rw [<- e1,<- e2]
   exact so_tup (al _ (List.mem_map.mpr ⟨r,h1,rfl⟩) _ (List.mem_map.mpr ⟨r',h2,rfl⟩)) ((tk r h1).mono keep) ((tk r' h2).mono keep) q
 ·obtain ⟨rs',pr,e⟩:=perm_lift po rfl
  obtain ⟨c,hc⟩:=sortedAll_at s.heap (rs.map (·.1)) out
  obtain ⟨t1,t2⟩:=tri_at (rs:=rs') fun r hr'=>hrs r (pr.mem_iff.mp hr')
  refine ⟨.ref _,_,I.laid (t':=s.toks) (o:=.lst (rs'.map (·.2.1))) (fun _ _=>sortedAll_old) (Nat.le_succ _) ?_,rfl,k.f hr (I.hok.fresh (Nat.le_succ _)) t1 (q _ (pr.map _))⟩
  refine ⟨?_,out.toList,c,by rw [e];exact t2,hc⟩
  rw [List.length_map,pr.length_eq]
  have:(64:Nat)<=sizeLine:=by decide
  omega
end
end L3
set_option maxHeartbeats 4000000
namespace My
open PySem PyProof.Rows L2 L3
local macro_rules | `(tactic| walk_at "eq")=>`(tactic| simp only [List.cons.injEq,Option.some.injEq,D.int.injEq,D.str.injEq,D.bl.injEq,D.tup.injEq,D.lst.injEq,D.ref.injEq,true_and,and_true,exists_and_left,exists_and_right,exists_eq',exists_eq,exists_const,eq_self])
local macro_rules | `(tactic| walk_at "cap")=>`(tactic| (simp only [r_cap,List.map_cons,List.map_nil,List.getElem?_cons_succ,List.getElem?_cons_zero,Option.join_some];walk_at "rd"))
local macro_rules | `(tactic| walk_at "in")=>`(tactic| ((try simp only [st_c,st_n,st_e]);walk_at "rd"))
local macro_rules | `(tactic| simp_arith [$xs,*])=>`(tactic| simp -failIfUnchanged only [↓r_fld,↓r_sfld,↓r_meth,↓r_make,↓r_tnew,↓r_tput,↓r_inT,↓r_tget,r_onMO,↓r_v0,↓r_s0,↓r_n0,↓r_v1,↓r_s1,↓r_n1,↓r_v2,↓r_s2,↓r_n2,↓r_v3,↓r_s3,↓r_n3,↓r_v4,↓r_s4,↓r_n4,↓r_v5,↓r_s5,↓r_n5,↓r_v6,↓r_s6,↓r_n6,↓r_v7,↓r_s7,↓r_n7,↓r_v8,↓r_s8,↓r_n8,↓r_v9,↓r_s9,↓r_n9,↓r_v10,↓r_s10,↓r_n10,↓r_v11,↓r_s11,↓r_n11,↓r_v12,↓r_s12,↓r_n12,↓r_v13,↓r_s13,↓r_n13,↓r_v14,↓r_s14,↓r_n14,↓r_v15,↓r_s15,↓r_n15,↓r_c,↓r_op,↓r_test,↓r_chain,↓r_un,↓r_or,↓r_not,↓r_andV,↓r_notV,↓r_cs,↓r_nil,↓r_cons,↓r_tup,↓r_lstF,↓r_lst,↓r_cb,↓r_call,↓r_nopart,↓r_part,↓r_sl,↓r_next,↓r_seq,↓r_drop,↓r_ret,↓r_ifS,↓r_for,↓r_wlist,↓r_wrng1,↓r_compF,↓r_bm,↓r_true,↓r_frz,↓r_onI,↓r_onB,↓r_onS,↓r_onR,↓r_onO,↓r_ixS,↓r_slS,↓r_on1,↓r_on2,↓r_sI,↓r_sI0,↓r_sU,↓r_eqI,↓r_neI,↓r_eqS,↓r_neS,↓r_eqB,↓r_neB,↓r_isi,↓r_ixT,↓r_ixL,↓r_slF,↓r_catF,↓r_eqTT,↓r_eqLL,↓r_eqRx,↓r_eqLx,↓r_flint,↓r_flstr,↓r_flbl,↓r_flnon,↓r_eqFi,↓r_eqFs,↓r_lsL,↓r_sqL,↓r_sqT,↓r_lsP,↓r_sqP,↓r_tybool,↓r_tyint,↓r_tystr,↓r_tytuple,↓r_tylist,↓r_tynon,↓r_typ,↓r_is_int_int,↓r_is_int_bool,↓r_is_int_str,↓r_is_int_list,↓r_is_int_tuple,↓r_is_int_dict,↓r_is_bool_int,↓r_is_bool_bool,↓r_is_str_int,↓r_is_str_bool,↓r_is_str_str,↓r_is_str_list,↓r_is_str_tuple,↓r_is_str_dict,↓r_is_list_int,↓r_is_list_bool,↓r_is_list_str,↓r_is_list_list,↓r_is_list_tuple,↓r_is_list_dict,↓r_is_tuple_int,↓r_is_tuple_bool,↓r_is_tuple_str,↓r_is_tuple_list,↓r_is_tuple_tuple,↓r_is_tuple_dict,↓r_is_dict_int,↓r_is_dict_bool,↓r_is_dict_str,↓r_is_dict_list,↓r_is_dict_tuple,↓r_is_dict_dict,↓r_is_NoneType_int,↓r_is_NoneType_bool,↓r_is_NoneType_str,↓r_is_NoneType_list,↓r_is_NoneType_tuple,↓r_is_NoneType_dict,↓at0,↓at1,↓at2,↓at3,↓at4,↓r_app,↓r_onIsL,↓r_onIsP,↓r_on3,↓r_on4,↓r_on5,↓reduceIte,if_true,if_false,Bool.false_eq_true,decide_eq_true_eq,Bool.not_true,Bool.not_false,true_and,and_true,List.length_cons,List.length_nil,List.length_map,List.length_append,List.cons_append,List.nil_append,Nat.zero_add,ne_eq,reduceCtorEq,not_false_eq_true,Int.reduceLT,Int.reduceLE,Int.reducePow,Int.reduceNeg,forall_const,eq_self,Bool.not_eq_eq_eq_not,decide_true,decide_false,List.all_cons,List.all_nil,List.any_cons,List.any_nil,Bool.and_true,Bool.true_and,Bool.or_false,Bool.false_or,Bool.or_eq_true,Bool.and_eq_true,decide_eq_false_iff_not,Nat.reduceLeDiff,Nat.reduceAdd,Nat.reduceSub,Nat.reduceMul,Int.reduceAdd,Int.reduceSub,Int.reduceMul,Int.reduceEq,Nat.reduceEqDiff,Int.reduceToNat,r_onO,r_onI,r_onB,r_onS,r_onR,szl,szlt,cmpL_ints,cmpL_nil,cmpL_ii,cmpL_ss,cmpL_nn,Option.map_some,cst0,cst1,cst2,cst3,cst4,cst5,cst6,cst7,cst8,cst9,cst10,cst11,cst12,cut1_0,cut1_1,cut1_2,cut1_3,sIx1,Nat.succ_ne_zero,Nat.reduceEqDiff,false_and,$xs,*])
local macro_rules | `(tactic| walk_at "rd")=>`(tactic| simp_arith [true_and])
def top (i:Nat):Stmt:=PySem.Challenge.pw_beatwright_k55_gates_put.main.body.getD i (.Pass ⟨0,0,0,0⟩)
def clsBody (s:Stmt):List Stmt:=match s with
 | .ClassDef _ _ _ b _ _ _ _ _ _ _=>b
 | _=>[]
abbrev s_Net___init__:Stmt:=(clsBody (top 1)).getD 0 (.Pass ⟨0,0,0,0⟩)
abbrev s_Net_placed:Stmt:=(clsBody (top 1)).getD 1 (.Pass ⟨0,0,0,0⟩)
abbrev s_Net_asked:Stmt:=(clsBody (top 1)).getD 2 (.Pass ⟨0,0,0,0⟩)
abbrev s_Net_both:Stmt:=(clsBody (top 1)).getD 3 (.Pass ⟨0,0,0,0⟩)
abbrev s_Net_differ:Stmt:=(clsBody (top 1)).getD 4 (.Pass ⟨0,0,0,0⟩)
abbrev s_Net_told:Stmt:=(clsBody (top 1)).getD 5 (.Pass ⟨0,0,0,0⟩)
abbrev s__law_cell:Stmt:=top 3
abbrev s__law_mix:Stmt:=top 4
abbrev s__law_names:Stmt:=top 5
abbrev s__law_word:Stmt:=top 6
abbrev s__law_settled:Stmt:=top 7
abbrev s__law_place:Stmt:=top 8
abbrev s__law_deed:Stmt:=top 9
abbrev s_law:Stmt:=top 10
section
variable {P:Program}{w:World}{K:PySem.W.Frag}{mg:Str->Option Value}{base:Heap}
structure DF (K:PySem.W.Frag) (mg:Str->Option Value) (x:Str) (st:Stmt) (ps:List Str) where
 f:Addr
 g:FuncData
 d:Df K mg x st ps f g
structure DM (K:PySem.W.Frag) (C:Addr) (m qual:Str) (st:Stmt) (ps:List Str) where
 f:Addr
 g:FuncData
 d:Mf K C m qual st ps f g
set_option genInjectivity false in
set_option genSizeOf false in
structure Tx (K:PySem.W.Frag) (w:World) (mg:Str->Option Value) where
 C_Net:Addr
 cl_Net:Cls K C_Net
 mgc_Net:mg "Net" = some (.ref C_Net)
 na_Net_rows:NoAttr K C_Net "rows"
 na_Net_places:NoAttr K C_Net "places"
 x0:DM K C_Net "__init__" "Net.__init__" s_Net___init__ ["self"]
 mk_Net:Mk K C_Net x0.f
 x1:DM K C_Net "placed" "Net.placed" s_Net_placed ["self", "row"]
 x2:DM K C_Net "asked" "Net.asked" s_Net_asked ["self", "sort", "name", "place"]
 x3:DM K C_Net "both" "Net.both" s_Net_both ["self", "i", "j"]
 x4:DM K C_Net "differ" "Net.differ" s_Net_differ ["self", "i", "j"]
 x5:DM K C_Net "told" "Net.told" s_Net_told ["self"]
 x6:DF K mg "_law_cell" s__law_cell ["script", "k"]
 x7:DF K mg "_law_mix" s__law_mix ["number", "salt"]
 x8:DF K mg "_law_names" s__law_names ["number", "many"]
 x9:DF K mg "_law_word" s__law_word ["number", "width"]
 x10:DF K mg "_law_settled" s__law_settled ["rows", "ins"]
 x11:DF K mg "_law_place" s__law_place ["found", "rows"]
 x12:DF K mg "_law_deed" s__law_deed ["net", "number", "known", "ins", "truth"]
 x13:DF K mg "law" s_law ["script"]
 B:Blt mg
abbrev Ok (P:Program) (w:World) (K:PySem.W.Frag) (mg:Str->Option Value) (base:Heap) (k:Nat) (f:Addr) (fd:FuncData) (ps:List Str) (sp:Sp2):Prop:=FnOk P w K mg base CX0 k f fd ps (lSp K sp)
theorem sc_Net_placed:FnScope ["self", "row"] ["self", "row"] (dfS s_Net_placed):=⟨rfl,rfl,rfl,by decide +kernel,rfl,by decide +kernel,by decide +kernel⟩
inductive Gt where
 | no | yes | inp (s n:Str) (p:Int) | and (l h:Nat) | xor (l h:Nat)
def Gt.ks:Gt->List Key
 | .no=>[.inr "no"]
 | .yes=>[.inr "yes"]
 | .inp s n p=>[.inr "in",.inr s,.inr n,.inl p]
 | .and l h=>[.inr "and",.inl l,.inl h]
 | .xor l h=>[.inr "xor",.inl l,.inl h]
theorem Gt.ks_inj {a b:Gt}(h:a.ks=b.ks):a=b:=by
 cases a<;>cases b<;>simp only [Gt.ks,List.cons.injEq,Sum.inr.injEq,Sum.inl.injEq,and_true,reduceCtorEq,and_false,false_and] at h<;>first | rfl | exact absurd h (by decide +kernel) | exact absurd h.1 (by decide +kernel) | skip
 ·obtain ⟨_,rfl,rfl,rfl⟩:=h;rfl
 ·obtain ⟨_,h1,h2⟩:=h
  rw [Int.ofNat.inj h1,Int.ofNat.inj h2]
 ·obtain ⟨_,h1,h2⟩:=h
  rw [Int.ofNat.inj h1,Int.ofNat.inj h2]
def gD (g:Gt):D:=L3.tkD g.ks
def pls (gs:List Gt):List (List Key×D):=gs.zipIdx.map fun x=>(x.1.ks,D.int (x.2:Int))
theorem pls_len (gs:List Gt):(pls gs).length=gs.length:=by unfold pls;rw [List.length_map,List.length_zipIdx]
theorem pls_snoc (gs:List Gt) (g:Gt):pls (gs++[g])=pls gs++[(g.ks,D.int (gs.length:Int))]:=by
 unfold pls
 rw [List.zipIdx_append,List.map_append,Nat.zero_add]
 rfl
theorem pls_none {gs:List Gt}{g:Gt}(h:g∉gs):valT (pls gs) g.ks=none:=by
 unfold valT
 rw [Option.map_eq_none_iff,List.find?_eq_none]
 intro x hx e
 obtain ⟨y,hy,rfl⟩:=List.mem_map.mp hx
 exact h (by rw [<- Gt.ks_inj (of_decide_eq_true e)];exact List.fst_mem_of_mem_zipIdx hy)
theorem pls_some {gs:List Gt}{g:Gt}{i:Nat}(nd:gs.Nodup) (h:gs[i]? = some g):valT (pls gs) g.ks=some (.int (i:Int)):=by
 have hi:=(List.getElem?_eq_some_iff.mp h).1
 have e1:(pls gs)[i]? = some (g.ks,.int (i:Int)):=by
  unfold pls
  rw [List.getElem?_map,List.getElem?_zipIdx,h]
  simp
 unfold valT
 have:(pls gs).find? (fun kv=>decide (kv.1=g.ks))=some (g.ks,.int (i:Int)):=by
  rw [List.find?_eq_some_iff_getElem]
  refine ⟨by simp,i,by rw [pls_len];exact hi,(List.getElem?_eq_some_iff.mp e1).2,fun j hj=>?_⟩
  have hjl:j<gs.length:=by omega
  have e2:(pls gs)[j]? = some (gs[j].ks,.int (j:Int)):=by
   unfold pls
   rw [List.getElem?_map,List.getElem?_zipIdx,List.getElem?_eq_getElem hjl]
   simp
  rw [(List.getElem?_eq_some_iff.mp e2).2]
  simp only [Bool.not_eq_true',decide_eq_false_iff_not]
  intro e
  have:=Gt.ks_inj e
  rw [<- (List.getElem?_eq_some_iff.mp h).2] at this
  exact absurd ((List.getElem_inj nd).mp this) (by omega)
 rw [this]
 rfl
theorem putT_new {kvs:List (List Key×D)}{ks:List Key}{v:D}(h:valT kvs ks=none):putT kvs ks v=kvs++[(ks,v)]:=by
 have e:(kvs.any fun kv=>decide (kv.1=ks))=false:=by
  cases q:kvs.any fun kv=>decide (kv.1=ks) with
  | false=>rfl
  | true =>
   obtain ⟨x,hx,e⟩:=List.any_eq_true.mp q
   unfold valT at h
   rw [Option.map_eq_none_iff] at h
   exact absurd e (List.find?_eq_none.mp h x hx)
 unfold putT
 rw [e]
 rfl
structure Nt (C:Addr) (M:Mp) (p a b:Addr):Prop where
 o:M p=some (.obj C [("rows",.ref a),("places",.ref b)])
 pa:p≠a
 pb:p≠b
 ab:a≠b
 na:M a=none
 nb:M b=none
def netM (M:Mp) (a b:Addr) (gs:List Gt):Mp:=put (put M a (.lst (gs.map gD))) b (.dct (pls gs))
section
variable {C:Addr}{M:Mp}{p a b q:Addr}{gs gs':List Gt}
theorem netM_a (h:a≠b):netM M a b gs a=some (.lst (gs.map gD)):=by unfold netM;rw [put_ne h,put_same]
theorem netM_sq (h:a≠b):sqOf (netM M a b gs) (.ref a)=some (gs.map gD):=by unfold sqOf lsOf;simp only [netM_a h]
theorem netM_b:netM M a b gs b=some (.dct (pls gs)):=put_same
theorem netM_o (h1:q≠a) (h2:q≠b):netM M a b gs q=M q:=by unfold netM;rw [put_ne h2,put_ne h1]
theorem Nt.at (h:Nt C M p a b):netM M a b gs p=some (.obj C [("rows",.ref a),("places",.ref b)]):=by rw [netM_o h.pa h.pb];exact h.o
theorem put_comm {u v:MO}(h:a≠b):put (put M a u) b v=put (put M b v) a u:=by
 funext x
 unfold put
 by_cases h1:x=a
 ·rw [if_neg (fun e=>h (h1.symm.trans e)),if_pos h1,if_pos h1]
 ·by_cases h2:x=b
  ·rw [if_pos h2,if_neg h1,if_pos h2]
  ·rw [if_neg h2,if_neg h1,if_neg h1,if_neg h2]
theorem netM_put {o:MO}(h1:q≠a) (h2:q≠b):put (netM M a b gs) q o=netM (put M q o) a b gs:=by
 unfold netM
 rw [put_comm (Ne.symm h2),put_comm (a:=a) (b:=q) (Ne.symm h1)]
theorem netM_new (h:netM M a b gs q=none) (hab:a≠b):q≠a/\q≠b/\M q=none:=by
 have h1:q≠a:=fun e=>by rw [e,netM_a hab] at h;cases h
 have h2:q≠b:=fun e=>by rw [e,netM_b] at h;cases h
 exact ⟨h1,h2,by rw [netM_o h1 h2] at h;exact h⟩
theorem Nt.put {o:MO}(h:Nt C M p a b) (hq:M q=none) (qa:q≠a) (qb:q≠b):Nt C (L3.put M q o) p a b:=⟨by rw [put_ne (fun e=>by rw [<- e,h.o] at hq;cases hq)];exact h.o,h.pa,h.pb,h.ab,by rw [put_ne qa.symm];exact h.na,by rw [put_ne qb.symm];exact h.nb⟩
theorem Nt.sub (h:Nt C M p a b):Sub M (netM M a b gs):=fun x o e=>by
 rw [netM_o (fun z=>by rw [z,h.na] at e;cases e) (fun z=>by rw [z,h.nb] at e;cases e)]
 exact e
end
theorem lkR {x y:D}:List.lookup ("rows":Str) [("rows",x),("places",y)]=some x:=by rw [List.lookup,show (("rows":Str) == "rows")=true by decide +kernel]
theorem lkP {x y:D}:List.lookup ("places":Str) [("rows",x),("places",y)]=some y:=by rw [List.lookup,show (("places":Str) == "rows")=false by decide +kernel,List.lookup,show (("places":Str) == "places")=true by decide +kernel]
theorem lkNo {m:Str}{x y:D}(h1:(m == "rows")=false) (h2:(m == "places")=false):List.lookup m [("rows",x),("places",y)]=none:=by rw [List.lookup,h1,List.lookup,h2];rfl
section
variable {C:Addr}{M:Mp}{p a b:Addr}{u v u' v':MO}
theorem Nt.atp (h:Nt C M p a b):L3.put (L3.put M a u) b v p=some (.obj C [("rows",.ref a),("places",.ref b)]):=by rw [put_ne h.pb,put_ne h.pa];exact h.o
theorem Nt.ata (h:Nt C M p a b):L3.put (L3.put M a u) b v a=some u:=by rw [put_ne h.ab,put_same]
theorem Nt.putA (h:Nt C M p a b):L3.put (L3.put (L3.put M a u) b v) a u'=L3.put (L3.put M a u') b v:=by rw [put_comm (a:=b) (b:=a) (Ne.symm h.ab),put_put]
end
theorem Nt.mt {C:Addr}{M:Mp}{p a b:Addr}{gs:List Gt}{R:Prop}{m:Str}(h:Nt C M p a b) (q:R) (h1:(m == "rows")=false:=by decide +kernel) (h2:(m == "places")=false:=by decide +kernel):onMO C (netM M a b gs p) fun fs=>fs.lookup m=none/\R:=⟨_,h.at,lkNo h1 h2,q⟩
def sp_Net_placed (C:Addr) (ds:List D) (M:Mp) (Q:VK2):Prop:=on2 ds fun x y=>∃ (M0:Mp) (p a b:Addr) (gs:List Gt) (g:Gt),x=.ref p/\y=gD g/\Nt C M0 p a b/\M=netM M0 a b gs/\gs.Nodup/\gs.length<1000000/\(∀ i:Nat,gs[i]? = some g->Q (.int i) (netM M0 a b gs))/\(g∉gs->Q (.int gs.length) (netM M0 a b (gs++[g])))
theorem ok_Net_placed (T:Tx K w mg):Ok P w K mg base 1 T.x1.f T.x1.g ["self", "row"] (sp_Net_placed T.C_Net):=by
 refine Fun.o2 T.x1.d.F sc_Net_placed fun cdv A outer s H E x y M Q hr h=>?_
 obtain ⟨M0,p,a,b,gs,g,rfl,rfl,nt,rfl,nd,hl,q1,q2⟩:=h
 refine ⟨_,(qss_cut (qs_if (qtcmp (o_notinT rfl (hu_of hr)) (qv 1) (qfld T.cl_Net T.na_Net_places (qv 0)) (by with_unfolding_all rfl)) (qC (qs_tput rfl (hu_of hr) (qfld T.cl_Net T.na_Net_places (qv 0)) (qv 1) (qcallB c_len T.B.len PySem.boot_len (qA (qfld T.cl_Net T.na_Net_rows (qv 0)) qN)) rfl) (qO (qs_expr (qbm PySem.F.plainAttrs_list PySem.F.slot_list_append PySem.F.type_list_append m_append (qfld T.cl_Net T.na_Net_rows (qv 0)) (qA (qv 1) qN))))) qE) (qO (qs_ret (qtget rfl (hu_of hr) (qfld T.cl_Net T.na_Net_places (qv 0)) (qv 1) (fun _ _=>rfl))))),?_⟩
 (try simp only [st_c,st_n,st_e])
 refine ⟨fun τ M'=>∃ (i:Nat) (gs':List Gt),τ=[some (.ref p),some (gD g)]/\M'=netM M0 a b gs'/\gs'.Nodup/\gs'[i]? = some g/\Q (.int i) (netM M0 a b gs'),?_,?_⟩
 ·walk_at "rd"
  unfold netM
  simp only [nt.atp,r_onMO,lkR,lkP,r_onO,r_onR,dtOf,put_same,put_put,sqOf,lsOf,nt.ata]
  refine ⟨g.ks,rfl,ite2 (fun c=>?_) fun c=>?_⟩
  ·have vn:valT (pls gs) g.ks=none:=by
    cases h:valT (pls gs) g.ks with
    | none=>rfl
    | some _=>rw [h] at c;cases c
   have ng:g∉gs:=fun hm=>by
    obtain ⟨i,hi⟩:=List.mem_iff_getElem?.mp hm
    rw [pls_some nd hi] at vn
    cases vn
   have hz:gs.length<sizeLine:=Nat.lt_trans hl (by decide)
   refine ⟨g.ks,rfl,?_⟩
   simp only [onMT]
   refine ⟨by rw [pls_len];exact hz,by simp only [tyD,nt.ata],?_⟩
   simp only [sAppend,r_onR,on1,nt.ata]
   refine ⟨by rw [List.length_map];exact hz,gs.length,gs++[g],?_,?_,by simp,q2 ng⟩
   ·rw [nt.putA,putT_new vn,List.length_map,pls_snoc,List.map_append]
    rfl
   ·rw [List.nodup_append]
    exact ⟨nd,by simp,fun x hx y hy e=>ng (by rw [e,List.mem_singleton.mp hy] at hx;exact hx)⟩
  ·obtain ⟨i,hi⟩:∃ i:Nat,gs[i]? = some g:=by
    refine List.mem_iff_getElem?.mp (Classical.not_not.mp fun ng=>?_)
    rw [pls_none ng] at c
    exact c rfl
   exact ⟨i,gs,rfl,nd,hi,q1 i hi⟩
 rintro τ M' ⟨i,gs',rfl,rfl,nd',hi,q⟩
 walk_at "rd"
 rw [nt.at,r_onMO,lkP,r_onO]
 simp only [dtOf,netM_b,r_onO]
 exact ⟨g.ks,rfl,by rw [pls_some nd' hi,r_onO];exact Dn.of q⟩
theorem sc_Net___init__:FnScope ["self"] ["self"] (dfS s_Net___init__):=⟨rfl,rfl,rfl,by decide +kernel,rfl,by decide +kernel,by decide +kernel⟩
local macro_rules | `(tactic| walk_at "rd")=>`(tactic| simp_arith [true_and,↓sp_Net_placed])
abbrev Ins:=Str->Str->Int->Bool
def Gt.val (ins:Ins) (bs:List Bool):Gt->Bool
 | .no=>false
 | .yes=>true
 | .inp s n p=>ins s n p
 | .and l h=>bs.getD l false && bs.getD h false
 | .xor l h=>Bool.xor (bs.getD l false) (bs.getD h false)
def evs (ins:Ins) (gs:List Gt):List Bool:=gs.foldl (fun bs g=>bs++[g.val ins bs]) []
def vl (ins:Ins) (gs:List Gt) (i:Nat):Bool:=(evs ins gs).getD i false
def Gt.Ok (k:Nat):Gt->Prop
 | .and l h=>l<h/\h<k
 | .xor l h=>l<h/\h<k
 | _=>True
structure WF (gs:List Gt):Prop where
 nd:gs.Nodup
 n:gs[0]? = some .no
 y:gs[1]? = some .yes
 g:∀ (k:Nat) g,gs[k]? = some g->g.Ok k
section
variable {ins:Ins}{gs e:List Gt}{g:Gt}{i l h:Nat}
theorem evs_snoc:evs ins (gs++[g])=evs ins gs++[g.val ins (evs ins gs)]:=by unfold evs;rw [List.foldl_append];rfl
theorem evs_ext:∃ bs:List Bool,evs ins (gs++e)=evs ins gs++bs/\bs.length=e.length:=by
 induction e generalizing gs with
 | nil=>exact ⟨[],by rw [List.append_nil,List.append_nil],rfl⟩
 | cons g e ih =>
  obtain ⟨bs,h1,h2⟩:=ih (gs:=gs++[g])
  refine ⟨g.val ins (evs ins gs)::bs,?_,by rw [List.length_cons,List.length_cons,h2]⟩
  rw [show gs++g::e=gs++[g]++e by rw [List.append_assoc];rfl,h1,evs_snoc,List.append_assoc]
  rfl
theorem evs_len:(evs ins gs).length=gs.length:=by
 obtain ⟨bs,h1,h2⟩:=evs_ext (ins:=ins) (gs:=[]) (e:=gs)
 rw [List.nil_append] at h1
 rw [h1,List.length_append,h2]
 exact Nat.zero_add _
theorem vl_left (hi:i<gs.length):vl ins (gs++e) i=vl ins gs i:=by
 obtain ⟨bs,h1,_⟩:=evs_ext (ins:=ins) (gs:=gs) (e:=e)
 unfold vl
 rw [h1,List.getD_eq_getElem?_getD,List.getElem?_append_left (by rw [evs_len];exact hi),<- List.getD_eq_getElem?_getD]
theorem vl_is (wf:WF gs) (hg:gs[i]? = some g):vl ins gs i=match g with
  | .no=>false | .yes=>true | .inp s n p=>ins s n p | .and l h=>vl ins gs l && vl ins gs h | .xor l h=>Bool.xor (vl ins gs l) (vl ins gs h):=by
 have ok:=wf.g i g hg
 obtain ⟨A,R,rfl,hA⟩:∃ A R,gs=A++([g]++R)/\A.length=i:=by
  have hi:=(List.getElem?_eq_some_iff.mp hg).1
  refine ⟨gs.take i,gs.drop (i+1),?_,by rw [List.length_take];omega⟩
  rw [<- (List.getElem?_eq_some_iff.mp hg).2,List.singleton_append,<- List.drop_eq_getElem_cons hi,List.take_append_drop]
 have old:∀ {j:Nat},j<i->vl ins (A++([g]++R)) j=vl ins A j:=fun {j} hj=>vl_left (by rw [hA];exact hj)
 have e2:vl ins (A++([g]++R)) i=g.val ins (evs ins A):=by
  rw [<- List.append_assoc,vl_left (by rw [List.length_append,hA,List.length_singleton];omega)]
  unfold vl
  rw [evs_snoc,List.getD_eq_getElem?_getD,List.getElem?_append_right (by rw [evs_len,hA];exact Nat.le_refl _),evs_len,hA,Nat.sub_self]
  rfl
 rw [e2]
 cases g with
 | and l h=>obtain ⟨h1,h2⟩:=ok;dsimp only;rw [old (show l<i by omega),old h2];rfl
 | xor l h=>obtain ⟨h1,h2⟩:=ok;dsimp only;rw [old (show l<i by omega),old h2];rfl
 | _=>rfl
theorem WF.v0 (wf:WF gs):vl ins gs 0=false:=vl_is wf wf.n
theorem WF.v1 (wf:WF gs):vl ins gs 1=true:=vl_is wf wf.y
theorem WF.two (wf:WF gs):2<=gs.length:=by
 have:=(List.getElem?_eq_some_iff.mp wf.y).1
 omega
theorem WF.snoc (wf:WF gs) (hg:g∉gs) (ok:g.Ok gs.length):WF (gs++[g]):=by
 have h2:=wf.two
 refine ⟨?_,?_,?_,fun k x hx=>?_⟩
 ·rw [List.nodup_append]
  exact ⟨wf.nd,by simp,fun x hx y hy e=>hg (by rw [e,List.mem_singleton.mp hy] at hx;exact hx)⟩
 ·rw [List.getElem?_append_left (by omega)];exact wf.n
 ·rw [List.getElem?_append_left (by omega)];exact wf.y
 ·rcases Nat.lt_or_ge k gs.length with hk|hk
  ·rw [List.getElem?_append_left hk] at hx;exact wf.g k x hx
  ·rw [List.getElem?_append_right hk] at hx
   have hk2:k=gs.length:=by
    have:=(List.getElem?_eq_some_iff.mp hx).1
    simp at this
    omega
   subst hk2
   simp at hx
   rw [<- hx]
   exact ok
end
def GrI (J:Str->Str->Int->Prop) (n:Nat) (gs gs':List Gt):Prop:=∃ e,gs'=gs++e/\e.length<=n/\∀ s m p,Gt.inp s m p∈e->J s m p
abbrev NoI:Str->Str->Int->Prop:=fun _ _ _=>False
abbrev Gr:=GrI NoI
section
variable {J J':Str->Str->Int->Prop}{n m k:Nat}{x y z:List Gt}
theorem GrI.refl:GrI J n x x:=⟨[],by rw [List.append_nil],Nat.zero_le _,fun _ _ _ h=>nomatch h⟩
theorem GrI.trans (h1:GrI J n x y) (h2:GrI J m y z) (h:n+m<=k):GrI J k x z:=by
 obtain ⟨e,rfl,l1,j1⟩:=h1
 obtain ⟨e',rfl,l2,j2⟩:=h2
 exact ⟨e++e',by rw [List.append_assoc],by rw [List.length_append];omega,fun s m p h=>(List.mem_append.mp h).elim (j1 s m p) (j2 s m p)⟩
theorem GrI.le (h:GrI J n x y):x.length<=y.length/\y.length<=x.length+n:=by
 obtain ⟨e,rfl,l,_⟩:=h
 rw [List.length_append]
 omega
theorem GrI.vl (h:GrI J n x y) {ins:Ins}{i:Nat}(hi:i<x.length):My.vl ins y i=My.vl ins x i:=by
 obtain ⟨e,rfl,_⟩:=h
 exact vl_left hi
theorem GrI.mono (h:GrI J n x y) (hj:∀ s m p,J s m p->J' s m p):GrI J' n x y:=by
 obtain ⟨e,h1,h2,h3⟩:=h
 exact ⟨e,h1,h2,fun s m p h=>hj s m p (h3 s m p h)⟩
theorem GrI.inp (h:GrI J n x y) (hx:∀ s m p,Gt.inp s m p∈x->J' s m p) (hj:∀ s m p,J s m p->J' s m p):∀ s m p,Gt.inp s m p∈y->J' s m p:=by
 obtain ⟨e,rfl,h2,h3⟩:=h
 exact fun s m p h=>(List.mem_append.mp h).elim (hx s m p) fun h=>hj s m p (h3 s m p h)
end
abbrev PlJ (J:Str->Str->Int->Prop) (n:Nat) (gs:List Gt) (f:Ins->Bool) (M0:Mp) (a b:Addr) (Q:VK2):Prop:=∀ (gs':List Gt) (i:Nat),GrI J n gs gs'->WF gs'->i<gs'.length->(∀ ins,vl ins gs' i=f ins)->Q (.int i) (netM M0 a b gs')
abbrev PlQ:=PlJ NoI
def sp_Net___init__ (C:Addr) (ds:List D) (M:Mp) (Q:VK2):Prop:=on1 ds fun x=>∃ (M0:Mp) (p:Addr),x=.ref p/\M=put M0 p (.obj C [])/\M0 p=none/\∀ a b,M0 a=none->M0 b=none->Nt C (put M0 p (.obj C [("rows",.ref a),("places",.ref b)])) p a b->Q .non (netM (put M0 p (.obj C [("rows",.ref a),("places",.ref b)])) a b [.no,.yes])
theorem wf0:WF [.no,.yes]:=⟨by simp [List.nodup_cons],rfl,rfl,fun k g h=>by
 match k with
 | 0=>cases h;trivial
 | 1=>cases h;trivial
 | k+2=>simp at h⟩
theorem ok_Net___init__ (T:Tx K w mg):Ok P w K mg base 2 T.x0.f T.x0.g ["self"] (sp_Net___init__ T.C_Net):=by
 refine Fun.o1 T.x0.d.F sc_Net___init__ fun cdv A outer s H E x M Q hr h=>?_
 obtain ⟨M0,p,rfl,rfl,hp,q⟩:=h
 refine ⟨_,(qC (qs_fld T.cl_Net T.na_Net_rows (qv 0) (qlst qN)) (qC (qs_fld T.cl_Net T.na_Net_places (qv 0) qtnew) (qC (qs_expr (qmeth T.cl_Net T.x1.d (ok_Net_placed T) (hr.mono (by first | decide | omega)) (qv 0) (qA (qtup (qA qstr qN)) qN))) (qO (qs_expr (qmeth T.cl_Net T.x1.d (ok_Net_placed T) (hr.mono (by first | decide | omega)) (qv 0) (qA (qtup (qA qstr qN)) qN))))))),?_⟩
 walk_at "in"
 intro a ha
 have pa:p≠a:=fun e=>by rw [<- e,put_same] at ha;cases ha
 rw [put_ne pa,put_same,r_onMO]
 refine ⟨by decide,fun b hb=>?_⟩
 have m1:∀ {M:Mp} {x:Addr} {o u v:MO},x≠p->put (put (put M p o) x u) p v=put (put M p v) x u:=fun {M x o u v} hx=>by rw [put_comm hx,put_put]
 rw [m1 (Ne.symm pa)] at hb ⊢
 have pb:p≠b:=fun e=>by rw [<- e,put_ne pa,put_same] at hb;cases hb
 have ab:a≠b:=fun e=>by rw [<- e,put_same] at hb;cases hb
 have ha0:M0 a=none:=by rw [put_ne (Ne.symm pa)] at ha;exact ha
 have hb0:M0 b=none:=by rw [put_ne (Ne.symm ab),put_ne (Ne.symm pb)] at hb;exact hb
 rw [put_ne pb,put_ne pa,put_same,r_onMO]
 refine ⟨show 1<1000 by decide,?_⟩
 have eo:putO "places" (D.ref b) (putO "rows" (D.ref a) [])=([("rows",D.ref a),("places",D.ref b)]:List (Str×D)):=by
  show (if ("rows":Str) = "places" then _ else _)=_
  rw [if_neg (by decide +kernel)]
  rfl
 rw [eo,put_same,r_onMO,put_comm pb.symm,put_comm pa.symm,put_put]
 have nt:Nt T.C_Net (put M0 p (.obj T.C_Net [("rows",.ref a),("places",.ref b)])) p a b:=⟨put_same,pa,pb,ab,by rw [put_ne pa.symm];exact ha0,by rw [put_ne pb.symm];exact hb0⟩
 refine ⟨lkNo (by decide +kernel) (by decide +kernel),_,p,a,b,[],.no,rfl,rfl,nt,rfl,List.nodup_nil,by decide,fun i hi=>by simp at hi,fun _=>?_⟩
 rw [nt.at,r_onMO]
 refine ⟨lkNo (by decide +kernel) (by decide +kernel),_,p,a,b,[.no],.yes,rfl,rfl,nt,rfl,by simp,by decide,fun i hi=>?_,fun _=>Dn.of (q a b ha0 hb0 nt)⟩
 match i with
 | 0=>cases hi
 | i+1=>simp at hi
theorem sc_Net_asked:FnScope ["self", "sort", "name", "place"] ["self", "sort", "name", "place"] (dfS s_Net_asked):=⟨rfl,rfl,rfl,by decide +kernel,rfl,by decide +kernel,by decide +kernel⟩
def sp_Net_asked (C:Addr) (ds:List D) (M:Mp) (Q:VK2):Prop:=on4 ds fun x1 x2 x3 x4=>∃ (M0:Mp) (p a b:Addr) (gs:List Gt) (s n:Str) (k:Int),x1=.ref p/\x2=.str s/\x3=.str n/\x4=.int k/\Nt C M0 p a b/\M=netM M0 a b gs/\WF gs/\gs.length<1000000/\∀ (gs':List Gt) (i:Nat),GrI (fun s' n' k'=>s'=s/\n'=n/\k'=k) 1 gs gs'->WF gs'->gs'[i]? = some (.inp s n k)->(.inp s n k∈gs->gs'=gs)->Q (.int i) (netM M0 a b gs')
theorem ok_Net_asked (T:Tx K w mg):Ok P w K mg base 2 T.x2.f T.x2.g ["self", "sort", "name", "place"] (sp_Net_asked T.C_Net):=by
 refine Fun.o4 T.x2.d.F sc_Net_asked fun cdv A outer s H E x1 x2 x3 x4 M Q hr h=>?_
 obtain ⟨M0,p,a,b,gs,sx,nx,k,rfl,rfl,rfl,rfl,nt,rfl,wf,hl,q⟩:=h
 refine ⟨_,(qO (qs_ret (qmeth T.cl_Net T.x1.d (ok_Net_placed T) (hr.mono (by first | decide | omega)) (qv 0) (qA (qtup (qA qstr (qA (qv 1) (qA (qv 2) (qA (qv 3) qN))))) qN)))),?_⟩
 walk_at "in"
 rw [nt.at,r_onMO]
 refine ⟨lkNo (by decide +kernel) (by decide +kernel),M0,p,a,b,gs,.inp sx nx k,rfl,rfl,nt,rfl,wf.nd,hl,fun i hi=>Dn.of (q gs i .refl wf hi fun _=>rfl),fun ng=>?_⟩
 exact Dn.of (q _ gs.length ⟨_,rfl,Nat.le_refl _,fun s m p h=>by cases List.mem_singleton.mp h;exact ⟨rfl,rfl,rfl⟩⟩ (wf.snoc ng trivial) (by simp) fun c=>absurd c ng)
theorem sc_Net_both:FnScope ["self", "i", "j", "low", "high"] ["self", "i", "j"] (dfS s_Net_both):=⟨rfl,rfl,rfl,by decide +kernel,rfl,by decide +kernel,by decide +kernel⟩
def sp_Net_both (C:Addr) (ds:List D) (M:Mp) (Q:VK2):Prop:=on3 ds fun x1 x2 x3=>∃ (M0:Mp) (p a b:Addr) (gs:List Gt) (i j:Nat),x1=.ref p/\x2=.int i/\x3=.int j/\Nt C M0 p a b/\M=netM M0 a b gs/\WF gs/\gs.length<1000000/\(i<gs.length/\j<gs.length)/\PlQ 1 gs (fun ins=>vl ins gs i && vl ins gs j) M0 a b Q
theorem minmax (i j:Nat):∃ l h:Nat,(if (j:Int)<i then (j:Int) else i)=l/\(if (j:Int) > i then (j:Int) else i)=h/\l<=h/\((l=i/\h=j)\/(l=j/\h=i)):=by
 rcases Nat.le_total i j with h|h
 ·exact ⟨i,j,by split<;>omega,by split<;>omega,h,.inl ⟨rfl,rfl⟩⟩
 ·exact ⟨j,i,by split<;>omega,by split<;>omega,h,.inr ⟨rfl,rfl⟩⟩
theorem ok_Net_both (T:Tx K w mg):Ok P w K mg base 2 T.x3.f T.x3.g ["self", "i", "j"] (sp_Net_both T.C_Net):=by
 refine Fun.o3 T.x3.d.F sc_Net_both fun cdv A outer s H E x1 x2 x3 M Q hr h=>?_
 obtain ⟨M0,p,a,b,gs,i,j,rfl,rfl,rfl,nt,rfl,wf,hl,⟨hi,hj⟩,q⟩:=h
 refine ⟨_,(qC (qs_set (i:=3) sc_Net_both.nd rfl (Or.inl rfl) (qcallB (c_min rfl) T.B.min boot_min (qA (qv 1) (qA (qv 2) qN)))) (qC (qs_set (i:=4) sc_Net_both.nd rfl (Or.inl rfl) (qcallB (c_max rfl) T.B.max boot_max (qA (qv 1) (qA (qv 2) qN)))) (qC (qs_if ((qw_or (qtcmp o_eq (qv 3) qint (nomark _)) (qw_or1 (qtcmp o_eq (qv 3) (qv 4) (nomark _))))).pt (qO (qs_ret (qv 3))) qE) (qC (qs_if (qtcmp o_eq (qv 3) qint (nomark _)) (qO (qs_ret (qv 4))) qE) (qO (qs_ret (qmeth T.cl_Net T.x1.d (ok_Net_placed T) (hr.mono (by first | decide | omega)) (qv 0) (qA (qtup (qA qstr (qA (qv 3) (qA (qv 4) qN)))) qN)))))))),?_⟩
 obtain ⟨l,h,e1,e2,lh,hlh⟩:=minmax i j
 have sym:∀ ins,(vl ins gs i && vl ins gs j)=(vl ins gs l && vl ins gs h):=fun ins=>by
  rcases hlh with ⟨rfl,rfl⟩|⟨rfl,rfl⟩
  ·rfl
  ·exact Bool.and_comm _ _
 have hl2:l<gs.length/\h<gs.length:=by omega
 walk_at "in"
 simp only [e1,e2]
 refine ite2 (fun c=>Dn.of (q gs l .refl wf hl2.1 fun ins=>?_)) fun c0=>ite2 (fun c=>Dn.of (q gs l .refl wf hl2.1 fun ins=>?_)) fun c1=>ite2 (fun c=>Dn.of (q gs h .refl wf hl2.2 fun ins=>?_)) fun c2=>?_
 ·refine Eq.trans ?_ (sym ins).symm;rw [show l=0 by omega,wf.v0];rfl
 ·refine Eq.trans ?_ (sym ins).symm;rw [show h=l by omega,Bool.and_self]
 ·refine Eq.trans ?_ (sym ins).symm;rw [show l=1 by omega,wf.v1];rfl
 rw [nt.at,r_onMO]
 refine ⟨lkNo (by decide +kernel) (by decide +kernel),M0,p,a,b,gs,.and l h,rfl,rfl,nt,rfl,wf.nd,hl,fun k hk=>Dn.of (q gs k .refl wf (List.getElem?_eq_some_iff.mp hk).1 fun ins=>(vl_is wf hk).trans (sym ins).symm),fun ng=>?_⟩
 have wf':=wf.snoc ng ⟨by omega,hl2.2⟩
 refine Dn.of (q _ gs.length ⟨_,rfl,Nat.le_refl _,fun s m p h=>by cases List.mem_singleton.mp h⟩ wf' (by simp) fun ins=>?_)
 refine Eq.trans ?_ (sym ins).symm
 rw [vl_is wf' (g:=.and l h) (by simp)]
 dsimp only
 rw [vl_left hl2.1,vl_left hl2.2]
theorem sc_Net_differ:FnScope ["self", "i", "j", "low", "high"] ["self", "i", "j"] (dfS s_Net_differ):=⟨rfl,rfl,rfl,by decide +kernel,rfl,by decide +kernel,by decide +kernel⟩
def sp_Net_differ (C:Addr) (ds:List D) (M:Mp) (Q:VK2):Prop:=on3 ds fun x1 x2 x3=>∃ (M0:Mp) (p a b:Addr) (gs:List Gt) (i j:Nat),x1=.ref p/\x2=.int i/\x3=.int j/\Nt C M0 p a b/\M=netM M0 a b gs/\WF gs/\gs.length<1000000/\(i<gs.length/\j<gs.length)/\PlQ 1 gs (fun ins=>Bool.xor (vl ins gs i) (vl ins gs j)) M0 a b Q
theorem ok_Net_differ (T:Tx K w mg):Ok P w K mg base 2 T.x4.f T.x4.g ["self", "i", "j"] (sp_Net_differ T.C_Net):=by
 refine Fun.o3 T.x4.d.F sc_Net_differ fun cdv A outer s H E x1 x2 x3 M Q hr h=>?_
 obtain ⟨M0,p,a,b,gs,i,j,rfl,rfl,rfl,nt,rfl,wf,hl,⟨hi,hj⟩,q⟩:=h
 refine ⟨_,(qC (qs_set (i:=3) sc_Net_differ.nd rfl (Or.inl rfl) (qcallB (c_min rfl) T.B.min boot_min (qA (qv 1) (qA (qv 2) qN)))) (qC (qs_set (i:=4) sc_Net_differ.nd rfl (Or.inl rfl) (qcallB (c_max rfl) T.B.max boot_max (qA (qv 1) (qA (qv 2) qN)))) (qC (qs_if (qtcmp o_eq (qv 3) (qv 4) (nomark _)) (qO (qs_ret qint)) qE) (qC (qs_if (qtcmp o_eq (qv 3) qint (nomark _)) (qO (qs_ret (qv 4))) qE) (qO (qs_ret (qmeth T.cl_Net T.x1.d (ok_Net_placed T) (hr.mono (by first | decide | omega)) (qv 0) (qA (qtup (qA qstr (qA (qv 3) (qA (qv 4) qN)))) qN)))))))),?_⟩
 obtain ⟨l,h,e1,e2,lh,hlh⟩:=minmax i j
 have sym:∀ ins,Bool.xor (vl ins gs i) (vl ins gs j)=Bool.xor (vl ins gs l) (vl ins gs h):=fun ins=>by
  rcases hlh with ⟨rfl,rfl⟩|⟨rfl,rfl⟩
  ·rfl
  ·exact Bool.xor_comm _ _
 have hl2:l<gs.length/\h<gs.length:=by omega
 walk_at "in"
 simp only [e1,e2]
 refine ite2 (fun c=>Dn.of (q gs 0 .refl wf (by omega) fun ins=>?_)) fun c1=>ite2 (fun c=>Dn.of (q gs h .refl wf hl2.2 fun ins=>?_)) fun c2=>?_
 ·refine Eq.trans ?_ (sym ins).symm;rw [show h=l by omega,wf.v0,Bool.xor_self]
 ·refine Eq.trans ?_ (sym ins).symm;rw [show l=0 by omega,wf.v0,Bool.false_xor]
 rw [nt.at,r_onMO]
 refine ⟨lkNo (by decide +kernel) (by decide +kernel),M0,p,a,b,gs,.xor l h,rfl,rfl,nt,rfl,wf.nd,hl,fun k hk=>Dn.of (q gs k .refl wf (List.getElem?_eq_some_iff.mp hk).1 fun ins=>(vl_is wf hk).trans (sym ins).symm),fun ng=>?_⟩
 have wf':=wf.snoc ng ⟨by omega,hl2.2⟩
 refine Dn.of (q _ gs.length ⟨_,rfl,Nat.le_refl _,fun s m p h=>by cases List.mem_singleton.mp h⟩ wf' (by simp) fun ins=>?_)
 refine Eq.trans ?_ (sym ins).symm
 rw [vl_is wf' (g:=.xor l h) (by simp)]
 dsimp only
 rw [vl_left hl2.1,vl_left hl2.2]
theorem sc_Net_told:FnScope ["self"] ["self"] (dfS s_Net_told):=⟨rfl,rfl,rfl,by decide +kernel,rfl,by decide +kernel,by decide +kernel⟩
def sp_Net_told (C:Addr) (ds:List D) (M:Mp) (Q:VK2):Prop:=on1 ds fun x=>∃ (M0:Mp) (p a b:Addr) (gs:List Gt),x=.ref p/\Nt C M0 p a b/\M=netM M0 a b gs/\∀ u,M u=none->Q (.ref u) (put M u (.lst (gs.map gD)))
theorem ok_Net_told (T:Tx K w mg):Ok P w K mg base 1 T.x5.f T.x5.g ["self"] (sp_Net_told T.C_Net):=by
 refine Fun.o1 T.x5.d.F sc_Net_told fun cdv A outer s H E x M Q hr h=>?_
 obtain ⟨M0,p,a,b,gs,rfl,nt,rfl,q⟩:=h
 refine ⟨_,(qO (qs_ret (qcallTy c_list T.B.list boot_list (qA (qfld T.cl_Net T.na_Net_rows (qv 0)) qN)))),?_⟩
 walk_at "in"
 rw [nt.at,r_onMO,lkR,r_onO,netM_sq nt.ab,r_onO]
 exact fun u hu=>Dn.of (q u hu)
theorem sc__law_cell:FnScope ["script", "k"] ["script", "k"] (dfS s__law_cell):=⟨rfl,rfl,rfl,by decide +kernel,rfl,by decide +kernel,by decide +kernel⟩
def sp__law_cell (ds:List D) (M:Mp) (Q:VK2):Prop:=on2 ds fun x y=>onIs M x fun _=>onI y fun k=>(0<=k/\k<=1000)/\∀ z:Int,0<=z->Q (.int z) M
theorem ok__law_cell (T:Tx K w mg):Ok P w K mg base 1 T.x6.f T.x6.g ["script", "k"] sp__law_cell:=by
 refine Fun.o2 T.x6.d.F sc__law_cell fun cdv A outer s H E x y M Q hr h1=>?_
 obtain ⟨ns,hls,hsq,h2⟩:=of_Is h1
 obtain ⟨k,rfl,⟨k0,k1⟩,q⟩:=of_I h2
 refine ⟨_,(qC (qs_if (qtcmp o_lt (qv 1) (qcallB c_len T.B.len PySem.boot_len (qA (qv 0) qN)) (nomark _)) (qO (qs_ret (qop o_mod (qix i_list (qv 0) (qv 1) (fun _ _=>rfl)) qint))) qE) (qO (qs_ret (qop o_mod (qop o_mul (qop o_mul (qv 1) (qv 1)) qint) qint)))),?_⟩
 walk_at "in"
 rw [hsq,hls]
 simp only [r_onO,List.length_map]
 refine ite2 (fun c=>?_) fun c=>⟨.inl ⟨by omega,by omega⟩,.inr ⟨by decide,by decide⟩,Dn.of (q _ (Int.emod_nonneg _ (by decide)))⟩
 obtain ⟨o,ho,mo⟩:=at_memG (xs:=ns.map D.int) (i:=k) k0 (by rw [List.length_map];exact c)
 obtain ⟨z,hz,rfl⟩:=List.mem_map.mp mo
 rw [ho]
 walk_at "rd"
 exact Dn.of (q _ (Int.emod_nonneg _ (by decide)))
theorem sc__law_mix:FnScope ["number", "salt", "mixed"] ["number", "salt"] (dfS s__law_mix):=⟨rfl,rfl,rfl,by decide +kernel,rfl,by decide +kernel,by decide +kernel⟩
def sp__law_mix (ds:List D) (M:Mp) (Q:VK2):Prop:=on2 ds fun x y=>onI x fun _=>onI y fun _=>∀ r:Int,0<=r->r<2147483629->Q (.int r) M
theorem ok__law_mix (T:Tx K w mg):Ok P w K mg base 1 T.x7.f T.x7.g ["number", "salt"] sp__law_mix:=by
 refine Fun.o2 T.x7.d.F sc__law_mix fun cdv A outer s H E x y M Q hr h1=>?_
 obtain ⟨n,rfl,h2⟩:=of_I h1
 obtain ⟨k,rfl,q⟩:=of_I h2
 refine ⟨_,(qC (qs_set (i:=2) sc__law_mix.nd rfl (Or.inl rfl) (qop o_mod (qop o_add (qop o_add (qop o_mul (qv 0) qint) (qop o_mul (qv 1) qint)) qint) qint)) (qO (qs_ret (qop o_mod (qop o_mul (qv 2) (qv 2)) qint)))),?_⟩
 walk_at "in"
 have h0:=Int.emod_nonneg (n*69621+k*16807+1013) (show (2147483647:Int)≠0 by decide)
 have h1:=Int.emod_lt_of_pos (n*69621+k*16807+1013) (show (0:Int)<2147483647 by decide)
 exact ⟨.inr ⟨by decide,by decide⟩,.inr ⟨by decide,by decide⟩,.inl ⟨by omega,by omega⟩,Dn.of (q _ (Int.emod_nonneg _ (by decide)) (Int.emod_lt_of_pos _ (by decide)))⟩
theorem sc__law_names:FnScope ["number", "many", "letters", "first", "step", "size", "at", "stem", "names", "k", "sign"] ["number", "many"] (dfS s__law_names):=⟨rfl,rfl,rfl,by decide +kernel,rfl,by decide +kernel,by decide +kernel⟩
local macro_rules | `(tactic| walk_at "rd")=>`(tactic| simp_arith [true_and,↓sp__law_mix])
theorem strsOf_map:∀ ss:List Str,strsOf (ss.map D.str)=some ss
 | []=>rfl
 | s::ss=>by rw [List.map_cons,strsOf,strsOf_map ss];rfl
def lettersS:Str:="abcdefghijklmnopqrstuvwxyz"
theorem letters_len:lettersS.cps.toList.length=26:=by decide +kernel
theorem len_one (c:_):(⟨#[c]⟩:Str).length=1:=rfl
theorem slice8 {z:Str}{lo hi:Option Int}(h:z.length<=8):(PySem.Txt.slice z lo hi).length<=8:=Nat.le_trans (PySem.Txt.slice_le z lo hi) h
def sp__law_names (ds:List D) (M:Mp) (Q:VK2):Prop:=on2 ds fun x y=>onI x fun n=>onI y fun m=>(0<=n/\0<=m/\m<=26)/\∀ zs:List Str,(zs.length:Int)=m->∀ p,M p=none->Q (.ref p) (put M p (.lst (zs.map D.str)))
theorem ok__law_names (T:Tx K w mg):Ok P w K mg base 2 T.x8.f T.x8.g ["number", "many"] sp__law_names:=by
 refine Fun.o2 T.x8.d.F sc__law_names fun cdv A outer s H E x y M Q hr h1=>?_
 obtain ⟨n,rfl,h2⟩:=of_I h1
 obtain ⟨m,rfl,⟨n0,m0,m26⟩,q⟩:=of_I h2
 refine ⟨_,(qC (qs_set (i:=2) sc__law_names.nd rfl (Or.inr rfl) qstr) (qC (qs_set (i:=3) sc__law_names.nd rfl (Or.inl rfl) (qop o_mod (qv 0) qint)) (qC (qs_set (i:=4) sc__law_names.nd rfl (Or.inl rfl) (qix i_list (qlstF (qa_cs (.int (.int (.int (.int (.int (.int (.int (.int .nil)))))))))) (qop o_mod (qop o_fdiv (qv 0) qint) qint) (fun _ _=>rfl))) (qC (qs_set (i:=5) sc__law_names.nd rfl (Or.inl rfl) (qop o_add qint (qop o_mod (qop o_fdiv (qv 0) qint) qint))) (qC (qs_set (i:=6) sc__law_names.nd rfl (Or.inl rfl) (qop o_mod (qop o_fdiv (qv 0) qint) (qv 5))) (qC (qs_set (i:=7) sc__law_names.nd rfl (Or.inl rfl) (qbm PySem.F.plainAttrs_str PySem.F.slot_str_join PySem.F.type_str_join m_join qstr (qA (qcompF (caps:=[("letters",2),("number",0)]) ⟨rfl,by rfl,by rfl,by rfl,rfl,by rfl,by decide +kernel⟩ rfl (qi_range1 T.B.range (qA (qv 5) qN)) (fun _ _ _ _ _ _=>(qix i_str (qv 1) (qop o_mod (qcall T.x7.d (ok__law_mix T) (hr.mono (by first | decide | omega)) (qA (qv 2) (qA (qop o_add qint (qv 0)) qN))) qint) (fun _ _=>rfl)))) qN))) (qC (qs_set (i:=8) sc__law_names.nd rfl (Or.inl rfl) (qlst qN)) (qss_cut (qs_for PassesOwn.never rfl (qi_range1 T.B.range (qA (qv 1) qN)) (qg_name (i:=9) sc__law_names.nd rfl (Or.inl rfl)) (qC (qs_set (i:=10) sc__law_names.nd rfl (Or.inl rfl) (qix i_str (qv 2) (qop o_mod (qop o_add (qv 3) (qop o_mul (qv 9) (qv 4))) qint) (fun _ _=>rfl))) (qO (qs_if (qtcmp o_eq (qop o_mod (qop o_fdiv (qv 0) qint) qint) qint (nomark _)) (qO (qs_expr (qbm PySem.F.plainAttrs_list PySem.F.slot_list_append PySem.F.type_list_append m_append (qv 8) (qA (qop o_add_str (qop o_add_str (qslice s_str (qv 7) qo_none (qo_some (qv 6))) (qv 10)) (qslice s_str (qv 7) (qo_some (qop o_add (qv 6) qint)) qo_none)) qN)))) (qO (qs_expr (qbm PySem.F.plainAttrs_list PySem.F.slot_list_append PySem.F.type_list_append m_append (qv 8) (qA (qop o_add_str (qop o_rep_str (qix i_str (qv 2) (qv 3) (fun _ _=>rfl)) (qop o_mod (qv 9) qint)) (qv 10)) qN)))))))) (qO (qs_ret (qv 8))))))))))),?_⟩
 walk_at "in"
 obtain ⟨st,hst,mst⟩:=at_memG (xs:=[D.int 1,.int 3,.int 5,.int 7,.int 9,.int 11,.int 15,.int 17]) (i:=n / 26%8) (by omega) (by show _<(8:Int);omega)
 obtain ⟨sv,rfl,sv0,sv1⟩:∃ sv:Int,st=.int sv/\0<=sv/\sv<=17:=by
  simp only [List.mem_cons,List.not_mem_nil,or_false] at mst
  rcases mst with rfl|rfl|rfl|rfl|rfl|rfl|rfl|rfl<;>exact ⟨_,rfl,by decide,by decide⟩
 rw [hst]
 simp only [r_onO]
 generalize hsz:1+n / 208%8=sz
 have z1:1<=sz:=by omega
 have z8:sz<=8:=by omega
 refine ⟨⟨by decide,by decide⟩,⟨by decide,by decide⟩,⟨by decide,by decide⟩,by omega,⟨by omega,by omega⟩,?_⟩
 have letter:∀ i:Int,0<=i->i<26->∃ c,atI lettersS.cps.toList i=some c:=fun i h0 h1=>by
  obtain ⟨c,hc,_⟩:=at_memG (xs:=lettersS.cps.toList) (i:=i) h0 (by rw [letters_len];exact h1)
  exact ⟨c,hc⟩
 refine ⟨by rw [rng_len];exact sz1 (by omega),fun i ys M'=>M'=M/\∃ zs:List Str,ys=zs.map D.str/\zs.length=i/\lens zs=i,⟨rfl,[],rfl,rfl,rfl⟩,?_,?_,?_⟩
 ·rintro i ys M' ⟨rfl,zs,rfl,hl,_⟩
  exact ⟨trivial,by rw [List.length_map];omega⟩
 ·rintro i x ys M' hx ⟨rfl,zs,rfl,hl,hs⟩
  obtain ⟨hi,rfl⟩:=rng_get hx
  unfold uTrue
  dsimp only
  rw [if_pos rfl]
  walk_at "cap"
  intro r r0 r1
  obtain ⟨c,hc⟩:=letter (r%26) (by omega) (by omega)
  change lettersS.length<=sizeLine/\onO (atI lettersS.cps.toList (r%26)) _
  rw [hc]
  refine ⟨sz1 (by decide +kernel),zs++[⟨#[c]⟩],by rw [List.map_append];rfl,by rw [List.length_append,hl];rfl,?_⟩
  unfold lens at hs ⊢
  rw [List.map_append,List.sum_append,hs]
  rfl
 ·rintro ys M' ⟨rfl,zs,rfl,hl,hs⟩
  rw [rng_len] at hl hs
  rw [strsOf_map]
  simp only [r_onO]
  refine ⟨⟨rfl,by omega⟩,fun stem hstem p hp=>?_⟩
  have hs8:stem.length<=8:=by omega
  refine ⟨fun τ M2=>∃ (zs:List Str) (v9 v10:Option D),τ=[some (.int n),some (.int m),some (.str lettersS),some (.int (n%26)),some (.int sv),some (.int sz),some (.int (n / 1664%sz)),some (.str stem),some (.ref p),v9,v10]/\M2=put M' p (.lst (zs.map D.str))/\(zs.length:Int)=m,?_,?_⟩
  ·walk_at "rd"
   refine ⟨⟨by omega,by omega⟩,fun k τ M2=>∃ (zs:List Str) (v9 v10:Option D),τ=[some (.int n),some (.int m),some (.str lettersS),some (.int (n%26)),some (.int sv),some (.int sz),some (.int (n / 1664%sz)),some (.str stem),some (.ref p),v9,v10]/\M2=put M' p (.lst (zs.map D.str))/\zs.length=k,⟨[],none,none,rfl,rfl,rfl⟩,fun _ _ _ _=>trivial,?_,?_⟩
   ·rintro k y τ M2 hy ⟨zs,v9,v10,rfl,rfl,hl⟩
    obtain ⟨hk,rfl⟩:=rng_get hy
    obtain ⟨c,hc⟩:=letter ((n%26+(0+(k:Int))*sv)%26) (by omega) (by omega)
    obtain ⟨c2,hc2⟩:=letter (n%26) (by omega) (by omega)
    have one:∀ z:Str,(zs.map D.str++[D.str z])=(zs++[z]).map D.str:=fun z=>by rw [List.map_append];rfl
    have lz:lettersS.length<=1000:=by decide +kernel
    walk_at "rd"
    rw [hc,hc2]
    simp only [r_onO]
    have s1:=slice8 (lo:=none) (hi:=some (n / 1664%sz)) hs8
    have s2:=slice8 (lo:=some (n / 1664%sz+1)) (hi:=none) hs8
    refine ⟨.inr ⟨by omega,by omega⟩,sz1 lz,⟨by decide,by decide⟩,ite2 (fun _=>?_) fun _=>⟨sz1 lz,⟨by omega,by omega,by rw [len_one];decide⟩,fun r hr=>?_⟩⟩
    ·refine ⟨sz1 (by omega),sz1 (by rw [len_one];omega),sz1 (by omega),sz1 (by rw [Str.length_append,len_one];omega),small1000 (by omega),zs++[_],_,_,rfl,by rw [one],by rw [List.length_append,hl];rfl⟩
    ·have h4:((0+(k:Int))%4).toNat<=3:=by omega
     rw [len_one,Nat.one_mul] at hr
     refine ⟨sz1 (by rw [len_one];omega),small1000 (by omega),zs++[_],_,_,rfl,by rw [one],by rw [List.length_append,hl];rfl⟩
   ·rintro τ M2 ⟨zs,v9,v10,rfl,rfl,hl⟩
    rw [rng_len] at hl
    exact ⟨zs,v9,v10,rfl,rfl,by omega⟩
  ·rintro τ M2 ⟨zs,v9,v10,rfl,rfl,hl⟩
   walk_at "rd"
   exact Dn.of (q zs hl p hp)
theorem sc__law_settled:FnScope ["rows", "ins", "found", "row"] ["rows", "ins"] (dfS s__law_settled):=⟨rfl,rfl,rfl,by decide +kernel,rfl,by decide +kernel,by decide +kernel⟩
def b2i (b:Bool):Int:=if b then 1 else 0
def sp__law_settled (ds:List D) (M:Mp) (Q:VK2):Prop:=on2 ds fun x y=>∃ (gs:List Gt) (ins:Ins),x=.lst (gs.map gD)/\WF gs/\gs.length<=1000000/\(∃ kvs,dtOf M y=some kvs/\∀ s n p,Gt.inp s n p∈gs->valT kvs [.inr s,.inr n,.inl p]=some (.int (b2i (ins s n p))))/\∀ u,M u=none->Q (.ref u) (put M u (.lst ((evs ins gs).map fun b=>.int (b2i b))))
theorem dt_put {M:Mp}{u:Addr}{o:MO}{y:D}{kvs:List (List Key×D)}(hu:M u=none) (h:dtOf M y=some kvs):dtOf (put M u o) y=some kvs:=by
 cases y with
 | dct _=>exact h
 | ref q =>
  unfold dtOf at h ⊢
  simp only at h ⊢
  split at h
  ·next e=>rw [Sub.put hu q _ e];exact h
  ·cases h
 | _=>cases h
local macro_rules | `(tactic| walk_at "rd")=>`(tactic| simp_arith [true_and,↓sp__law_settled])
theorem ok__law_settled (T:Tx K w mg):Ok P w K mg base 1 T.x10.f T.x10.g ["rows", "ins"] sp__law_settled:=by
 refine Fun.o2 T.x10.d.F sc__law_settled fun cdv A outer s H E x y M Q hr h=>?_
 obtain ⟨gs,ins,rfl,wf,hl,⟨kvs,hy,hin⟩,q⟩:=h
 refine ⟨_,(qC (qs_set (i:=2) sc__law_settled.nd rfl (Or.inl rfl) (qlst qN)) (qss_cut (qs_for PassesOwn.never rfl (qi_list (qv 0)) (qg_name (i:=3) sc__law_settled.nd rfl (Or.inl rfl)) (qO (qs_if (qtcmp o_eq (qix i_tup (qv 3) qint (fun _ _=>rfl)) qstr (nomark _)) (qO (qs_expr (qbm PySem.F.plainAttrs_list PySem.F.slot_list_append PySem.F.type_list_append m_append (qv 2) (qA (qtget rfl (hu_of hr) (qv 1) (qtup (qA (qix i_tup (qv 3) qint (fun _ _=>rfl)) (qA (qix i_tup (qv 3) qint (fun _ _=>rfl)) (qA (qix i_tup (qv 3) qint (fun _ _=>rfl)) qN)))) (fun _ _=>rfl)) qN)))) (qO (qs_if (qtcmp o_eq (qix i_tup (qv 3) qint (fun _ _=>rfl)) qstr (nomark _)) (qO (qs_expr (qbm PySem.F.plainAttrs_list PySem.F.slot_list_append PySem.F.type_list_append m_append (qv 2) (qA (qop o_mul (qix i_list (qv 2) (qix i_tup (qv 3) qint (fun _ _=>rfl)) (fun _ _=>rfl)) (qix i_list (qv 2) (qix i_tup (qv 3) qint (fun _ _=>rfl)) (fun _ _=>rfl))) qN)))) (qO (qs_if (qtcmp o_eq (qix i_tup (qv 3) qint (fun _ _=>rfl)) qstr (nomark _)) (qO (qs_expr (qbm PySem.F.plainAttrs_list PySem.F.slot_list_append PySem.F.type_list_append m_append (qv 2) (qA (qop o_mod (qop o_add (qix i_list (qv 2) (qix i_tup (qv 3) qint (fun _ _=>rfl)) (fun _ _=>rfl)) (qix i_list (qv 2) (qix i_tup (qv 3) qint (fun _ _=>rfl)) (fun _ _=>rfl))) qint) qN)))) (qO (qs_expr (qbm PySem.F.plainAttrs_list PySem.F.slot_list_append PySem.F.type_list_append m_append (qv 2) (qA (qbm PySem.F.plainAttrs_list PySem.F.slot_list_index PySem.F.type_list_index (m_index (hu45 hr)) (qlstF (qA qstr (qA qstr qN))) (qA (qix i_tup (qv 3) qint (fun _ _=>rfl)) qN)) qN))))))))))) (qO (qs_ret (qv 2))))),?_⟩
 walk_at "in"
 intro u hu
 refine ⟨fun τ M'=>∃ v3:Option D,M'=put M u (.lst ((evs ins gs).map fun b=>.int (b2i b)))/\τ=[some (.lst (gs.map gD)),some y,some (.ref u),v3],?_,?_⟩
 ·walk_at "rd"
  refine ⟨fun k τ M'=>∃ v3:Option D,M'=put M u (.lst ((evs ins (gs.take k)).map fun b=>.int (b2i b)))/\τ=[some (.lst (gs.map gD)),some y,some (.ref u),v3],⟨none,rfl,rfl⟩,fun _ _ _ _=>trivial,?_,?_⟩
  ·rintro k d τ M' hd ⟨v3,rfl,rfl⟩
   obtain ⟨g,hg,rfl⟩:=map_got hd
   have hk:=(List.getElem?_eq_some_iff.mp hg).1
   have tl:(gs.take k).length=k:=by rw [List.length_take];omega
   have ok:=wf.g k g hg
   have next:∀ x,x=b2i (g.val ins (evs ins (gs.take k)))->put M u (.lst (((evs ins (gs.take k)).map fun b=>.int (b2i b))++[.int x]))=put M u (.lst ((evs ins (gs.take (k+1))).map fun b=>.int (b2i b))):=fun x e=>by
    rw [List.take_add_one,hg,Option.toList_some,evs_snoc,List.map_append,e]
    rfl
   have sz:((evs ins (gs.take k)).map fun b=>D.int (b2i b)).length<sizeLine:=Nat.lt_of_le_of_lt (by rw [List.length_map,evs_len,tl];omega:_<=1000000) (by decide)
   have at_:∀ {j:Nat},j<k->atI ((evs ins (gs.take k)).map fun b=>D.int (b2i b)) (j:Int)=some (.int (b2i ((evs ins (gs.take k)).getD j false))):=fun {j} hj=>atI_nat (by
    have hj':j<(evs ins (gs.take k)).length:=by rw [evs_len,tl];exact hj
    rw [List.getElem?_map,List.getD_eq_getElem?_getD,List.getElem?_eq_getElem hj'];rfl)
   have sz':(evs ins (gs.take k)).length<sizeLine:=by simpa using sz
   cases g with
   | no =>
    simp only [gD,L3.tkD,Gt.ks,List.map_cons,List.map_nil,kD]
    walk_at "rd"
    repeat (refine ite2 (fun c=>absurd c (by decide +kernel)) fun _=>?_)
    rw [show strsOf [D.str "no",D.str "yes"]=some [("no":Str), "yes"] from rfl,r_onO,show idxS "no" [("no":Str), "yes"]=some 0 by decide +kernel,r_onO]
    exact ⟨sz',_,next 0 rfl,rfl⟩
   | yes =>
    simp only [gD,L3.tkD,Gt.ks,List.map_cons,List.map_nil,kD]
    walk_at "rd"
    repeat (refine ite2 (fun c=>absurd c (by decide +kernel)) fun _=>?_)
    rw [show strsOf [D.str "no",D.str "yes"]=some [("no":Str), "yes"] from rfl,r_onO,show idxS "yes" [("no":Str), "yes"]=some 1 by decide +kernel,r_onO]
    exact ⟨sz',_,next 1 rfl,rfl⟩
   | inp sx nx px =>
    simp only [gD,L3.tkD,Gt.ks,List.map_cons,List.map_nil,kD]
    walk_at "rd"
    rw [dt_put hu hy,r_onO]
    refine ⟨[.inr sx,.inr nx,.inl px],rfl,?_⟩
    rw [hin sx nx px (List.mem_of_getElem? hg),r_onO]
    exact ⟨sz',_,next _ rfl,rfl⟩
   | and l h =>
    simp only [gD,L3.tkD,Gt.ks,List.map_cons,List.map_nil,kD]
    walk_at "rd"
    obtain ⟨h1,h2⟩:=ok
    repeat (refine ite2 (fun c=>absurd c (by decide +kernel)) fun _=>?_)
    rw [at_ (by omega),r_onO,at_ h2,r_onO]
    walk_at "rd"
    refine ⟨?_,sz',_,next _ ?_,rfl⟩
    ·unfold CMul
     cases (evs ins (gs.take k)).getD l false<;>cases (evs ins (gs.take k)).getD h false<;>decide
    ·show _=b2i ((evs ins (gs.take k)).getD l false && (evs ins (gs.take k)).getD h false)
     cases (evs ins (gs.take k)).getD l false<;>cases (evs ins (gs.take k)).getD h false<;>rfl
   | xor l h =>
    simp only [gD,L3.tkD,Gt.ks,List.map_cons,List.map_nil,kD]
    walk_at "rd"
    obtain ⟨h1,h2⟩:=ok
    repeat (refine ite2 (fun c=>absurd c (by decide +kernel)) fun _=>?_)
    rw [at_ (by omega),r_onO,at_ h2,r_onO]
    walk_at "rd"
    refine ⟨sz',_,next _ ?_,rfl⟩
    show _=b2i (Bool.xor ((evs ins (gs.take k)).getD l false) ((evs ins (gs.take k)).getD h false))
    cases (evs ins (gs.take k)).getD l false<;>cases (evs ins (gs.take k)).getD h false<;>rfl
  ·rintro τ M' ⟨v3,rfl,rfl⟩
   rw [List.length_map,List.take_length]
   exact ⟨v3,rfl,rfl⟩
 rintro τ M' ⟨v3,rfl,rfl⟩
 walk_at "rd"
 exact Dn.of (q u hu)
theorem sc__law_place:FnScope ["found", "rows"] ["found", "rows"] (dfS s__law_place):=⟨rfl,rfl,rfl,by decide +kernel,rfl,by decide +kernel,by decide +kernel⟩
def sp__law_place (ds:List D) (M:Mp) (Q:VK2):Prop:=on2 ds fun x y=>∃ (i:Nat) (l:List D),x=.int (i:Int)/\y=.lst l/\i<l.length/\Q (.bl true) M
theorem ok__law_place (T:Tx K w mg):Ok P w K mg base 1 T.x11.f T.x11.g ["found", "rows"] sp__law_place:=by
 refine Fun.o2 T.x11.d.F sc__law_place fun cdv A outer s H E x y M Q hr h=>?_
 obtain ⟨i,l,rfl,rfl,hi,q⟩:=h
 refine ⟨_,(qO (qs_ret (qand (qcallB (c_isi "int") T.B.isinstance boot_isinstance (qA (qv 0) (qA (qty T.B.int boot_int) qN))) (qand (qnot (qcallB (c_isi "bool") T.B.isinstance boot_isinstance (qA (qv 0) (qA (qty T.B.bool boot_bool) qN)))) (qone (qchain o_le o_lt qint (qv 0) (qcallB c_len T.B.len PySem.boot_len (qA (qv 1) qN)))))))),?_⟩
 walk_at "in"
 refine ite2 (fun _=>?_) fun c=>absurd (Int.natCast_nonneg i) c
 rw [decide_eq_true (by omega)]
 exact Dn.of q
theorem sc__law_deed:FnScope ["net", "number", "known", "ins", "truth", "way", "one", "other", "names", "bit"] ["net", "number", "known", "ins", "truth"] (dfS s__law_deed):=⟨rfl,rfl,rfl,by decide +kernel,rfl,by decide +kernel,by decide +kernel⟩
local macro_rules | `(tactic| walk_at "rd")=>`(tactic| simp_arith [true_and,↓sp__law_names,↓sp_Net_differ,↓sp__law_mix,↓sp_Net_asked,↓sp_Net_both])
theorem vt_cons {kv:List Key×D}{kvs:List (List Key×D)}{k:List Key}:valT (kv::kvs) k=if kv.1=k then some kv.2 else valT kvs k:=by
 unfold valT
 rw [List.find?_cons]
 by_cases h:kv.1=k
 ·rw [if_pos h,decide_eq_true h];rfl
 ·rw [if_neg h,decide_eq_false h]
theorem vt_put {kvs:List (List Key×D)}{k k':List Key}{v:D}:valT (putT kvs k v) k'=if k'=k then some v else valT kvs k':=by
 unfold putT
 have key:∀ kvs:List (List Key×D),valT (kvs.map fun kv=>if kv.1=k then (kv.1,v) else kv) k'=if k'=k then (if kvs.any (fun kv=>decide (kv.1=k)) then some v else none) else valT kvs k':=fun kvs=>by
  induction kvs with
  | nil=>rw [List.map_nil];split<;>rfl
  | cons kv kvs ih =>
   rw [List.map_cons,vt_cons,vt_cons,ih,List.any_cons]
   by_cases h:kv.1=k
   ·rw [if_pos h,decide_eq_true h]
    by_cases h':k'=k
    ·simp [h,h']
    ·rw [if_neg h',if_neg h',if_neg (fun e=>h' (e.symm.trans h)),if_neg (fun e=>h' (e.symm.trans h))]
   ·rw [if_neg h,decide_eq_false h,Bool.false_or]
    by_cases h':k'=k
    ·rw [if_pos h',if_pos h',if_neg (fun e=>h (e.trans h'))]
    ·rw [if_neg h',if_neg h']
 by_cases h:(kvs.any fun kv=>decide (kv.1=k))=true
 ·rw [if_pos h,key,if_pos h]
 ·rw [if_neg h]
  induction kvs with
  | nil =>
   rw [List.nil_append,vt_cons]
   by_cases e:k'=k
   ·rw [if_pos e,if_pos e.symm]
   ·rw [if_neg e,if_neg (fun z=>e z.symm)]
  | cons kv kvs ih =>
   rw [List.any_cons,Bool.or_eq_true,not_or] at h
   rw [List.cons_append,vt_cons,vt_cons,ih h.2]
   have h1:¬ kv.1=k:=fun e=>h.1 (decide_eq_true e)
   by_cases e:k'=k
   ·rw [if_pos e,if_pos e,if_neg (fun z=>h1 (z.trans e))]
   ·rw [if_neg e,if_neg e]
theorem pt_len {kvs:List (List Key×D)}{k:List Key}{v:D}:(putT kvs k v).length<=kvs.length+1:=by
 unfold putT
 split
 ·rw [List.length_map];omega
 ·rw [List.length_append];exact Nat.le_refl _
theorem evs_congr {i j:Ins}:∀ {gs:List Gt},(∀ s n p,Gt.inp s n p∈gs->i s n p=j s n p)->evs i gs=evs j gs:=fun {gs}=>by
 have go:∀ (r gs:List Gt),r.reverse=gs->(∀ s n p,Gt.inp s n p∈gs->i s n p=j s n p)->evs i gs=evs j gs:=fun r=>by
  induction r with
  | nil=>intro gs e _;rw [<- e];rfl
  | cons g r ih =>
   intro gs e h
   rw [List.reverse_cons] at e
   have e1:=ih r.reverse rfl fun s n p hp=>h s n p (by rw [<- e];exact List.mem_append_left _ hp)
   rw [<- e,evs_snoc,evs_snoc,e1]
   congr 2
   cases g with
   | inp s n p=>exact h s n p (by rw [<- e];exact List.mem_append_right _ List.mem_cons_self)
   | _=>rfl
 exact go gs.reverse gs (List.reverse_reverse gs)
def bk (s n:Str) (p:Int):List Key:=[.inr s,.inr n,.inl p]
def insV (kvs:List (List Key×D)):Ins:=fun s n p=>match valT kvs (bk s n p) with
 | some (.int i)=>decide (i=1)
 | _=>false
def knD (e:Nat×Bool):D:=.tup [.int (e.1:Int),.int (b2i e.2)]
structure Kn (gs:List Gt) (kvs:List (List Key×D)) (kn:List (Nat×Bool)):Prop where
 wf:WF gs
 v:∀ s n p,Gt.inp s n p∈gs->valT kvs (bk s n p)=some (.int (b2i (insV kvs s n p)))
 k:∀ x∈kvs,∃ s n p,x.1=bk s n p/\Gt.inp s n p∈gs
 p:∀ e∈kn,e.1<gs.length/\e.2=vl (insV kvs) gs e.1
theorem bk_inj {s n s' n':Str}{p p':Int}(h:bk s n p=bk s' n' p'):s=s'/\n=n'/\p=p':=by simpa [bk] using h
theorem insV_of {kvs:List (List Key×D)}{s n:Str}{p:Int}{b:Bool}(h:valT kvs (bk s n p)=some (.int (b2i b))):insV kvs s n p=b:=by
 unfold insV
 rw [h]
 cases b<;>rfl
theorem insV_eq {kvs kvs':List (List Key×D)}{s n:Str}{p:Int}(h:valT kvs (bk s n p)=valT kvs' (bk s n p)):insV kvs s n p=insV kvs' s n p:=by
 unfold insV
 rw [h]
theorem vl_congr {i j:Ins}{gs:List Gt}{m:Nat}(h:∀ s n p,Gt.inp s n p∈gs->i s n p=j s n p):vl i gs m=vl j gs m:=by
 unfold vl
 rw [evs_congr h]
theorem vt_mem {kvs:List (List Key×D)}{k:List Key}{d:D}(h:valT kvs k=some d):∃ x∈kvs,x.1=k:=by
 unfold valT at h
 obtain ⟨x,hx,_⟩:=Option.map_eq_some_iff.mp h
 exact ⟨x,List.mem_of_find?_eq_some hx,by simpa using List.find?_some hx⟩
theorem Kn.ask {gs gs':List Gt}{kvs kvs1:List (List Key×D)}{kn:List (Nat×Bool)}{s n:Str}{p:Int}{i:Nat}(h:Kn gs kvs kn) (hc:((valT kvs (bk s n p)).isSome/\kvs1=kvs)\/(valT kvs (bk s n p)=none/\∃ b,kvs1=putT kvs (bk s n p) (.int (b2i b)))) (g:GrI (fun s' n' k'=>s'=s/\n'=n/\k'=p) 1 gs gs') (wf':WF gs') (hi:gs'[i]? = some (.inp s n p)) (hs:Gt.inp s n p∈gs->gs'=gs) :
  Kn gs' kvs1 (kn++[(i,insV kvs1 s n p)])/\valT kvs1 (bk s n p)=some (.int (b2i (insV kvs1 s n p))):=by
 have il:=(List.getElem?_eq_some_iff.mp hi).1
 have vi:vl (insV kvs1) gs' i=insV kvs1 s n p:=vl_is wf' hi
 rcases hc with ⟨h1,rfl⟩|⟨h1,b,rfl⟩
 ·obtain ⟨d,hd⟩:=Option.isSome_iff_exists.mp h1
  obtain ⟨x,hx,e⟩:=vt_mem hd
  obtain ⟨s',n',p',e',hm⟩:=h.k x hx
  obtain ⟨rfl,rfl,rfl⟩:=bk_inj (e'.symm.trans e)
  have e2:=hs hm
  subst e2
  refine ⟨⟨h.wf,h.v,h.k,fun e he=>?_⟩,h.v _ _ _ hm⟩
  rcases List.mem_append.mp he with he|he
  ·exact h.p e he
  ·rw [List.mem_singleton.mp he]
   exact ⟨il,vi.symm⟩
 ·have nm:Gt.inp s n p∉gs:=fun hm=>by rw [h.v _ _ _ hm] at h1;cases h1
  have self:valT (putT kvs (bk s n p) (.int (b2i b))) (bk s n p)=some (.int (b2i b)):=by rw [vt_put,if_pos rfl]
  have old:∀ s' n' p',Gt.inp s' n' p'∈gs->valT (putT kvs (bk s n p) (.int (b2i b))) (bk s' n' p')=valT kvs (bk s' n' p'):=fun s' n' p' hm=>by
   rw [vt_put,if_neg]
   intro e
   obtain ⟨rfl,rfl,rfl⟩:=bk_inj e
   exact nm hm
  have sv:=insV_of self
  have ext:∀ x∈gs,x∈gs':=by
   obtain ⟨e,rfl,_⟩:=g
   exact fun x hx=>List.mem_append_left _ hx
  have sub:∀ s' n' p',Gt.inp s' n' p'∈gs'->Gt.inp s' n' p'∈gs\/(s'=s/\n'=n/\p'=p):=by
   obtain ⟨e,rfl,_,j⟩:=g
   intro s' n' p' hm
   rcases List.mem_append.mp hm with hm|hm
   ·exact .inl hm
   ·exact .inr (j _ _ _ hm)
  refine ⟨⟨wf',fun s' n' p' hm=>?_,fun x hx=>?_,fun e he=>?_⟩,by rw [sv];exact self⟩
  ·rcases sub _ _ _ hm with hm|⟨rfl,rfl,rfl⟩
   ·rw [insV_eq (old _ _ _ hm),old _ _ _ hm]
    exact h.v _ _ _ hm
   ·rw [sv];exact self
  ·rw [putT_new h1] at hx
   rcases List.mem_append.mp hx with hx|hx
   ·obtain ⟨s',n',p',e',hm⟩:=h.k x hx
    exact ⟨s',n',p',e',ext _ hm⟩
   ·rw [List.mem_singleton.mp hx]
    exact ⟨s,n,p,rfl,List.mem_of_getElem? hi⟩
  ·rcases List.mem_append.mp he with he|he
   ·obtain ⟨e1,e2⟩:=h.p e he
    refine ⟨by have:=g.le;omega,?_⟩
    rw [g.vl e1,e2]
    exact vl_congr fun s' n' p' hm=>(insV_eq (old _ _ _ hm)).symm
   ·rw [List.mem_singleton.mp he]
    exact ⟨il,vi.symm⟩
theorem Kn.add {gs gs':List Gt}{kvs:List (List Key×D)}{kn:List (Nat×Bool)}{i:Nat}(h:Kn gs kvs kn) (g:Gr 1 gs gs') (wf':WF gs') (hi:i<gs'.length):Kn gs' kvs (kn++[(i,vl (insV kvs) gs' i)]):=by
 have ext:∀ x∈gs,x∈gs':=by
  obtain ⟨e,rfl,_⟩:=g
  exact fun x hx=>List.mem_append_left _ hx
 refine ⟨wf',fun s n p hm=>h.v s n p (g.inp (J':=fun s n p=>Gt.inp s n p∈gs) (fun _ _ _ z=>z) (fun _ _ _ z=>z.elim) s n p hm),fun x hx=>?_,fun e he=>?_⟩
 ·obtain ⟨s',n',p',e',hm⟩:=h.k x hx
  exact ⟨s',n',p',e',ext _ hm⟩
 ·rcases List.mem_append.mp he with he|he
  ·obtain ⟨e1,e2⟩:=h.p e he
   exact ⟨by have:=g.le;omega,by rw [g.vl e1];exact e2⟩
  ·rw [List.mem_singleton.mp he]
   exact ⟨hi,rfl⟩
theorem put_id {M:Mp}{x:Addr}{o:MO}(h:M x=some o):put M x o=M:=by
 funext y
 by_cases e:y=x
 ·rw [e,put_same,h]
 ·rw [put_ne e]
def sp__law_deed (C:Addr) (ds:List D) (M:Mp) (Q:VK2):Prop:=on5 ds fun x1 x2 x3 x4 x5=>∃ (M0:Mp) (p a b:Addr) (gs:List Gt) (n t:Int) (kl il:Addr) (kn:List (Nat×Bool)) (kvs:List (List Key×D)),x1=.ref p/\x2=.int n/\x3=.ref kl/\x4=.ref il/\x5=.int t/\(0<=n/\n<2^62/\0<=t/\t<2^62/\kl≠il)/\Nt C M0 p a b/\M=netM M0 a b gs/\M0 kl=some (.lst (kn.map knD))/\M0 il=some (.dct kvs)/\Kn gs kvs kn/\kn≠[]/\(gs.length<1000/\kvs.length<1000/\kn.length<1000)/\∀ (gs':List Gt) (kvs':List (List Key×D)) (i:Nat) (v:Bool),Kn gs' kvs' (kn++[(i,v)])->gs'.length<=gs.length+1->kvs'.length<=kvs.length+1->Q (knD (i,v)) (netM (put M0 il (.dct kvs')) a b gs')
theorem ok__law_deed (T:Tx K w mg):Ok P w K mg base 4 T.x12.f T.x12.g ["net", "number", "known", "ins", "truth"] (sp__law_deed T.C_Net):=by
 refine Fun.o5 T.x12.d.F sc__law_deed fun cdv A outer s H E x1 x2 x3 x4 x5 M Q hr h=>?_
 obtain ⟨M0,p,a,b,gs,n,t,kl,il,kn,kvs,rfl,rfl,rfl,rfl,rfl,⟨n0,n1,t0,t1,ki⟩,nt,rfl,hk,hi,K0,kne,⟨z1,z2,z3⟩,q⟩:=h
 refine ⟨_,(qss_cut (qs_set (i:=5) sc__law_deed.nd rfl (Or.inl rfl) (qop o_mod (qv 1) qint)) (qss_cut (qs_set (i:=6) sc__law_deed.nd rfl (Or.inl rfl) (qix i_list (qv 2) (qop o_mod (qop o_fdiv (qv 1) qint) (qcallB c_len T.B.len PySem.boot_len (qA (qv 2) qN))) (fun _ _=>rfl))) (qss_cut (qs_set (i:=7) sc__law_deed.nd rfl (Or.inl rfl) (qix i_list (qv 2) (qop o_mod (qcall T.x7.d (ok__law_mix T) (hr.mono (by first | decide | omega)) (qA (qv 1) (qA qint qN))) (qcallB c_len T.B.len PySem.boot_len (qA (qv 2) qN))) (fun _ _=>rfl))) (qC (qs_if (qtcmp o_eq (qv 5) qint (nomark _)) (qss_cut (qs_set (i:=8) sc__law_deed.nd rfl (Or.inl rfl) (qfrz (qcall T.x8.d (ok__law_names T) (hr.mono (by first | decide | omega)) (qA (qcall T.x7.d (ok__law_mix T) (hr.mono (by first | decide | omega)) (qA (qop o_mod (qop o_fdiv (qv 1) qint) qint) (qA (qop o_mod (qv 4) qint) qN))) (qA (qop o_add qint (qop o_mod (qop o_fdiv (qv 1) qint) qint)) qN))))) (qss_cut (qs_set (i:=9) sc__law_deed.nd rfl (Or.inl rfl) (qtup (qA (qix i_list (qlstF (qa_cs (.str (.str (.str .nil))))) (qop o_mod (qop o_fdiv (qv 1) qint) qint) (fun _ _=>rfl)) (qA (qix i_list (qv 8) (qun u_neg qint) (fun _ _=>rfl)) (qA (qop o_mod (qop o_fdiv (qv 1) qint) (qix i_list (qlstF (qA qint (qA qint qN))) (qop o_mod (qop o_fdiv (qv 1) qint) qint) (fun _ _=>rfl))) qN))))) (qss_cut (qs_if (qtcmp (o_notinT rfl (hu_of hr)) (qv 9) (qv 3) (by with_unfolding_all rfl)) (qO (qs_tput rfl (hu_of hr) (qv 3) (qv 9) (qop o_mod (qop o_fdiv (qcall T.x7.d (ok__law_mix T) (hr.mono (by first | decide | omega)) (qA (qv 4) (qA (qcall T.x7.d (ok__law_mix T) (hr.mono (by first | decide | omega)) (qA (qv 1) (qA qint qN))) qN))) qint) qint) rfl)) qE) (qO (qs_ret (qtup (qA (qmeth T.cl_Net T.x2.d (ok_Net_asked T) (hr.mono (by first | decide | omega)) (qv 0) (qA (qix i_tup (qv 9) qint (fun _ _=>rfl)) (qA (qix i_tup (qv 9) qint (fun _ _=>rfl)) (qA (qix i_tup (qv 9) qint (fun _ _=>rfl)) qN)))) (qA (qtget rfl (hu_of hr) (qv 3) (qv 9) (fun _ _=>rfl)) qN)))))))) qE) (qC (qs_if (qtcmp o_eq (qv 5) qint (nomark _)) (qO (qs_ret (qtup (qA (qmeth T.cl_Net T.x3.d (ok_Net_both T) (hr.mono (by first | decide | omega)) (qv 0) (qA (qix i_tup (qv 6) qint (fun _ _=>rfl)) (qA (qix i_tup (qv 7) qint (fun _ _=>rfl)) qN))) (qA (qop o_mul (qix i_tup (qv 6) qint (fun _ _=>rfl)) (qix i_tup (qv 7) qint (fun _ _=>rfl))) qN))))) qE) (qO (qs_ret (qtup (qA (qmeth T.cl_Net T.x4.d (ok_Net_differ T) (hr.mono (by first | decide | omega)) (qv 0) (qA (qix i_tup (qv 6) qint (fun _ _=>rfl)) (qA (qix i_tup (qv 7) qint (fun _ _=>rfl)) qN))) (qA (qop o_mod (qop o_add (qix i_tup (qv 6) qint (fun _ _=>rfl)) (qix i_tup (qv 7) qint (fun _ _=>rfl))) qint) qN)))))))))),?_⟩
 (try simp only [st_c,st_n,st_e])
 have ka:kl≠a:=fun e=>by rw [e,nt.na] at hk;cases hk
 have kb:kl≠b:=fun e=>by rw [e,nt.nb] at hk;cases hk
 have ia:il≠a:=fun e=>by rw [e,nt.na] at hi;cases hi
 have ib:il≠b:=fun e=>by rw [e,nt.nb] at hi;cases hi
 have lk:lsOf (netM M0 a b gs) (.ref kl)=some (kn.map knD):=by unfold lsOf;simp only [netM_o ka kb,hk]
 have sk:sqOf (netM M0 a b gs) (.ref kl)=some (kn.map knD):=lk
 have kp:0<kn.length:=List.length_pos_iff.mpr kne
 have atk:∀ i:Int,∃ e∈kn,atI (kn.map knD) (i%((kn.map knD).length:Int))=some (knD e):=fun i=>by
  rw [List.length_map]
  have h0:=Int.emod_nonneg i (b:=(kn.length:Int)) (by omega)
  have h1:=Int.emod_lt_of_pos i (b:=(kn.length:Int)) (by omega)
  obtain ⟨j,hj⟩:∃ j:Nat,i%(kn.length:Int)=j:=⟨_,(Int.toNat_of_nonneg h0).symm⟩
  have hl:j<kn.length:=by omega
  rw [hj]
  exact ⟨kn[j],List.getElem_mem hl,atI_nat (by rw [List.getElem?_map,List.getElem?_eq_getElem hl];rfl)⟩
 obtain ⟨e1,m1,h1⟩:=atk (n / 3)
 refine ⟨fun τ M'=>M'=netM M0 a b gs/\τ=[some (.ref p),some (.int n),some (.ref kl),some (.ref il),some (.int t),some (.int (n%3)),none,none,none,none],?_,?_⟩
 ·walk_at "rd"
 rintro τ M' ⟨rfl,rfl⟩
 refine ⟨fun τ M'=>M'=netM M0 a b gs/\τ=[some (.ref p),some (.int n),some (.ref kl),some (.ref il),some (.int t),some (.int (n%3)),some (knD e1),none,none,none],?_,?_⟩
 ·walk_at "rd"
  rw [sk,lk,r_onO,r_onO,h1,r_onO]
  exact ⟨by unfold CDiv;omega,by rw [List.length_map];omega,rfl⟩
 rintro τ M' ⟨rfl,rfl⟩
 refine ⟨fun τ M'=>∃ e2∈kn,M'=netM M0 a b gs/\τ=[some (.ref p),some (.int n),some (.ref kl),some (.ref il),some (.int t),some (.int (n%3)),some (knD e1),some (knD e2),none,none],?_,?_⟩
 ·walk_at "rd"
  intro r r0 r1
  obtain ⟨e2,m2,h2⟩:=atk r
  rw [sk,lk,r_onO,r_onO,h2,r_onO]
  exact ⟨by rw [List.length_map];omega,e2,m2,rfl⟩
 rintro τ M' ⟨e2,m2,rfl,rfl⟩
 obtain ⟨p1,w1⟩:=K0.p e1 m1
 obtain ⟨p2,w2⟩:=K0.p e2 m2
 have b1:∀ b:Bool,0<=b2i b/\b2i b<=1:=fun b=>by cases b<;>decide
 walk_at "rd"
 refine ite2 (fun c0=>?_) fun c0=>?_
 rotate_left
 ·unfold knD
  walk_at "rd"
  refine ite2 (fun c1=>?_) fun c1=>?_
  ·refine nt.mt ⟨M0,p,a,b,gs,e1.1,e2.1,rfl,rfl,rfl,nt,rfl,K0.wf,by omega,⟨p1,p2⟩,fun gs' i g' w' hi' ev=>⟨by have:=b1 e1.2;unfold CMul;omega,?_⟩⟩
   have qq:=q gs' kvs i _ (K0.add g' w' hi') g'.le.2 (Nat.le_succ _)
   rw [put_id hi] at qq
   refine Dn.of ?_
   rw [show b2i e1.2*b2i e2.2=b2i (vl (insV kvs) gs' i) by rw [show vl (insV kvs) gs' i=(vl (insV kvs) gs e1.1 && vl (insV kvs) gs e2.1) from ev _,<- w1,<- w2];cases e1.2<;>cases e2.2<;>rfl]
   exact qq
  ·refine nt.mt ⟨M0,p,a,b,gs,e1.1,e2.1,rfl,rfl,rfl,nt,rfl,K0.wf,by omega,⟨p1,p2⟩,fun gs' i g' w' hi' ev=>?_⟩
   have qq:=q gs' kvs i _ (K0.add g' w' hi') g'.le.2 (Nat.le_succ _)
   rw [put_id hi] at qq
   refine Dn.of ?_
   rw [show (b2i e1.2+b2i e2.2)%2=b2i (vl (insV kvs) gs' i) by rw [show vl (insV kvs) gs' i=Bool.xor (vl (insV kvs) gs e1.1) (vl (insV kvs) gs e2.1) from ev _,<- w1,<- w2];cases e1.2<;>cases e2.2<;>rfl]
   exact qq
 ·refine ⟨fun τ M'=>∃ zs:List Str,zs≠[]/\M'=netM M0 a b gs/\τ=[some (.ref p),some (.int n),some (.ref kl),some (.ref il),some (.int t),some (.int (n%3)),some (knD e1),some (knD e2),some (.lst (zs.map D.str)),none],?_,?_⟩
  ·walk_at "rd"
   refine ⟨by unfold CDiv;omega,fun r r0 r1=>⟨by unfold CDiv;omega,⟨r0,by omega,by omega⟩,fun zs zl u hu=>?_⟩⟩
   rw [put_same]
   exact ⟨zs,fun e=>by rw [e] at zl;have:(([]:List Str).length:Int)=0:=rfl;omega,del_put hu,rfl⟩
  rintro τ M' ⟨zs,zne,rfl,rfl⟩
  refine ⟨fun τ M'=>∃ (x y:Str) (k:Int),M'=netM M0 a b gs/\τ=[some (.ref p),some (.int n),some (.ref kl),some (.ref il),some (.int t),some (.int (n%3)),some (knD e1),some (knD e2),some (.lst (zs.map D.str)),some (.tup [.str x,.str y,.int k])],?_,?_⟩
  ·walk_at "rd"
   obtain ⟨x,hx⟩:∃ x:Str,atI [D.str "box",D.str "door",D.str "a"] (n / 64%3)=some (.str x):=by
    have:n / 64%3=0\/n / 64%3=1\/n / 64%3=2:=by omega
    rcases this with h|h|h<;>rw [h]
    ·exact ⟨"box",rfl⟩
    ·exact ⟨"door",rfl⟩
    ·exact ⟨"a",rfl⟩
   obtain ⟨m,hm,m0⟩:∃ m:Int,atI [D.int 2,D.int 64] (n / 1024%2)=some (.int m)/\0<m:=by
    rcases Int.emod_two_eq (n / 1024) with h|h<;>rw [h]
    ·exact ⟨2,rfl,by decide⟩
    ·exact ⟨64,rfl,by decide⟩
   obtain ⟨y,hy⟩:∃ y:Str,atI (zs.map D.str) (-1)=some (.str y):=by
    obtain ⟨ci,lc,e⟩:∃ ci lc,zs=ci++[lc]:=⟨zs.dropLast,zs.getLast zne,(List.dropLast_concat_getLast _).symm⟩
    exact ⟨lc,by rw [e,List.map_append];exact atI_last _ _⟩
   rw [hx,r_onO,hy,r_onO,hm,r_onO]
   walk_at "rd"
   exact ⟨by unfold CDiv;omega,by unfold CDiv;omega,by unfold CDiv;omega,m0,x,y,_,rfl⟩
  rintro τ M' ⟨x,y,k,rfl,rfl⟩
  have di:∀ {M:Mp} {gs:List Gt} {kv},M il=some (.dct kv)->dtOf (netM M a b gs) (.ref il)=some kv:=fun {M gs kv} h=>by unfold dtOf;simp only [netM_o ia ib,h]
  refine ⟨fun τ M'=>∃ kvs1,(((valT kvs (bk x y k)).isSome/\kvs1=kvs)\/(valT kvs (bk x y k)=none/\∃ b,kvs1=putT kvs (bk x y k) (.int (b2i b))))/\M'=netM (put M0 il (.dct kvs1)) a b gs/\τ=[some (.ref p),some (.int n),some (.ref kl),some (.ref il),some (.int t),some (.int (n%3)),some (knD e1),some (knD e2),some (.lst (zs.map D.str)),some (.tup [.str x,.str y,.int k])],?_,?_⟩
  ·walk_at "rd"
   rw [di hi,r_onO]
   refine ⟨bk x y k,rfl,ite2 (fun c=>?_) fun c=>?_⟩
   ·intro r _ _ r r0 r1
    refine ⟨by unfold CDiv;omega,bk x y k,rfl,?_⟩
    rw [netM_o ia ib,hi]
    have vn:valT kvs (bk x y k)=none:=by
     cases h:valT kvs (bk x y k) with
     | none=>rfl
     | some _=>rw [h] at c;cases c
    have e:r / 8%2=b2i (decide (r / 8%2=1)):=by
     rcases Int.emod_two_eq (r / 8) with h|h<;>rw [h]<;>rfl
    exact ⟨small1000 (by omega),putT kvs (bk x y k) (.int (r / 8%2)),.inr ⟨vn,decide (r / 8%2=1),by rw [<- e]⟩,netM_put ia ib⟩
   ·have vs:(valT kvs (bk x y k)).isSome=true:=by
     cases h:(valT kvs (bk x y k)).isSome with
     | true=>rfl
     | false=>exact absurd h c
    exact ⟨kvs,.inl ⟨vs,rfl⟩,by rw [put_id hi]⟩
  rintro τ M' ⟨kvs1,hc,rfl,rfl⟩
  have ip:p≠il:=fun e=>by rw [<- e,nt.o] at hi;cases hi
  have nt1:Nt T.C_Net (put M0 il (.dct kvs1)) p a b:=⟨by rw [put_ne ip];exact nt.o,nt.pa,nt.pb,nt.ab,by rw [put_ne ia.symm];exact nt.na,by rw [put_ne ib.symm];exact nt.nb⟩
  have kl1:kvs1.length<=kvs.length+1:=by
   rcases hc with ⟨_,rfl⟩|⟨_,b,rfl⟩
   ·exact Nat.le_succ _
   ·exact pt_len
  walk_at "rd"
  refine nt1.mt ⟨_,p,a,b,gs,x,y,k,rfl,rfl,rfl,rfl,nt1,rfl,K0.wf,by omega,fun gs' i g' w' hi' hs=>?_⟩
  obtain ⟨K1,v1⟩:=K0.ask hc g' w' hi' hs
  rw [di put_same,r_onO]
  refine ⟨bk x y k,rfl,?_⟩
  rw [v1,r_onO]
  exact Dn.of (q gs' kvs1 i _ K1 g'.le.2 kl1)
theorem sc_law:FnScope ["script", "truth", "net", "known", "ins", "first", "cell", "rows", "signs", "place", "bit"] ["script"] (dfS s_law):=⟨rfl,rfl,rfl,by decide +kernel,rfl,by decide +kernel,by decide +kernel⟩
theorem r_htup {is:List Nat}{xs:List D}{τ:St2}{k:St2->Prop}:hTup is (.tup xs) τ k=(xs.length=is.length/\k (setAll τ is xs)):=rfl
theorem r_set1 {i:Nat}{is:List Nat}{x:D}{xs:List D}{τ:St2}:setAll τ (i::is) (x::xs)=setAll (τ.set i (some x)) is xs:=by rw [setAll]
theorem r_set0 {τ:St2}:setAll τ [] []=τ:=by unfold setAll;rfl
theorem cmpL_ks {M:Mp}{n:Nat}:∀ ks:List Key,cmpL (cmpD M n) (ks.map kD) (ks.map kD)=some true
 | []=>rfl
 | .inl i::ks=>by
  rw [List.map_cons,cmpL,show kD (.inl i)=.int i from rfl,cmpD_int,cmpL_ks ks,decide_eq_true rfl]
  rfl
 | .inr x::ks=>by
  rw [List.map_cons,cmpL,show kD (.inr x)=.str x from rfl,cmpD_str,cmpL_ks ks,decide_eq_true rfl]
  rfl
theorem cmpL_gs {M:Mp}{n:Nat}:∀ gs:List Gt,cmpL (cmpD M (n+1)) (gs.map gD) (gs.map gD)=some true
 | []=>rfl
 | g::gs=>by
  rw [List.map_cons,cmpL,show cmpD M (n+1) (gD g) (gD g)=some true from cmpL_ks g.ks,cmpL_gs gs]
  rfl
theorem ls_ty {M:Mp}{x:D}{ys:List D}(h:lsOf M x=some ys):tyD M x=some "list"/\sqOf M x=some ys:=by
 cases x with
 | lst _=>exact ⟨rfl,h⟩
 | ref q =>
  refine ⟨?_,h⟩
  unfold lsOf at h
  unfold tyD
  simp only at h ⊢
  split at h
  ·next e=>rw [e]
  ·cases h
 | _=>cases h
theorem ls_of {M:Mp}{q:Addr}{l:List D}(h:M q=some (.lst l)):lsOf M (.ref q)=some l:=by unfold lsOf;simp only [h]
theorem to_fzL {j:Nat}{t:TS2}{E:Ends2}{τ:St2}{M:Mp}{p:Addr}{xs:List D}(h:τ[j]? = some (some (.ref p))) (hM:M p=some (.lst xs)):uFzL j t E τ M=t E (τ.set j (some (.lst xs))) (del M p):=by
 unfold uFzL
 rw [h,Option.join_some,r_onO,r_onR,hM]
theorem cut2 {ns:List Int}(h:ns.length<=63):∃ ms:List Int,L3.cutD (ns.map D.int) (some 2) (some 92)=ms.map D.int/\ms.length<=61:=by
 unfold L3.cutD
 rw [<- List.map_drop,<- List.map_take]
 refine ⟨_,rfl,?_⟩
 rw [List.length_take,List.length_drop,show (some (2:Int))=some ((2:Nat):Int) from rfl,HT.sIx_nat,List.length_map]
 omega
theorem net_del0 {M0:Mp}{q a b:Addr}{u:MO}{gs:List Gt}(hq:M0 q=none) (qa:q≠a) (qb:q≠b):del (netM (put M0 q u) a b gs) q=netM M0 a b gs:=by rw [<- netM_put qa qb,del_put (by rw [netM_o qa qb];exact hq)]
abbrev sW (s:List Int) (v1 v2 v3 v4 v5 v6 v7 v8 v9 v10:Option D:=none):St2:=[some (.lst (s.map D.int)),v1,v2,v3,v4,v5,v6,v7,v8,v9,v10]
local macro_rules | `(tactic| simp_all_arith! [$xs,*])=>`(tactic| simp_arith [r_htup,r_set1,r_set0,List.set_cons_zero,List.set_cons_succ,$xs,*])
local macro_rules | `(tactic| walk_at "rd")=>`(tactic| simp_all_arith! [true_and,↓sp__law_mix,↓sp_Net___init__,↓sp_Net_told,↓sp__law_settled,↓sp__law_cell,↓sp_Net_asked,↓sp__law_deed,↓sp__law_place])
theorem ok_law (T:Tx K w mg):Ok P w K mg base 60 T.x13.f T.x13.g ["script"] spLaw2:=by
 refine Fun.ok2 T.x13.d.F sc_law (fun ds M Q h=>?_) (fun cdv A outer s H E ds M Q hr h=>?_)
 ·obtain ⟨ns,rfl,_⟩:=h
  rfl
 obtain ⟨ns,rfl,h63,q⟩:=h
 refine ⟨_,(qss_cut (qs_set (i:=1) sc_law.nd rfl (Or.inl rfl) (qcall T.x7.d (ok__law_mix T) (hr.mono (by first | decide | omega)) (qA (qcall T.x6.d (ok__law_cell T) (hr.mono (by first | decide | omega)) (qA (qv 0) (qA qint qN))) (qA qint qN)))) (qss_cut (qs_set (i:=2) sc_law.nd rfl (Or.inl rfl) (qmake0 T.mk_Net T.x0.d (ok_Net___init__ T) (hr.mono (by first | decide | omega)) T.mgc_Net)) (qss_cut (qs_set (i:=3) sc_law.nd rfl (Or.inl rfl) (qlst (qA (qtup (qA qint (qA qint qN))) (qA (qtup (qA qint (qA qint qN))) qN)))) (qss_cut (qs_set (i:=4) sc_law.nd rfl (Or.inl rfl) qtnew) (qss_cut (qs_set (i:=5) sc_law.nd rfl (Or.inl rfl) (qmeth0 T.cl_Net T.x5.d (ok_Net_told T) (hr.mono (by first | decide | omega)) (qv 2))) (qss_cut (qs_for PassesOwn.never rfl (qi_list (qop o_catF (qlstF (qA (qcall T.x6.d (ok__law_cell T) (hr.mono (by first | decide | omega)) (qA (qv 0) (qA qint qN))) qN)) (qslice s_listF (qv 0) (qo_some qint) (qo_some qint)))) (qg_name (i:=6) sc_law.nd rfl (Or.inl rfl)) (qO (qs_expr (qbm PySem.F.plainAttrs_list PySem.F.slot_list_append PySem.F.type_list_append m_append (qv 3) (qA (qcall T.x12.d (ok__law_deed T) (hr.mono (by first | decide | omega)) (qA (qv 2) (qA (qcall T.x7.d (ok__law_mix T) (hr.mono (by first | decide | omega)) (qA (qop o_mod (qv 6) qint) (qA qint qN))) (qA (qv 3) (qA (qv 4) (qA (qv 1) qN)))))) qN))))) (qss_fzL 3 (qss_cut (qs_set (i:=7) sc_law.nd rfl (Or.inl rfl) (qmeth0 T.cl_Net T.x5.d (ok_Net_told T) (hr.mono (by first | decide | omega)) (qv 2))) (qss_fzL 7 (qss_cut (qs_if ((qw_or (qtnot (qtval (qcallB (c_isi "list") T.B.isinstance boot_isinstance (qA (qv 5) (qA (qty T.B.list boot_list) qN))))) (qw_or (qtcmp (o_neS (hu41 hr)) (qv 5) (qlstF (qA (qtup (qA qstr qN)) (qA (qtup (qA qstr qN)) qN))) (nomark _)) (qw_or1 (qtnot (qtval (qcallB (c_isi "list") T.B.isinstance boot_isinstance (qA (qv 7) (qA (qty T.B.list boot_list) qN))))))))).pt (qO (qs_ret qbl)) qE) (qss_cut (qs_set (i:=8) sc_law.nd rfl (Or.inl rfl) (qfrz (qcall T.x10.d (ok__law_settled T) (hr.mono (by first | decide | omega)) (qA (qv 7) (qA (qv 4) qN))))) (qss_cut (qs_for PassesOwn.never rfl (qi_list (qv 3)) (qg_tup (is:=[9,10]) rfl (pgs_cons (pg_name (i:=9) sc_law.nd rfl (Or.inl rfl)) (pgs_cons (pg_name (i:=10) sc_law.nd rfl (Or.inl rfl)) pgs_nil))) (qO (qs_if ((qw_or (qtnot (qtval (qcall T.x11.d (ok__law_place T) (hr.mono (by first | decide | omega)) (qA (qv 9) (qA (qv 7) qN))))) (qw_or1 (qtcmp o_ne (qix i_list (qv 8) (qv 9) (fun _ _=>rfl)) (qv 10) (nomark _))))).pt (qO (qs_ret qbl)) qE))) (qss_cut (qs_for PassesOwn.never rfl (qi_list (qcallB c_sortedT T.B.sorted boot_sorted (qA (qcallTy (c_listTF rfl) T.B.list boot_list (qA (qv 4) qN)) qN))) (qg_name (i:=10) sc_law.nd rfl (Or.inl rfl)) (qC (qs_set (i:=9) sc_law.nd rfl (Or.inl rfl) (qmeth T.cl_Net T.x2.d (ok_Net_asked T) (hr.mono (by first | decide | omega)) (qv 2) (qA (qix i_tup (qv 10) qint (fun _ _=>rfl)) (qA (qix i_tup (qv 10) qint (fun _ _=>rfl)) (qA (qix i_tup (qv 10) qint (fun _ _=>rfl)) qN))))) (qO (qs_if (qtcmp (o_neS (hu41 hr)) (qix i_list (qv 7) (qv 9) (fun _ _=>rfl)) (qtup (qA qstr (qA (qix i_tup (qv 10) qint (fun _ _=>rfl)) (qA (qix i_tup (qv 10) qint (fun _ _=>rfl)) (qA (qix i_tup (qv 10) qint (fun _ _=>rfl)) qN))))) (nomark _)) (qO (qs_ret qbl)) qE)))) (qss_cut (qs_expr (qbm PySem.F.plainAttrs_list PySem.F.slot_list_append PySem.F.type_list_append m_append (qv 5) (qA (qtup (qA qstr qN)) qN))) (qO (qs_ret (qcmp (o_eqS (hu41 hr)) (qmeth0 T.cl_Net T.x5.d (ok_Net_told T) (hr.mono (by first | decide | omega)) (qv 2)) (qv 7) (nomark _)))))))))))))))))),?_⟩
 (try simp only [st_c,st_n,st_e])
 refine ⟨fun τ M'=>∃ t:Int,0<=t/\t<2^62/\τ=sW ns (some (.int t)),?_,?_⟩
 ·walk_at "rd"
  exact fun _ _ r r0 r1=>⟨r,r0,by omega,rfl⟩
 rintro τ M1 ⟨t,t0,t1,rfl⟩
 refine ⟨fun τ M'=>∃ (M0:Mp) (p a b:Addr),Nt T.C_Net M0 p a b/\M'=netM M0 a b [.no,.yes]/\τ=sW ns (some (.int t)) (some (.ref p)),?_,?_⟩
 ·walk_at "rd"
  exact fun p hp=>⟨M1,p,rfl,rfl,hp,fun a b _ _ nt=>⟨_,p,a,b,nt,rfl,rfl⟩⟩
 rintro τ M2 ⟨M0,p,a,b,nt,rfl,rfl⟩
 refine ⟨fun τ M'=>∃ kl,(kl≠a/\kl≠b/\M0 kl=none)/\M'=netM (put M0 kl (.lst ([(0,false),(1,true)].map knD))) a b [.no,.yes]/\τ=sW ns (some (.int t)) (some (.ref p)) (some (.ref kl)),?_,?_⟩
 ·walk_at "rd"
  exact fun u hu=>by
   obtain ⟨h1,h2,h3⟩:=netM_new hu nt.ab
   exact ⟨u,⟨h1,h2,h3⟩,netM_put h1 h2,rfl⟩
 rintro τ M3 ⟨kl,⟨ka,kb,k0⟩,rfl,rfl⟩
 have nt1:=nt.put (o:=.lst ([(0,false),(1,true)].map knD)) k0 ka kb
 refine ⟨fun τ M'=>∃ il,(il≠a/\il≠b/\il≠kl/\M0 il=none)/\M'=netM (put (put M0 kl (.lst ([(0,false),(1,true)].map knD))) il (.dct [])) a b [.no,.yes]/\τ=sW ns (some (.int t)) (some (.ref p)) (some (.ref kl)) (some (.ref il)),?_,?_⟩
 ·walk_at "rd"
  exact fun u hu=>by
   obtain ⟨h1,h2,h3⟩:=netM_new hu nt.ab
   have ne:u≠kl:=fun e=>by rw [e,put_same] at h3;cases h3
   rw [put_ne ne] at h3
   exact ⟨u,⟨h1,h2,ne,h3⟩,netM_put h1 h2,rfl⟩
 rintro τ M4 ⟨il,⟨ia,ib,ik,i0⟩,rfl,rfl⟩
 have nt2:=nt1.put (o:=.dct []) (q:=il) (by rw [put_ne ik];exact i0) ia ib
 refine ⟨fun τ M'=>∃ fl,(fl≠a/\fl≠b/\fl≠kl/\fl≠il/\M0 fl=none)/\M'=netM (put (put (put M0 kl (.lst ([(0,false),(1,true)].map knD))) il (.dct [])) fl (.lst ([Gt.no,.yes].map gD))) a b [.no,.yes]/\τ=sW ns (some (.int t)) (some (.ref p)) (some (.ref kl)) (some (.ref il)) (some (.ref fl)),?_,?_⟩
 ·walk_at "rd"
  refine nt2.mt ⟨_,p,a,b,_,rfl,nt2,rfl,fun u hu=>?_⟩
  obtain ⟨h1,h2,h3⟩:=netM_new hu nt.ab
  have ne:u≠il:=fun e=>by rw [e,put_same] at h3;cases h3
  rw [put_ne ne] at h3
  have ne2:u≠kl:=fun e=>by rw [e,put_same] at h3;cases h3
  rw [put_ne ne2] at h3
  exact ⟨u,⟨h1,h2,ne2,ne,h3⟩,netM_put h1 h2,rfl⟩
 rintro τ M5 ⟨fl,⟨fa,fb,fk,fi,f0⟩,rfl,rfl⟩
 have nt3:=nt2.put (o:=.lst ([Gt.no,.yes].map gD)) (q:=fl) (by rw [put_ne fi,put_ne fk];exact f0) fa fb
 obtain ⟨sV,hsV⟩:∃ sV:Option D->Option D->Option D->Option D->Option D->Option D->St2,sV=fun v3 v6 v7 v8 v9 v10=>sW ns (some (.int t)) (some (.ref p)) v3 (some (.ref il)) (some (.ref fl)) v6 v7 v8 v9 v10:=⟨_,rfl⟩
 obtain ⟨mm,hmm⟩:∃ mm:List (Nat×Bool)->List (List Key×D)->Mp,mm=fun kn kvs=>put (put (put M0 kl (.lst (kn.map knD))) il (.dct kvs)) fl (.lst ([Gt.no,.yes].map gD)):=⟨_,rfl⟩
 have mk:∀ {kn kvs},mm kn kvs kl=some (.lst (kn.map knD)):=fun {kn kvs}=>by rw [hmm];dsimp only;rw [put_ne fk.symm,put_ne ik.symm,put_same]
 have mi:∀ {kn kvs},mm kn kvs il=some (.dct kvs):=fun {kn kvs}=>by rw [hmm];dsimp only;rw [put_ne fi.symm,put_same]
 have mf:∀ {kn kvs},mm kn kvs fl=some (.lst ([Gt.no,.yes].map gD)):=fun {kn kvs}=>by rw [hmm];dsimp only;rw [put_same]
 have pi:∀ {kn kvs kvs'},put (mm kn kvs) il (.dct kvs')=mm kn kvs':=fun {kn kvs kvs'}=>by rw [hmm];dsimp only;rw [put_comm fi,put_put]
 have pk:∀ {kn kn' kvs},put (mm kn kvs) kl (.lst (kn'.map knD))=mm kn' kvs:=fun {kn kn' kvs}=>by rw [hmm];dsimp only;rw [put_comm fk,put_comm ik,put_put]
 have nm:∀ {kn kvs},Nt T.C_Net (mm kn kvs) p a b:=fun {kn kvs}=>by
  rw [hmm]
  exact ((nt.put (q:=kl) k0 ka kb).put (q:=il) (by rw [put_ne ik];exact i0) ia ib).put (q:=fl) (by rw [put_ne fi,put_ne fk];exact f0) fa fb
 have e0:put (put (put M0 kl (.lst ([(0,false),(1,true)].map knD))) il (.dct [])) fl (.lst ([Gt.no,.yes].map gD))=mm [(0,false),(1,true)] []:=by rw [hmm]
 rw [e0]
 have K0:Kn [.no,.yes] [] [(0,false),(1,true)]:=⟨wf0,fun s n p h=>by simp at h,(fun x h=>nomatch h),fun e he=>by
  simp only [List.mem_cons,List.not_mem_nil,or_false] at he
  rcases he with rfl|rfl
  ·exact ⟨by decide,(WF.v0 wf0).symm⟩
  ·exact ⟨by decide,(WF.v1 wf0).symm⟩⟩
 refine ⟨fun τ M'=>∃ (gs:List Gt) (kvs:List (List Key×D)) (kn:List (Nat×Bool)) (v6:Option D),Kn gs kvs kn/\(gs.length<=70/\kvs.length<=63/\kn.length<=70)/\M'=netM (mm kn kvs) a b gs/\τ=sV (some (.ref kl)) v6 none none none none,?_,?_⟩
 ·walk_at "rd"
  intro z z0
  obtain ⟨ms,hms,ml⟩:=cut2 h63
  rw [hms]
  rw [<- List.map_cons]
  refine ⟨Nat.le_of_lt (small1000 (by rw [List.length_map];omega)),fun k τ M'=>∃ (gs:List Gt) (kvs:List (List Key×D)) (kn:List (Nat×Bool)) (v6:Option D),Kn gs kvs kn/\(gs.length<=2+k/\kvs.length<=k/\kn.length=2+k)/\M'=netM (mm kn kvs) a b gs/\τ=sV (some (.ref kl)) v6 none none none none,⟨_,_,_,none,K0,⟨Nat.le_refl _,Nat.le_refl _,rfl⟩,rfl,by rw [hsV]⟩,fun _ _ _ _=>trivial,?_,?_⟩
  ·rintro k d τ M' hd ⟨gs,kvs,kn,v6,K1,⟨z1,z2,z3⟩,rfl,rfl⟩
   obtain ⟨c,hc,rfl⟩:=map_got hd
   have il':=(List.getElem?_eq_some_iff.mp hc).1
   rw [List.length_cons] at il'
   rw [hsV]
   walk_at "rd"
   have lk:netM (mm kn kvs) a b gs kl=some (.lst (kn.map knD)):=by rw [netM_o ka kb,mk]
   refine ⟨(ls_ty (ls_of lk)).1,fun r r0 r1=>⟨_,p,a,b,gs,r,t,kl,il,kn,kvs,rfl,rfl,rfl,rfl,rfl,⟨r0,by omega,t0,t1,Ne.symm ik⟩,nm,rfl,mk,mi,K1,fun e=>by rw [e] at z3;exact absurd z3 (by show ¬ 0=2+k;omega),⟨by omega,by omega,by omega⟩,fun gs' kvs' i v K2 g2 l2=>?_⟩⟩
   rw [pi]
   have lk2:netM (mm kn kvs') a b gs' kl=some (.lst (kn.map knD)):=by rw [netM_o ka kb,mk]
   simp only [sAppend,r_onR,on1,lk2]
   refine ⟨small1000 (by rw [List.length_map];omega),gs',kvs',kn++[(i,v)],_,K2,⟨by omega,by omega,by rw [List.length_append,z3];rfl⟩,?_,rfl⟩
   rw [netM_put ka kb,<- pk (kn:=kn) (kn':=kn++[(i,v)]),List.map_append]
   rfl
  ·rintro τ M' ⟨gs,kvs,kn,v6,K1,⟨z1,z2,z3⟩,h1,h2⟩
   rw [List.length_map,List.length_cons] at z1 z2 z3
   exact ⟨gs,kvs,kn,v6,K1,⟨by omega,by omega,by omega⟩,h1,h2⟩
 rintro τ M6 ⟨gs,kvs,kn,v6,K1,⟨z1,z2,z3⟩,rfl,rfl⟩
 obtain ⟨mx,hmx⟩:∃ mx:Mp,mx=put (put M0 il (.dct kvs)) fl (.lst ([Gt.no,.yes].map gD)):=⟨_,rfl⟩
 have em:mm kn kvs=put mx kl (.lst (kn.map knD)):=by rw [hmm,hmx];dsimp only;rw [put_comm fk,put_comm ik]
 have xk:mx kl=none:=by rw [hmx,put_ne fk.symm,put_ne ik.symm];exact k0
 have xi:mx il=some (.dct kvs):=by rw [hmx,put_ne fi.symm,put_same]
 have xf:mx fl=some (.lst ([Gt.no,.yes].map gD)):=by rw [hmx,put_same]
 have nx:Nt T.C_Net mx p a b:=by
  rw [hmx]
  exact (nt.put (q:=il) i0 ia ib).put (q:=fl) (by rw [put_ne fi];exact f0) fa fb
 rw [em,hsV,to_fzL (xs:=kn.map knD) rfl (by rw [netM_o ka kb,put_same]),net_del0 xk ka kb]
 simp only [List.set_cons_succ,List.set_cons_zero]
 obtain ⟨sU,hsU⟩:∃ sU:Option D->Option D->Option D->Option D->St2,sU=fun v7 v8 v9 v10=>sW ns (some (.int t)) (some (.ref p)) (some (.lst (kn.map knD))) (some (.ref il)) (some (.ref fl)) v6 v7 v8 v9 v10:=⟨_,rfl⟩
 refine ⟨fun τ M'=>∃ u,netM mx a b gs u=none/\M'=put (netM mx a b gs) u (.lst (gs.map gD))/\τ=sU (some (.ref u)) none none none,?_,?_⟩
 ·walk_at "rd"
  exact nx.mt ⟨_,p,a,b,gs,rfl,nx,rfl,fun u hu=>⟨u,hu,rfl,by rw [hsU]⟩⟩
 rintro τ M7 ⟨u,hu,rfl,rfl⟩
 rw [hsU,to_fzL (xs:=gs.map gD) rfl put_same,del_put hu]
 simp only [List.set_cons_succ,List.set_cons_zero]
 have lf:∀ gs,lsOf (netM mx a b gs) (.ref fl)=some ([Gt.no,.yes].map gD):=fun gs=>ls_of (by rw [netM_o fa fb,xf])
 refine ⟨fun τ M'=>M'=netM mx a b gs/\τ=sU (some (.lst (gs.map gD))) none none none,?_,?_⟩
 ·walk_at "rd"
  rw [(ls_ty (lf gs)).1,r_onO,show isiD "list" "list" = some true from rfl,r_onO]
  refine ite2 (fun c=>nomatch c) fun _=>?_
  rw [lf,r_onO,show cmpL (cmpD (netM mx a b gs) 40) ([Gt.no,.yes].map gD) [D.tup [D.str "no"],D.tup [D.str "yes"]]=some true from cmpL_gs [.no,.yes],r_onO]
  exact ite2 (fun c=>nomatch c) fun _=>by rw [hsU]
 rintro τ M8 ⟨rfl,rfl⟩
 refine ⟨fun τ M'=>M'=netM mx a b gs/\τ=sU (some (.lst (gs.map gD))) (some (.lst ((evs (insV kvs) gs).map fun b=>.int (b2i b)))) none none,?_,?_⟩
 ·rw [hsU]
  walk_at "rd"
  refine ⟨gs,insV kvs,rfl,K1.wf,by omega,⟨kvs,by unfold dtOf;simp only [netM_o ia ib,xi],fun s n p h=>K1.v s n p h⟩,fun u hu=>?_⟩
  rw [put_same]
  exact ⟨del_put hu,rfl⟩
 rintro τ M9 ⟨rfl,rfl⟩
 refine ⟨fun τ M'=>∃ v9 v10,M'=netM mx a b gs/\τ=sU (some (.lst (gs.map gD))) (some (.lst ((evs (insV kvs) gs).map fun b=>.int (b2i b)))) v9 v10,?_,?_⟩
 ·rw [hsU]
  walk_at "rd"
  refine ⟨fun k τ M'=>∃ v9 v10,M'=netM mx a b gs/\τ=sU (some (.lst (gs.map gD))) (some (.lst ((evs (insV kvs) gs).map fun b=>.int (b2i b)))) v9 v10,⟨none,none,rfl,by rw [hsU]⟩,fun _ _ _ _=>trivial,?_,?_⟩
  ·rintro k d τ M' hd ⟨v9,v10,rfl,rfl⟩
   obtain ⟨e,he,rfl⟩:=map_got hd
   obtain ⟨p1,w1⟩:=K1.p e (List.mem_of_getElem? he)
   rw [hsU,show knD e=.tup [.int (e.1:Int),.int (b2i e.2)] from rfl]
   walk_at "rd"
   have ea:atI ((evs (insV kvs) gs).map fun b=>D.int (b2i b)) (e.1:Int)=some (.int (b2i e.2)):=atI_nat (by
    rw [List.getElem?_map,List.getElem?_eq_getElem (by rw [evs_len];exact p1),w1]
    unfold vl
    rw [List.getD_eq_getElem?_getD,List.getElem?_eq_getElem (by rw [evs_len];exact p1)]
    rfl)
   refine ⟨e.1,gs.map gD,rfl,rfl,by rw [List.length_map];exact p1,?_⟩
   rw [ea,r_onO]
   walk_at "rd"
   exact ⟨_,_,rfl⟩
  ·rintro τ M' ⟨v9,v10,h1,h2⟩
   exact ⟨v9,v10,h1,by rw [h2,hsU]⟩
 rintro τ MA ⟨v9,v10,rfl,rfl⟩
 refine ⟨fun τ M'=>∃ v9 v10,M'=netM mx a b gs/\τ=sU (some (.lst (gs.map gD))) (some (.lst ((evs (insV kvs) gs).map fun b=>.int (b2i b)))) v9 v10,?_,?_⟩
 ·rw [hsU]
  walk_at "rd"
  rw [show dtOf (netM mx a b gs) (.ref il)=some kvs by unfold dtOf;simp only [netM_o ia ib,xi],r_onO]
  refine ⟨kvs.map (·.1),by rw [List.map_map];rfl,by rw [List.length_map];omega,fun k hk=>?_,fun k hk l hl=>?_,fun ys py=>?_⟩
  ·obtain ⟨x,hx,rfl⟩:=List.mem_map.mp hk
   obtain ⟨s,n,p,e,_⟩:=K1.k x hx
   exact ⟨s,_,e⟩
  ·obtain ⟨x,hx,rfl⟩:=List.mem_map.mp hk
   obtain ⟨y,hy,rfl⟩:=List.mem_map.mp hl
   obtain ⟨s,n,p,e,_⟩:=K1.k x hx
   obtain ⟨s',n',p',e',_⟩:=K1.k y hy
   rw [e,e']
   exact .cons trivial (.cons trivial (.cons trivial .nil))
  ·refine ⟨fun k τ M'=>∃ v9 v10,M'=netM mx a b gs/\τ=sU (some (.lst (gs.map gD))) (some (.lst ((evs (insV kvs) gs).map fun b=>.int (b2i b)))) v9 v10,⟨v9,v10,rfl,by rw [hsU]⟩,fun _ _ _ _=>trivial,?_,?_⟩
   ·rintro k d τ M' hd ⟨v9,v10,rfl,rfl⟩
    obtain ⟨y,hy,rfl⟩:=map_got hd
    obtain ⟨x,hx,rfl⟩:=List.mem_map.mp (py.mem_iff.mp (List.mem_of_getElem? hy))
    obtain ⟨s,n,z,e,hm⟩:=K1.k x hx
    rw [hsU,e,show tkD (bk s n z)=.tup [.str s,.str n,.int z] from rfl]
    walk_at "rd"
    refine nx.mt ⟨_,p,a,b,gs,s,n,z,rfl,rfl,rfl,rfl,nx,rfl,K1.wf,by omega,fun gs' i g' w' hi' hs=>?_⟩
    have e2:=hs hm
    subst e2
    rw [show atI (gs'.map gD) (i:Int)=some (.tup [.str "in",.str s,.str n,.int z]) from atI_nat (by rw [List.getElem?_map,hi'];rfl),r_onO,r_eqTT,show cmpL (cmpD (netM mx a b gs') 40) [D.str "in",.str s,.str n,.int z] [.str "in",.str s,.str n,.int z]=some true from cmpL_ks [.inr "in",.inr s,.inr n,.inl z],r_onO,r_onB]
    exact ite2 (fun c=>nomatch c) fun _=>⟨_,_,rfl,rfl⟩
   ·rintro τ M' ⟨v9,v10,h1,h2⟩
    exact ⟨v9,v10,h1,by rw [h2,hsU]⟩
 rintro τ MB ⟨v9,v10,rfl,rfl⟩
 refine ⟨fun τ M'=>∃ l,M'=netM (put mx fl (.lst l)) a b gs/\τ=sU (some (.lst (gs.map gD))) (some (.lst ((evs (insV kvs) gs).map fun b=>.int (b2i b)))) v9 v10,?_,?_⟩
 ·rw [hsU]
  walk_at "rd"
  refine ⟨(ls_ty (lf gs)).1,?_⟩
  simp only [sAppend,r_onR,on1,netM_o fa fb,xf]
  exact ⟨small1000 (by decide),_,netM_put fa fb⟩
 rintro τ MC ⟨l,rfl,rfl⟩
 have pf:p≠fl:=fun e=>by rw [<- e,nx.o] at xf;cases xf
 have ny:Nt T.C_Net (put mx fl (.lst l)) p a b:=⟨by rw [put_ne pf];exact nx.o,nx.pa,nx.pb,nx.ab,by rw [put_ne fa.symm];exact nx.na,by rw [put_ne fb.symm];exact nx.nb⟩
 rw [hsU]
 walk_at "rd"
 refine ny.mt ⟨_,p,a,b,gs,rfl,ny,rfl,fun u hu=>?_⟩
 rw [cmpL_gs gs,r_onO]
 exact Dn.of (q _)
end
end My
namespace My
open PySem PySem.W PyProof.Rows
open L2 (dfA dfB dfS NoAttr)
abbrev kE (P:Params) (n:Str) (t:Nat) (v:Value):DictEntry:=⟨PyData.keyHash P n,.str n t,v⟩
abbrev fF (n:Str) (s:Stmt) (m:Value) (c:Nat):FuncData:=fnOf n n (dfA s) (dfB s) (dfS s) .none .none .none m none (.ref c) .none
abbrev fO (n:Str) (s:Stmt) (m:Value) (c:Nat):Obj:=⟨.type "function",none,.func (fF n s m c),#[]⟩
abbrev fFm (n q:Str) (s:Stmt) (m:Value) (c:Nat):FuncData:=fnOf n q (dfA s) (dfB s) (dfS s) .none .none .none m none (.ref c) .none
abbrev fOm (n q:Str) (s:Stmt) (m:Value) (c:Nat):Obj:=⟨.type "function",none,.func (fFm n q s m c),#[]⟩
abbrev cO (n:Str) (t l a f:Nat) (x y z u v r:Value) (i j:Nat):Obj:=⟨.type "code",none,.fields #[.str n t,.str n (t+1),.str "/claim/cut.py" (t+2),.int l 0,.int a 0,.int 0 0,.int 0 0,.int f 0,x,.bool true,.int 181 0,y,z,u,v,r,.int i 0,.int l 0,.str "/claim/cut.py" j],#[]⟩
abbrev mo0:Value:=.str "beatwright.gates" 187
abbrev mo1:Value:=.str "law_beatwright_k55_gates_put" 265
noncomputable def hK (P:Params):Frag:=[(3,⟨(.type "dict"),none,.dict #[kE P "__name__" 165 (.str "law_beatwright_k55_gates_put" 265),kE P "__doc__" 166 .none,kE P "__package__" 167 .none,kE P "__loader__" 168 (.builtin "__main__.__loader__#opaque"),kE P "__spec__" 169 .none,kE P "__annotations__" 170 (.ref 6),kE P "__builtins__" 171 (.ref 4),kE P "__file__" 173 (.str "/claim/cut.py" 172),kE P "__cached__" 174 .none,kE P "Net" 264 (.ref 66),kE P "_law_cell" 274 (.ref 77),kE P "_law_mix" 283 (.ref 84),kE P "_law_names" 289 (.ref 89),kE P "_law_word" 298 (.ref 96),kE P "_law_settled" 308 (.ref 103),kE P "_law_place" 316 (.ref 110),kE P "_law_deed" 332 (.ref 117),kE P "law" 349 (.ref 124)] 18,#[]⟩),
 (27,⟨(.type "code"),none,.fields #[(.str "__init__" 201),(.str "Net.__init__" 202),(.str "/claim/cut.py" 203),(.int (4) 0),(.int (1) 0),(.int (0) 0),(.int (0) 0),(.int (3) 0),(.ref 22),(.bool true),(.int (181) 0),(.ref 23),.none,(.ref 24),(.ref 25),(.ref 26),(.int (205) 0),(.int (4) 0),(.str "/claim/cut.py" 206)],#[]⟩),
 (28,fOm "__init__" "Net.__init__" s_Net___init__ mo0 27),
 (34,⟨(.type "code"),none,.fields #[(.str "placed" 208),(.str "Net.placed" 209),(.str "/claim/cut.py" 210),(.int (10) 0),(.int (2) 0),(.int (0) 0),(.int (0) 0),(.int (3) 0),(.ref 29),(.bool true),(.int (181) 0),(.ref 30),.none,(.ref 31),(.ref 32),(.ref 33),(.int (213) 0),(.int (10) 0),(.str "/claim/cut.py" 214)],#[]⟩),
 (35,fOm "placed" "Net.placed" s_Net_placed mo0 34),
 (41,⟨(.type "code"),none,.fields #[(.str "asked" 216),(.str "Net.asked" 217),(.str "/claim/cut.py" 218),(.int (16) 0),(.int (4) 0),(.int (0) 0),(.int (0) 0),(.int (3) 0),(.ref 36),(.bool true),(.int (181) 0),(.ref 37),.none,(.ref 38),(.ref 39),(.ref 40),(.int (223) 0),(.int (16) 0),(.str "/claim/cut.py" 224)],#[]⟩),
 (42,fOm "asked" "Net.asked" s_Net_asked mo0 41),
 (48,⟨(.type "code"),none,.fields #[(.str "both" 226),(.str "Net.both" 227),(.str "/claim/cut.py" 228),(.int (19) 0),(.int (3) 0),(.int (0) 0),(.int (0) 0),(.int (3) 0),(.ref 43),(.bool true),(.int (181) 0),(.ref 44),.none,(.ref 45),(.ref 46),(.ref 47),(.int (234) 0),(.int (19) 0),(.str "/claim/cut.py" 235)],#[]⟩),
 (49,fOm "both" "Net.both" s_Net_both mo0 48),
 (55,⟨(.type "code"),none,.fields #[(.str "differ" 237),(.str "Net.differ" 238),(.str "/claim/cut.py" 239),(.int (28) 0),(.int (3) 0),(.int (0) 0),(.int (0) 0),(.int (3) 0),(.ref 50),(.bool true),(.int (181) 0),(.ref 51),.none,(.ref 52),(.ref 53),(.ref 54),(.int (245) 0),(.int (28) 0),(.str "/claim/cut.py" 246)],#[]⟩),
 (56,fOm "differ" "Net.differ" s_Net_differ mo0 55),
 (62,⟨(.type "code"),none,.fields #[(.str "told" 248),(.str "Net.told" 249),(.str "/claim/cut.py" 250),(.int (37) 0),(.int (1) 0),(.int (0) 0),(.int (0) 0),(.int (3) 0),(.ref 57),(.bool true),(.int (181) 0),(.ref 58),.none,(.ref 59),(.ref 60),(.ref 61),(.int (252) 0),(.int (37) 0),(.str "/claim/cut.py" 253)],#[]⟩),
 (63,fOm "told" "Net.told" s_Net_told mo0 62),
 (65,⟨(.type "dict"),none,.dict #[kE P "__module__" 196 (.str "beatwright.gates" 187),kE P "__firstlineno__" 200 (.int (2) 199),kE P "__init__" 207 (.ref 28),kE P "placed" 215 (.ref 35),kE P "asked" 225 (.ref 42),kE P "both" 236 (.ref 49),kE P "differ" 247 (.ref 56),kE P "told" 254 (.ref 63),kE P "__static_attributes__" 257 (.ref 64),kE P "__dict__" 259 (.ref 67),kE P "__weakref__" 261 (.ref 68),kE P "__doc__" 262 .none] 4,#[]⟩),
 (66,⟨(.type "type"),none,.cls { name:="Net",bases:=[(.type "object")],mro:=[(.ref 66),(.type "object")],ns:=65,qualname:="Net",hasDict:=true,slotNames:=[],subclasses:=[],abstract:=false,collection:=none,hasDel:=false },#[none,none,some (.str "Net" 189),some (.str "Net" 197),some (.builtin "object.__new__"),some (.bool true)]⟩),
 (76,cO "_law_cell" 267 40 2 3 (.ref 71) (.ref 72) .none (.ref 73) (.ref 74) (.ref 75) 272 273),
 (77,fO "_law_cell" s__law_cell mo1 76),
 (83,cO "_law_mix" 275 44 2 3 (.ref 78) (.ref 79) .none (.ref 80) (.ref 81) (.ref 82) 281 282),
 (84,fO "_law_mix" s__law_mix mo1 83),
 (88,cO "_law_names" 284 47 2 3 (.ref 85) (.ref 86) .none .none .none (.ref 87) 287 288),
 (89,fO "_law_names" s__law_names mo1 88),
 (95,cO "_law_word" 290 62 2 3 (.ref 90) (.ref 91) .none (.ref 92) (.ref 93) (.ref 94) 296 297),
 (96,fO "_law_word" s__law_word mo1 95),
 (102,cO "_law_settled" 299 65 2 3 (.ref 97) (.ref 98) .none (.ref 99) (.ref 100) (.ref 101) 306 307),
 (103,fO "_law_settled" s__law_settled mo1 102),
 (109,cO "_law_place" 309 77 2 3 (.ref 104) (.ref 105) .none (.ref 106) (.ref 107) (.ref 108) 314 315),
 (110,fO "_law_place" s__law_place mo1 109),
 (116,cO "_law_deed" 317 79 5 3 (.ref 111) (.ref 112) .none (.ref 113) (.ref 114) (.ref 115) 330 331),
 (117,fO "_law_deed" s__law_deed mo1 116),
 (123,cO "law" 333 92 1 3 (.ref 118) (.ref 119) .none (.ref 120) (.ref 121) (.ref 122) 347 348),
 (124,fO "law" s_law mo1 123)]
noncomputable def has:List Addr:=[3,27,28,34,35,41,42,48,49,55,56,62,63,65,66,76,77,83,84,88,89,95,96,102,103,109,110,116,117,123,124]
def hq:Program:=view PySem.Challenge.pw_beatwright_k55_gates_put [10]
noncomputable def hloose:List Str:="Net"::"_law_cell"::"_law_mix"::"_law_names"::"_law_word"::"_law_settled"::"_law_place"::"_law_deed"::[]
def hXt (q:Program) (s:Shared):Bool:=xlAt q [] s && recOk [] s
noncomputable def hrun (H₀:Params->Heap) (p q:Program) (w:World) (os:OsState):=SH.whole (H₀ w.params) p q hloose (hXt q) (fun s=>has.map s.heap.get?) 11 (some (.ref 6)) 690 w os
noncomputable def hgood (K:Params->Frag) (q:Program) (w:World):=some (true,openGood q hloose,(K w.params).map fun p=>some p.2)
theorem hrun_self:hrun=hrun:=rfl
theorem hgood_self:hgood=hgood:=rfl
lay_quick My.hrun My.hgood
name_quick hrunQ for My.hrun by My.hrun_self
name_quick hgoodQ for My.hgood by My.hgood_self
theorem hrunQ_good (w:World):(fun os=>PySem.W.Fast.hrunQ boot_heap PySem.Challenge.pw_beatwright_k55_gates_put hq w os)=fun _=>PySem.W.Fast.hgoodQ hK hq w:=by kernel_rfl
noncomputable def hYf (s:Shared):List (Option Obj):=has.map s.heap.get?
noncomputable def hYa (w:World):List (Option Obj):=(hK w.params).map fun p=>some p.2
theorem ws_self:OpenLaw.wellSaid=OpenLaw.wellSaid:=rfl
lay_quick PySem.W.OpenLaw.wellSaid
name_quick wsQ for PySem.W.OpenLaw.wellSaid by My.ws_self
theorem hsaid:PySem.W.Fast.wsQ PySem.Challenge.rw_beatwright_k55_gates_put=true:=by kernel_rfl
theorem hleft:LeftO PySem.Challenge.pw_beatwright_k55_gates_put hq hloose (hXt hq) hYf hYa 2080:=SH.left_of (Yf:=hYf) (Ya:=hYa) (M:=690) (n₀:=11) (ann:=(some (.ref 6))) (by kernel_rfl) (by decide) (fun s=>by kernel_rfl) (fun P=>by kernel_rfl) (fun w=>by kernel_rfl) (by decide) fun w os=>(congrFun (congrFun (congrFun (congrFun (congrFun PySem.W.Fast.hrunQ_eq _) _) _) w) os).trans ((congrFun (hrunQ_good w) os).trans (congrFun (congrFun (congrFun PySem.W.Fast.hgoodQ_eq _) _) w).symm)
structure Hd (w:World) (n:Str) (s:Stmt) (f c:Nat) (m:Value):Prop where
 a:nsIn (hK w.params) mainGlobals n=some (some (.ref f))
 l:(hK w.params).lookup f=some (fO n s m c)
 c:codeIn (hK w.params) (.ref c) n=true
 k:keepIn (hK w.params) (.ref f)=true
structure Hm (w:World) (C:Addr) (n q:Str) (s:Stmt) (f c:Nat) (m:Value):Prop where
 a:findIn (hK w.params) (.ref C) n=some (some (.ref f))
 i:isFn (hK w.params) (.ref f)=true
 l:(hK w.params).lookup f=some (fOm n q s m c)
 c:codeIn (hK w.params) (.ref c) q=true
 k:keepIn (hK w.params) (.ref f)=true
theorem lenU1 {fd:FuncData}{ps:List Str}{us:List Value}(hl:us.length=1) (h:∀ a0,bindArgs fd ⟨[a0],[]⟩=pure (ps.zip [a0])):bindArgs fd ⟨us,[]⟩=pure (ps.zip us):=by
 match us,hl with
 | [a0],_=>exact h a0
theorem lenU2 {fd:FuncData}{ps:List Str}{us:List Value}(hl:us.length=2) (h:∀ a0 a1,bindArgs fd ⟨[a0,a1],[]⟩=pure (ps.zip [a0,a1])):bindArgs fd ⟨us,[]⟩=pure (ps.zip us):=by
 match us,hl with
 | [a0,a1],_=>exact h a0 a1
theorem lenU3 {fd:FuncData}{ps:List Str}{us:List Value}(hl:us.length=3) (h:∀ a0 a1 a2,bindArgs fd ⟨[a0,a1,a2],[]⟩=pure (ps.zip [a0,a1,a2])):bindArgs fd ⟨us,[]⟩=pure (ps.zip us):=by
 match us,hl with
 | [a0,a1,a2],_=>exact h a0 a1 a2
theorem lenU4 {fd:FuncData}{ps:List Str}{us:List Value}(hl:us.length=4) (h:∀ a0 a1 a2 a3,bindArgs fd ⟨[a0,a1,a2,a3],[]⟩=pure (ps.zip [a0,a1,a2,a3])):bindArgs fd ⟨us,[]⟩=pure (ps.zip us):=by
 match us,hl with
 | [a0,a1,a2,a3],_=>exact h a0 a1 a2 a3
theorem lenU5 {fd:FuncData}{ps:List Str}{us:List Value}(hl:us.length=5) (h:∀ a0 a1 a2 a3 a4,bindArgs fd ⟨[a0,a1,a2,a3,a4],[]⟩=pure (ps.zip [a0,a1,a2,a3,a4])):bindArgs fd ⟨us,[]⟩=pure (ps.zip us):=by
 match us,hl with
 | [a0,a1,a2,a3,a4],_=>exact h a0 a1 a2 a3 a4
section
variable {w:World}{h:Heap}{mg:Str->Option Value}
noncomputable def hd {n:Str} {s:Stmt} {ps:List Str} (X:(hK w.params).In h) (G:h.Ns mainGlobals mg) (f c:Nat) (m:Value) (H:Hd w n s f c m:=by exact ⟨by kernel_rfl,by kernel_rfl,by kernel_rfl,by kernel_rfl⟩)
  (b:∀ (kV dc pm:Value) (an:Option Addr) (cd ct:Value) (us:List Value),us.length=ps.length->bindArgs (fnOf n n (dfA s) (dfB s) (dfS s) .none kV dc pm an cd ct) ⟨us,[]⟩=pure (ps.zip us):=by intro _ _ _ _ _ _ us h;first | exact lenU1 h (fun _=>rfl) | exact lenU2 h (fun _ _=>rfl) | exact lenU3 h (fun _ _ _=>rfl) | exact lenU4 h (fun _ _ _ _=>rfl) | exact lenU5 h (fun _ _ _ _ _=>rfl)):DF (hK w.params) mg n s ps :=
 ⟨f,fF n s m c,L2.fun_mk (st:=s) H.l H.c H.k,(L2.fun_mk (st:=s) H.l H.c H.k).binds b,mg_of X G H.a⟩
noncomputable def hdm {n q:Str} {s:Stmt} {ps:List Str} {C:Addr} (f c:Nat) (m:Value) (H:Hm w C n q s f c m:=by exact ⟨by kernel_rfl,by kernel_rfl,by kernel_rfl,by kernel_rfl,by kernel_rfl⟩)
  (b:∀ (kV dc pm:Value) (an:Option Addr) (cd ct:Value) (us:List Value),us.length=ps.length->bindArgs (fnOf n q (dfA s) (dfB s) (dfS s) .none kV dc pm an cd ct) ⟨us,[]⟩=pure (ps.zip us):=by intro _ _ _ _ _ _ us h;first | exact lenU1 h (fun _=>rfl) | exact lenU2 h (fun _ _=>rfl) | exact lenU3 h (fun _ _ _=>rfl) | exact lenU4 h (fun _ _ _ _=>rfl) | exact lenU5 h (fun _ _ _ _ _=>rfl)):DM (hK w.params) C n q s ps :=
 ⟨f,fFm n q s m c,L2.fun_mk (st:=s) H.l H.c H.k,(L2.fun_mk (st:=s) H.l H.c H.k).binds b,⟨H.a,H.i,H.k⟩⟩
theorem hs {n:Str}{v:Value}(X:(hK w.params).In h) (G:h.Ns mainGlobals mg) (e:nsIn (hK w.params) mainGlobals n=some (some v):=by kernel_rfl):mg n=some v:=mg_of X G e
theorem hn {n:Str}(X:(hK w.params).In h) (G:h.Ns mainGlobals mg) (e:nsIn (hK w.params) mainGlobals n=some none:=by kernel_rfl):mg n=none:=mg_none_of X G e
end
theorem all_mk {P:Program}{w:World}{h:Heap}{mg:Str->Option Value}{fa:Addr}(X:(hK w.params).In h) (G:h.Ns mainGlobals mg) (hfa:mg "law" = some (.ref fa)):∃ fd:FuncData,(∀ (s:Shared) (v:Value),BindsTo s fd ⟨[v],[]⟩ [("script",v)])/\∀ base:Heap,(hK w.params).In base->base.Ns mainGlobals mg->L2.FnOk P w (hK w.params) mg base L2.CX0 60 fa fd ["script"] (L3.lSp (hK w.params) L3.spLaw2):=by
 have e:=hfa.symm.trans (hs X G (v:=.ref 124))
 cases e
 let T:Tx (hK w.params) w mg:=⟨66,
  ⟨by kernel_rfl,by kernel_rfl,by kernel_rfl,by kernel_rfl⟩,
  hs X G,
  (show NoAttr _ _ _ by unfold NoAttr;kernel_rfl),
  (show NoAttr _ _ _ by unfold NoAttr;kernel_rfl),
  hdm 28 27 mo0,
  ⟨by kernel_rfl,by kernel_rfl,by kernel_rfl,by kernel_rfl⟩,
  hdm 35 34 mo0,
  hdm 42 41 mo0,
  hdm 49 48 mo0,
  hdm 56 55 mo0,
  hdm 63 62 mo0,
  hd X G 77 76 mo1,
  hd X G 84 83 mo1,
  hd X G 89 88 mo1,
  hd X G 96 95 mo1,
  hd X G 103 102 mo1,
  hd X G 110 109 mo1,
  hd X G 117 116 mo1,
  hd X G 124 123 mo1,
  ⟨hn X G,hn X G,hn X G,hn X G,hn X G,hn X G,hn X G,hn X G,hn X G,hn X G,hn X G,hn X G,hn X G,hn X G,hn X G,hn X G,hn X G,hn X G⟩⟩
 exact ⟨_,fun s v=>.of_eq rfl,fun base _ _=>ok_law T⟩
end My
open PySem PySem.W PyProof.Rows
set_option maxRecDepth 100000 in
set_option maxHeartbeats 0 in
theorem PySem.Challenge.cw_beatwright_k55_gates_put_holds : PySem.Challenge.rw_beatwright_k55_gates_put.Holds := by
 refine holds_law ((congrFun PySem.W.Fast.wsQ_eq _).trans My.hsaid) fun said=>?_
 refine PySem.W.holds_open (q:=My.hq) (loose:=My.hloose) (Xt:=My.hXt My.hq) (XP:=XL My.hq []) (Yf:=My.hYf) (Ya:=My.hYa) (YP:=InK My.hK) (N:=2080) My.hleft (InK.of fun _=>rfl) InK.keeps (fun s e=>xl_of s (Bool.and_eq_true_iff.mp e).1) XL.keeps (by rfl) (by rfl) (by rfl) (fun s e=>recFacts_of (Bool.and_eq_true_iff.mp e).2) (by rfl) (by first | assumption | decide +kernel) (by decide +kernel) ⟨rfl,rfl,rfl,rfl,rfl,by decide +kernel⟩ ?hw ?hc
 case hw=>w_witness2
 refine L3.walk2 (l:=PySem.Challenge.rw_beatwright_k55_gates_put) (k:=60) rfl rfl ⟨rfl,by decide,by decide⟩ (fun w h Y=>Y) ?F
 intro w mg fa h KX G hmg
 exact My.all_mk KX G hmg
#print axioms PySem.Challenge.cw_beatwright_k55_gates_put_holds
