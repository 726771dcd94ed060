import PyProof.Rows.All
import Wide.All
import OpenK.AllK
import Wide.FinOn
import Lean
import PyProof.EqAt
import PyProof.EqKinds
import PyProof.TupleCall
import PyProof.ZipIter
import PyProof.DictIter
import PyProof.DictWalks
import PyProof.CollectWalk
import PyProof.Rows.SetFrom
import PyProof.FactsAll.set_1
import PyProof.Rows.SortStr
import PyProof.DictItems
import KE.KDictList
import PyProof.AttrMissHeap
import PyProof.DictList
import KE.KDictOf
import PyProof.MeetsStr
import PyProof.StrOps2
import PyProof.SetKind
import PyProof.TupleKey
import PySem.Challenge.RW_beatwright_k56_rows_well_made
set_option Elab.async false
set_option linter.all false
set_option maxRecDepth 100000
set_option compiler.extract_closed false
noncomputable section
namespace L2
open PySem PySem.Spec PyProof.Rows
abbrev Key:=Sum Int Str
def keyIs:Key->Value->Bool
 | .inl k,v=>Value.isInt k v
 | .inr x,v=>Value.isStrOf x v
def keyH (w:World):Key->Int
 | .inl k=>hashInt k
 | .inr x=>hashStr w x
theorem keyIs_shape:∀ {k:Key}{v:Value},keyIs k v=true->(∃ i t,k=Sum.inl i/\v=Value.int i t)\/(∃ x t,k=Sum.inr x/\v=Value.str x t)
 | .inl i,v,h=>by
  obtain ⟨t,e⟩:=Value.isInt_shape (k:=i) (v:=v) h
  exact .inl ⟨i,t,rfl,e⟩
 | .inr x,v,h=>by
  obtain ⟨t,e⟩:=Value.isStrOf_shape (x:=x) (v:=v) h
  exact .inr ⟨x,t,rfl,e⟩
theorem keyIs_int (i:Int) (t:Tok):keyIs (.inl i) (.int i t)=true:=by simp [keyIs,Value.isInt]
theorem keyIs_str (x:Str) (t:Tok):keyIs (.inr x) (.str x t)=true:=by simp [keyIs,Value.isStrOf]
theorem key_ll (a b:Int):decide ((Sum.inl a:Key)=Sum.inl b)=(a == b):=by
 by_cases e:a=b
 ·subst e;simp
 ·have h:¬ (Sum.inl a:Key)=Sum.inl b:=fun q=>e (Sum.inl.inj q)
  rw [decide_eq_false h]
  exact (beq_eq_false_iff_ne.mpr e).symm
theorem key_rr (a b:Str):decide ((Sum.inr a:Key)=Sum.inr b)=decide (a=b):=by
 by_cases e:a=b
 ·subst e;simp
 ·have h:¬ (Sum.inr a:Key)=Sum.inr b:=fun q=>e (Sum.inr.inj q)
  rw [decide_eq_false h,decide_eq_false e]
theorem key_lr (a:Int) (b:Str):decide ((Sum.inl a:Key)=Sum.inr b)=false:=decide_eq_false (fun q=>nomatch q)
theorem key_rl (a:Str) (b:Int):decide ((Sum.inr a:Key)=Sum.inl b)=false:=decide_eq_false (fun q=>nomatch q)
def mixKind (prog:Program) (w:World):PySem.KeyKind prog w Key where
 is:=keyIs
 hash:=keyH w
 inj:=fun v a b ha hb=>by
  rcases keyIs_shape ha with ⟨i,t,rfl,rfl⟩|⟨x,t,rfl,rfl⟩
  ·rcases keyIs_shape hb with ⟨j,u,rfl,e⟩|⟨y,u,rfl,e⟩
   ·injection e with e1 _;rw [e1]
   ·exact nomatch e
  ·rcases keyIs_shape hb with ⟨j,u,rfl,e⟩|⟨y,u,rfl,e⟩
   ·exact nomatch e
   ·injection e with e1 _;rw [e1]
 byValue:=fun k v h=>by
  rcases keyIs_shape h with ⟨i,t,rfl,rfl⟩|⟨x,t,rfl,rfl⟩<;>rfl
 pyHash:=fun hv h=>by
  rcases keyIs_shape hv with ⟨i,t,rfl,rfl⟩|⟨x,t,rfl,rfl⟩
  ·exact wpAny_pyHash_int h
  ·exact wpAny_pyHash_str h
 eqBool:=fun hu hv h=>by
  rcases keyIs_shape hu with ⟨i,t,rfl,rfl⟩|⟨x,t,rfl,rfl⟩
  ·rcases keyIs_shape hv with ⟨j,u,rfl,rfl⟩|⟨y,u,rfl,rfl⟩
   ·rw [key_ll] at h;exact wpAny_eqBool_int h
   ·rw [key_lr] at h;exact SeqAt.EqAt.int_str i t y u _ _ _ _ h
  ·rcases keyIs_shape hv with ⟨j,u,rfl,rfl⟩|⟨y,u,rfl,rfl⟩
   ·rw [key_rl] at h;exact SeqAt.EqAt.str_int x t j u _ _ _ _ h
   ·rw [key_rr] at h;exact wpAny_eqBool_str h
 «strs»:=fun k x t v h=>by
  rcases keyIs_shape h with ⟨i,u,rfl,e⟩|⟨y,u,rfl,e⟩
  ·exact nomatch e
  ·injection e with e1 _
   subst e1
   cases v<;>rfl
theorem mixKind_int (prog:Program) (w:World) (i:Int) (t:Tok):(mixKind prog w).is (.inl i) (.int i t)=true:=keyIs_int i t
theorem mixKind_str (prog:Program) (w:World) (x:Str) (t:Tok):(mixKind prog w).is (.inr x) (.str x t)=true:=keyIs_str x t
inductive V where
 | non | bl (b:Bool) | int (i:Int) | str (x:Str) | byt (b:Array UInt8) | flt (b:UInt64) | ref (a:Addr) | ty (n:String)
 deriving DecidableEq
def RelV:V->Value->Prop
 | .non,u=>u=Value.none
 | .bl b,u=>u=Value.bool b
 | .int i,u=>∃ t,u=Value.int i t
 | .str x,u=>∃ t,u=Value.str x t
 | .byt b,u=>∃ t,u=Value.bytes b t
 | .flt b,u=>∃ t,u=Value.float b t
 | .ref a,u=>u=Value.ref a
 | .ty n,u=>u=Value.type n
abbrev Vals:List V->List Value->Prop:=Paired RelV
theorem Vals.length {xs:List V}{us:List Value}(r:Vals xs us):xs.length=us.length:=Paired.length r
theorem Vals.get:∀ {xs:List V}{us:List Value}{i:Nat}{x:V},Vals xs us->xs[i]? = some x->∃ u,us[i]? = some u/\RelV x u
 | _,_,_,_,.nil,e=>by simp at e
 | _,_,0,_,.cons r _,e=>by simp at e;subst e;exact ⟨_,rfl,r⟩
 | _,_,i+1,x,.cons _ t,e=>by
  obtain ⟨u,h1,h2⟩:=Vals.get (i:=i) (x:=x) t (by simpa using e)
  exact ⟨u,by simpa using h1,h2⟩
theorem Vals.set {x:V}{u:Value}(r:RelV x u):∀ {xs:List V}{us:List Value}(i:Nat),Vals xs us->Vals (xs.set i x) (us.set i u)
 | _,_,_,.nil=>.nil
 | _,_,0,.cons _ t=>.cons r t
 | _,_,i+1,.cons q t=>.cons q (Vals.set r i t)
theorem Vals.append:∀ {xs ys:List V}{us ws:List Value},Vals xs us->Vals ys ws->Vals (xs++ys) (us++ws)
 | _,_,_,_,.nil,s=>s
 | _,_,_,_,.cons r t,s=>.cons r (Vals.append t s)
theorem Vals.take:∀ {xs:List V}{us:List Value}(n:Nat),Vals xs us->Vals (xs.take n) (us.take n)
 | _,_,0,_=>.nil
 | _,_,_+1,.nil=>.nil
 | _,_,n+1,.cons r t=>.cons r (Vals.take n t)
theorem Vals.drop:∀ {xs:List V}{us:List Value}(n:Nat),Vals xs us->Vals (xs.drop n) (us.drop n)
 | _,_,0,r=>r
 | _,_,_+1,.nil=>.nil
 | _,_,n+1,.cons _ t=>Vals.drop n t
theorem Vals.none_of:∀ {xs:List V}{us:List Value}{i:Nat},Vals xs us->xs[i]? = none->us[i]? = none:=fun {xs us i} r e=>by
 have h1:=r.length
 have h2:xs.length<=i:=List.getElem?_eq_none_iff.mp e
 exact List.getElem?_eq_none_iff.mpr (by omega)
def RelO:Option V->Option Value->Prop
 | some v,some u=>RelV v u
 | none,none=>True
 | _,_=>False
def KV {κ:Type}:List (κ×V)->List (κ×Value)->Prop:=Paired fun (p:κ×V) (q:κ×Value)=>p.1=q.1/\RelV p.2 q.2
def kV:Key->V
 | .inl i=>.int i
 | .inr x=>.str x
inductive HO where
  | lst (xs:List V)
  | tup (xs:List V)
  | dK (kvs:List (Key×V)) | dT (kvs:List (List Key×V))
  | set (S:Int->Bool) (n:Nat)
  | ins (C dx:Addr) (fs:List (Str×V))
  | own (x:Addr)
  | xd (fs:List (Str×V))
  | met (f x:Addr)
  | rng (lo hi:Int)
  | frz (o:Obj) (u:HO)
  | tbl (ps:Array Value)
  | ext (φ:Heap->Prop)
abbrev Hp:=Addr->Option HO
def upd (H:Hp) (a:Addr) (o:HO):Hp:=fun b=>if b=a then some o else H b
theorem upd_same {H:Hp}{a:Addr}{o:HO}:upd H a o a=some o:=by unfold upd;rw [if_pos rfl]
theorem upd_ne {H:Hp}{a b:Addr}{o:HO}(h:b≠a):upd H a o b=H b:=by unfold upd;rw [if_neg h]
theorem ne_of {H:Hp}{a b:Addr}{o u:HO}(h:H a=some o) (h':H b=some u) (d:o≠u):a≠b:=by
 intro e;subst e;rw [h] at h';exact d (Option.some.inj h')
theorem ne_of_none {H:Hp}{a b:Addr}{o:HO}(h:H a=some o) (h':H b=none):a≠b:=by
 intro e;subst e;rw [h] at h';cases h'
section
variable (P:Program) (w:World)
def ObjOk (H:Hp) (h:Heap) (a:Addr):HO->Prop
 | .lst xs=>xs.length<=sizeLine/\∃ (its:List Value) (n:Nat),Vals xs its/\h.get? a=some { cls:=.type "list",data:=.seq its.toArray n }
 | .tup xs=>xs.length<=sizeLine/\∃ its:List Value,Vals xs its/\IsTup h a its.toArray
 | .dK kvs=>kvs.length<=sizeLine/\(a == sysModules)=false/\∃ vs,KV kvs vs/\h.DictOf (mixKind P w) a vs
 | .dT kvs=>kvs.length<=sizeLine/\(a == sysModules)=false/\∃ xs:List (List Key×Addr×Value),
   Paired (fun (p:List Key×V) (q:List Key×Addr×Value)=>p.1=q.1/\H q.2.1=some (.tup (p.1.map kV))/\RelV p.2 q.2.2) kvs xs /\
   ∃ o es ep,h.get? a=some o/\o.ExactDict/\o.data=.dict es ep/\es.toList=xs.map (entryOfKey (tupleKind (mixKind P w)))/\(xs.map (·.1)).Nodup
 | .set S n=>h.SetOf (intKind P w) a S n
 | .ins C dx fs=>H dx=some (.own a)/\fs.length<=1000/\dx≠a/\h.get? a=some (PySem.W.instObj C dx) /\
   ∃ mA,h.Ns1 dx mA/\(∀ f,RelO (fs.lookup f) (mA f))/\PySem.Within mA (fs.map (·.1))
 | .own _=>∃ o,h.get? a=some o
 | .xd fs=>∃ mA,h.Ns1 a mA/\∀ f,RelO (fs.lookup f) (mA f)
 | .rng lo hi=>∃ t u v,h.get? a=some { cls:=.type "range",data:=.fields #[.int lo t,.int hi u,.int 1 v] }
 | .frz o u=>h.get? a=some o/\ObjOk H h a u
 | .tbl ps=>h.get? a=some { cls:=.none,data:=.fields ps }
 | .met f x=>h.get? a=some (PySem.W.methodObj (.ref f) (.ref x))
 | .ext φ=>φ h/\(∃ o,h.get? a=some o)/\∀ h1 h2:Heap,φ h1->(∀ o,h1.get? a=some o->h2.get? a=some o)->φ h2
def HOk (H:Hp) (h:Heap):Prop:=∀ a o,H a=some o->ObjOk P w H h a o
end
section
variable {P:Program}{w:World}{H H':Hp}{h h':Heap}{a:Addr}{o:HO}
theorem ObjOk.lt (x:ObjOk P w H h a o):a<h.objs.size:=by
 cases o with
 | lst xs=>obtain ⟨_,_,_,_,e⟩:=x;exact Heap.lt_size e
 | tup xs=>obtain ⟨_,_,_,p⟩:=x;exact p.lt
 | dK kvs=>obtain ⟨_,_,_,_,o,_,_,e,_⟩:=x;exact Heap.lt_size e
 | dT kvs=>obtain ⟨_,_,_,_,o,_,_,e,_⟩:=x;exact Heap.lt_size e
 | set S n=>obtain ⟨o,_,_,_,e,_⟩:=x;exact Heap.lt_size e
 | ins C dx fs=>obtain ⟨_,_,_,e,_⟩:=x;exact Heap.lt_size e
 | own y=>obtain ⟨_,e⟩:=x;exact Heap.lt_size e
 | xd fs=>obtain ⟨_,⟨_,_,_,e,_⟩,_⟩:=x;exact Heap.lt_size e
 | rng lo hi=>obtain ⟨_,_,_,e⟩:=x;exact Heap.lt_size e
 | frz ob u=>obtain ⟨e,_⟩:=x;exact Heap.lt_size e
 | tbl ps=>exact Heap.lt_size (show h.get? a=some _ from x)
 | met f y=>exact Heap.lt_size (show h.get? a=some _ from x)
 | ext φ=>obtain ⟨_,⟨_,e⟩,_⟩:=x;exact Heap.lt_size e
theorem Paired.mapP {α β:Type}{F G:α->β->Prop}:∀ {l₁:List α}{l₂:List β},Paired F l₁ l₂->(∀ a b,F a b->G a b)->Paired G l₁ l₂
 | _,_,.nil,_=>.nil
 | _,_,.cons r t,f=>.cons (f _ _ r) (Paired.mapP t f)
theorem ObjOk.stay (x:ObjOk P w H h a o) (k:∀ b u,(b=a\/H b=some (.own a))->h.get? b=some u->h'.get? b=some u)
  (ho:∀ b,H b=some (.own a)->H' b=some (.own a)) (ht:∀ b xs,H b=some (.tup xs)->H' b=some (.tup xs)):ObjOk P w H' h' a o:=by
 induction o with
 | lst xs=>obtain ⟨z,its,n,r,e⟩:=x;exact ⟨z,its,n,r,k _ _ (.inl rfl) e⟩
 | tup xs=>obtain ⟨z,its,r,ob,e,c⟩:=x;exact ⟨z,its,r,ob,k _ _ (.inl rfl) e,c⟩
 | dK kvs=>obtain ⟨z,y,vs,r,ob,es,ep,e,c⟩:=x;exact ⟨z,y,vs,r,ob,es,ep,k _ _ (.inl rfl) e,c⟩
 | dT kvs =>
  obtain ⟨z,y,xs,r,ob,es,ep,e,c⟩:=x
  exact ⟨z,y,xs,Paired.mapP r fun p q z=>⟨z.1,ht _ _ z.2.1,z.2.2⟩,ob,es,ep,k _ _ (.inl rfl) e,c⟩
 | set S n=>obtain ⟨ob,es,ep,t,e,c⟩:=x;exact ⟨ob,es,ep,t,k _ _ (.inl rfl) e,c⟩
 | ins C dx fs =>
  obtain ⟨d,z,ne,e,mA,⟨od,es,ep,e2,c⟩,r⟩:=x
  exact ⟨ho _ d,z,ne,k _ _ (.inl rfl) e,mA,⟨od,es,ep,k _ _ (.inr d) e2,c⟩,r⟩
 | own y=>obtain ⟨ob,e⟩:=x;exact ⟨ob,k _ _ (.inl rfl) e⟩
 | xd fs=>obtain ⟨mA,⟨od,es,ep,e,c⟩,r⟩:=x;exact ⟨mA,⟨od,es,ep,k _ _ (.inl rfl) e,c⟩,r⟩
 | rng lo hi=>obtain ⟨t,u,v,e⟩:=x;exact ⟨t,u,v,k _ _ (.inl rfl) e⟩
 | frz ob u ih=>obtain ⟨e,q⟩:=x;exact ⟨k _ _ (.inl rfl) e,ih q⟩
 | tbl ps =>
  have e:h.get? a=some { cls:=.none,data:=.fields ps }:=x
  show h'.get? a=some { cls:=.none,data:=.fields ps }
  exact k a _ (.inl rfl) e
 | met f y =>
  have e:h.get? a=some (PySem.W.methodObj (.ref f) (.ref y)):=x
  show h'.get? a=some (PySem.W.methodObj (.ref f) (.ref y))
  exact k a _ (.inl rfl) e
 | ext φ=>obtain ⟨p,⟨o,e⟩,st⟩:=x;exact ⟨st _ _ p fun o q=>k _ _ (.inl rfl) q,⟨o,k _ _ (.inl rfl) e⟩,st⟩
theorem HOk.lt (x:HOk P w H h) (e:H a=some o):a<h.objs.size:=(x a o e).lt
theorem HOk.fresh (x:HOk P w H h) (e:h.objs.size<=a):H a=none:=by
 cases q:H a with
 | none=>rfl
 | some u=>exact absurd (Nat.lt_of_lt_of_le (x.lt q) e) (Nat.lt_irrefl _)
theorem HOk.kept (x:HOk P w H h) (k:∀ b u,h.get? b=some u->h'.get? b=some u):HOk P w H h':=fun a o e =>
 (x a o e).stay (fun b u _ q=>k b u q) (fun _ q=>q) fun _ _ q=>q
theorem HOk.laid (x:HOk P w H h) (k:∀ b u,h.get? b=some u->h'.get? b=some u) (hp:h.objs.size<=a) (new:ObjOk P w (upd H a o) h' a o):HOk P w (upd H a o) h':=fun b u e=>by
 have hn:=x.fresh hp
 by_cases hb:b=a
 ·subst hb;rw [upd_same] at e;cases e;exact new
 ·rw [upd_ne hb] at e
  exact (x b u e).stay (fun c v _ q=>k c v q) (fun c q=>by rw [upd_ne (ne_of_none q hn)];exact q) fun c xs q=>by rw [upd_ne (ne_of_none q hn)];exact q
end
def Rd (H:Hp) (a:Addr) (u:HO):Prop:=H a=some u\/∃ o,H a=some (.frz o u)
theorem Rd.of {H:Hp}{a:Addr}{u:HO}(h:H a=some u):Rd H a u:=.inl h
theorem Rd.ok {P:Program}{w:World}{H:Hp}{h:Heap}{a:Addr}{u:HO}(r:Rd H a u) (x:HOk P w H h):ObjOk P w H h a u:=by
 rcases r with r|⟨o,r⟩
 ·exact x a u r
 ·obtain ⟨_,q⟩:=x a _ r
  exact q
def Mut:Option HO->Prop
 | some (.lst _)=>True
 | some (.dK _)=>True
 | some (.dT _)=>True
 | some (.set _ _)=>True
 | some (.ins _ _ _)=>True
 | some (.ext _)=>True
 | _=>False
section
variable {P:Program}{w:World}{H:Hp}{h h':Heap}{x e:Addr}{o':HO}
theorem HOk.write (ok:HOk P w H h) (mu:Mut (H x)) (he:e=x\/H e=some (.own x)) (k:∀ b u,b≠e->h.get? b=some u->h'.get? b=some u) (heo:∃ u,h'.get? e=some u)
  (new:ObjOk P w (upd H x o') h' x o'):HOk P w (upd H x o') h':=fun b u q=>by
 have nown:∀ c y,H c=some (.own y)->c≠x:=fun c y r z=>by subst z;rw [r] at mu;exact mu
 have ntup:∀ c xs,H c=some (.tup xs)->c≠x:=fun c xs r z=>by subst z;rw [r] at mu;exact mu
 by_cases hb:b=x
 ·subst hb;rw [upd_same] at q;cases q;exact new
 ·rw [upd_ne hb] at q
  by_cases hbe:b=e
  ·have q':H b=some (.own x):=by
    rcases he with z|z
    ·exact absurd (hbe.trans z) hb
    ·rw [hbe];exact z
   rw [q] at q';cases q'
   obtain ⟨v,hv⟩:=heo
   exact ⟨v,by rw [hbe];exact hv⟩
  ·refine (ok b u q).stay (fun c v hc r=>k c v ?_ r) (fun c r=>by rw [upd_ne (nown c b r)];exact r) fun c xs r=>by rw [upd_ne (ntup c xs r)];exact r
   rcases hc with rfl|hc
   ·exact hbe
   ·rintro rfl
    rcases he with z|z
    ·exact nown c b hc z
    ·rw [hc] at z;cases z;exact hb rfl
end
structure Un (fs ex:List Addr) (H H':Hp) (h h':Heap):Prop where
 keep:∀ b o,h.get? b=some o->H b=none->b∉fs->b∉ex->h'.get? b=some o
 slot:∀ b o,h.get? b=some o->H b=none->b∈fs->b∉ex->∃ sl,h'.get? b=some { o with slots:=sl }
 free:∀ b o,h.get? b=some o->H b=none->b∉ex->H' b=none
 there:∀ b o,h.get? b=some o->b∉ex->∃ o',h'.get? b=some o'
 tups:∀ b xs,H b=some (.tup xs)->H' b=some (.tup xs)
 frzs:∀ b o u,H b=some (.frz o u)->H' b=some (.frz o u)
 tbls:∀ b ps,H b=some (.tbl ps)->∃ more,H' b=some (.tbl (ps++more))
section
variable {fs fs' ex ex':List Addr}{H H1 H2:Hp}{h h1 h2 h':Heap}{a x e:Addr}{o:HO}
theorem Un.any (u:Un fs ex H H1 h h1) {b:Addr}{ob:Obj}(q:h.get? b=some ob) (n:H b=none) (hx:b∉ex):∃ sl,h1.get? b=some { ob with slots:=sl }:=by
 by_cases hb:b∈fs
 ·exact u.slot b ob q n hb hx
 ·exact ⟨ob.slots,u.keep b ob q n hb hx⟩
theorem Un.trans (a:Un fs ex H H1 h h1) (b:Un fs ex H1 H2 h1 h2):Un fs ex H H2 h h2 where
 keep:=fun c ob q n hc hx=>b.keep c ob (a.keep c ob q n hc hx) (a.free c ob q n hx) hc hx
 slot:=fun c ob q n hc hx=>by
  obtain ⟨sl,e1⟩:=a.slot c ob q n hc hx
  obtain ⟨sl',e2⟩:=b.slot c _ e1 (a.free c ob q n hx) hc hx
  exact ⟨sl',e2⟩
 free:=fun c ob q n hx=>by
  obtain ⟨o',e1⟩:=a.there c ob q hx
  exact b.free c o' e1 (a.free c ob q n hx) hx
 there:=fun c ob q hx=>by
  obtain ⟨o',e1⟩:=a.there c ob q hx
  exact b.there c o' e1 hx
 tups:=fun c xs q=>b.tups c xs (a.tups c xs q)
 frzs:=fun c ob xs q=>b.frzs c ob xs (a.frzs c ob xs q)
 tbls:=fun c ps q=>by
  obtain ⟨m1,e1⟩:=a.tbls c ps q
  obtain ⟨m2,e2⟩:=b.tbls c _ e1
  exact ⟨m1++m2,by rw [e2,Array.append_assoc]⟩
theorem Un.kept (k:∀ b u,h.get? b=some u->h'.get? b=some u):Un fs ex H H h h' :=
 ⟨fun b ob q _ _ _=>k b ob q,fun b ob q _ _ _=>⟨ob.slots,k b ob q⟩,fun _ _ _ n _=>n,fun b ob q _=>⟨ob,k b ob q⟩,fun _ _ q=>q,fun _ _ _ q=>q,fun _ ps q=>⟨#[],by rw [q];simp⟩⟩
theorem Un.refl:Un fs ex H H h h:=Un.kept fun _ _ q=>q
theorem Un.laid (k:∀ b u,h.get? b=some u->h'.get? b=some u) (hp:h.objs.size<=a) (hn:H a=none):Un fs ex H (upd H a o) h h' where
 keep:=fun b u q _ _ _=>k b u q
 slot:=fun b u q _ _ _=>⟨u.slots,k b u q⟩
 free:=fun b u q n _=>by rw [upd_ne (Nat.ne_of_lt (Nat.lt_of_lt_of_le (Heap.lt_size q) hp))];exact n
 there:=fun b u q _=>⟨u,k b u q⟩
 tups:=fun b xs q=>by rw [upd_ne (ne_of_none q hn)];exact q
 frzs:=fun b u xs q=>by rw [upd_ne (ne_of_none q hn)];exact q
 tbls:=fun b ps q=>⟨#[],by rw [upd_ne (ne_of_none q hn),q];simp⟩
theorem Un.write (mu:Mut (H x)) (he:e=x\/H e=some (.own x)) (k:∀ b u,b≠e->h.get? b=some u->h'.get? b=some u) (heo:∃ u,h'.get? e=some u):Un fs ex H (upd H x o) h h':=by
 have hx:∀ b,H b=none->b≠x:=fun b n z=>by subst z;rw [n] at mu;exact mu
 have hb:∀ b,H b=none->b≠e:=fun b n z=>by
  subst z
  rcases he with r|r
  ·exact hx b n r
  ·rw [n] at r;cases r
 have hm:∀ b u,H b=some u->¬ Mut (some u)->b≠x:=fun b u q nm z=>by subst z;rw [q] at mu;exact nm mu
 refine ⟨fun b u q n _ _=>k b u (hb b n) q,fun b u q n _ _=>⟨u.slots,k b u (hb b n) q⟩,fun b u q n _=>by rw [upd_ne (hx b n)];exact n,fun b u q _=>?_,
  fun b xs q=>by rw [upd_ne (hm b _ q fun z=>z)];exact q,fun b u xs q=>by rw [upd_ne (hm b _ q fun z=>z)];exact q,fun b ps q=>⟨#[],by rw [upd_ne (hm b _ q fun z=>z),q];simp⟩⟩
 by_cases hbe:b=e
 ·subst hbe;exact heo
 ·exact ⟨u,k b u hbe q⟩
theorem Un.mono (u:Un fs ex H H1 h h1) (hs:∀ b∈fs,b∈fs') (hx:∀ b∈ex,b∈ex'):Un fs' ex' H H1 h h1 :=
 ⟨fun b ob q n hb he=>u.keep b ob q n (fun z=>hb (hs b z)) fun z=>he (hx b z),fun _ _ q n _ he=>u.any q n fun z=>he (hx _ z),fun b ob q n he=>u.free b ob q n fun z=>he (hx b z),fun b ob q he=>u.there b ob q fun z=>he (hx b z),u.tups,u.frzs,u.tbls⟩
end
def trk (h:Heap) (H:Hp):List Addr:=(List.range h.objs.size).filter fun a=>(H a).isSome
def hidT (h:Heap) (H:Hp):Heap:=PySem.W.hideAll h (trk h H)
theorem hidT_size (h:Heap) (H:Hp):(hidT h H).objs.size=h.objs.size:=PySem.W.hideAll_size _ _
theorem hidT_get {h:Heap}{H:Hp}{b:Addr}{o:Obj}(e:h.get? b=some o) (n:H b=none):(hidT h H).get? b=some o :=
 PySem.W.hideAll_get _ e fun hm=>by
  have q:(H b).isSome=true:=(List.mem_filter.mp hm).2
  rw [n] at q;simp at q
theorem of_hidT {h:Heap}{H:Hp}{b:Addr}{o:Obj}(e:(hidT h H).get? b=some o):h.get? b=some o/\H b=none:=by
 have e':h.get? b=some o:=PySem.W.of_hideAll (trk h H) e
 refine ⟨e',?_⟩
 cases q:H b with
 | none=>rfl
 | some x =>
  have hm:b∈trk h H:=List.mem_filter.mpr ⟨List.mem_range.mpr (Heap.lt_size e'),by simp [q]⟩
  have z:(hidT h H).get? b=none:=PySem.W.hideAll_none (trk h H) hm
  rw [z] at e;cases e
def allNews (g h:Heap) (L:Addr):List (Addr×Obj):=(List.range h.objs.size).filterMap fun a=>if a=L\/(g.get? a).isSome=true then none else (h.get? a).map fun o=>(a,o)
def rest (g h:Heap) (L d:Addr):List (Addr×Obj):=(allNews g h L).filter fun p=>decide (p.1≠d)
structure Mod (K:PySem.W.Frag) (mg:Str->Option Value) (base:Heap):Prop where
 kin:K.In base
 glob:base.Ns mainGlobals mg
 blt:∃ mb,base.Ns builtinsNs mb/\∀ x:Str,x≠"__name__"->mb x=bootBuiltins x
 nolimit:base.NoLimit
structure Cx where
 prog:Program
 w:World
 K:PySem.W.Frag
 mg:Str->Option Value
 base:Heap
 A:Around
 N:List Str
 s₀:Shared
 H₀:Hp
 env:Env
 outer:List Env
 stack:List Env
 ex:List Addr
 fn:Str->Bool
 calm:Bool
 pn:List (Addr×Obj)
 xe:Value->Shared->Prop
 fz:List (Addr×Obj×HO):=[]
def frs (l:List Env):List Addr:=l.filterMap (·.frame)
abbrev Cx.fs (X:Cx):List Addr:=frs X.outer
def Vis (sc:Scope) (x:Str):Prop:=sc.names.lookup x=some .local\/sc.names.lookup x=some .cell\/sc.names.lookup x=some .free
def Loc (sc:Scope) (x:Str):Prop:=sc.names.lookup x=some .local\/sc.names.lookup x=some .cell
def Look (env:Env) (h:Heap) (m:Str->Option Value) (x:Str) (u:Value):Prop :=
 (env.kindOf x=some .local/\m x=some u)\/((env.kindOf x=some .cell\/env.kindOf x=some .free)/\∃ c,env.cells.lookup x=some c/\h.IsCell c (some u))
structure Cx.Ok (X:Cx):Prop where
 mod:Mod X.K X.mg X.base
 kind:X.env.scope.kind=.function
 glob:X.env.globals=mainGlobals
 blt:X.env.builtins=builtinsNs
 above:X.s₀.heap.objs.size<=X.env.locals
 inj:∀ x y c,X.env.cells.lookup x=some c->X.env.cells.lookup y=some c->x=y
 has:∀ x,(X.env.kindOf x=some .cell\/X.env.kindOf x=some .free)->∃ c,X.env.cells.lookup x=some c
 cab:∀ x c,X.fn x=true->X.env.cells.lookup x=some c->X.s₀.heap.objs.size<=c
 hd:X.calm=true->X.A.handled=none
 frames:X.A.frames=some X.stack
 stk:X.stack=X.outer\/(X.stack=X.env::X.outer/\X.env.frame=some X.env.locals)
 exf:∀ b∈X.ex,b≠X.env.locals/\∀ x c,X.env.cells.lookup x=some c->c≠b
 bs:∀ b o,X.base.get? b=some o->X.s₀.heap.get? b=some o/\X.H₀ b=none
 bsz:X.base.objs.size<=X.s₀.heap.objs.size
 noex:∀ b o,X.base.get? b=some o->b∉X.ex
 exfs:∀ b∈X.ex,b∉X.fs
 funs:X.s₀.heap.FunFrames X.base X.outer
 frf:∀ b∈X.fs,X.H₀ b=none
structure Inv (X:Cx) (pins:List (Addr×Obj)) (σ:List (Option V)) (H:Hp) (s:Shared):Prop where
 ok:X.Ok
 os:s.os=X.s₀.os
 bare:AllBare s.gens
 base:Un X.fs X.ex X.H₀ H X.s₀.heap s.heap
 loc:∃ m,s.heap.Ns X.env.locals m/\∀ (i:Nat) (x:Str) (v:V),X.N[i]? = some x->σ[i]? = some (some v)->Vis X.env.scope x->∃ u,RelV v u/\Look X.env s.heap m x u
 cell:∀ x c,X.env.cells.lookup x=some c->∃ v,s.heap.IsCell c v
 free:H X.env.locals=none
 freeC:∀ x c,X.env.cells.lookup x=some c->H c=none
 pin:∀ p∈X.pn++pins,s.heap.get? p.1=some p.2/\H p.1=none/\p.1≠X.env.locals/\p.1∉X.fs/\∀ v,p.2.data≠.cell v
 hok:HOk X.prog X.w H s.heap
 len:σ.length=X.N.length
 fzd:∀ f∈X.fz,H f.1=some (.frz f.2.1 f.2.2)
section
variable {X:Cx}{pins:List (Addr×Obj)}{σ:List (Option V)}{H H':Hp}{s:Shared}{h':Heap}
theorem Cx.Ok.nofr (ok:X.Ok) {b:Addr}{o:Obj}(e:X.base.get? b=some o):b∉X.fs:=fun hb=>by
 have:=(ok.funs.mem hb).1
 rw [e] at this;cases this
theorem Inv.bs (I:Inv X pins σ H s):∀ b o,X.base.get? b=some o->s.heap.get? b=some o/\H b=none:=fun b o e =>
 ⟨I.base.keep b o (I.ok.bs b o e).1 (I.ok.bs b o e).2 (I.ok.nofr e) (I.ok.noex b o e),I.base.free b o (I.ok.bs b o e).1 (I.ok.bs b o e).2 (I.ok.noex b o e)⟩
theorem Inv.bk (I:Inv X pins σ H s):∀ b o,X.base.get? b=some o->s.heap.get? b=some o:=fun b o e=>(I.bs b o e).1
theorem Inv.mod (I:Inv X pins σ H s):Mod X.K X.mg X.base:=I.ok.mod
theorem Inv.kIn (I:Inv X pins σ H s):X.K.In s.heap:=I.ok.mod.kin.keeps I.bk
theorem Inv.nolimit (I:Inv X pins σ H s):s.heap.NoLimit:=I.ok.mod.nolimit.keeps I.bk
theorem Inv.lt (I:Inv X pins σ H s):X.env.locals<s.heap.objs.size:=let ⟨_,hn,_⟩:=I.loc;hn.lt
theorem Inv.sz (I:Inv X pins σ H s):X.s₀.heap.objs.size<=s.heap.objs.size:=Nat.le_trans I.ok.above (Nat.le_of_lt I.lt)
theorem Inv.nofs (I:Inv X pins σ H s) {a:Addr}(h:s.heap.objs.size<=a):a∉X.fs:=fun hb=>by
 obtain ⟨_,o,ho,_⟩:=I.ok.funs.mem hb
 exact absurd (Nat.lt_of_lt_of_le (Heap.lt_size ho) (Nat.le_trans I.sz h)) (Nat.lt_irrefl _)
theorem Inv.cne (I:Inv X pins σ H s):∀ x c,X.env.cells.lookup x=some c->c≠X.env.locals:=fun x c e z=>by
 obtain ⟨v,o,ho,hd⟩:=I.cell x c e
 obtain ⟨m,⟨o',es,ep,ho',hd',_⟩,_⟩:=I.loc
 rw [z,ho'] at ho;cases ho;rw [hd'] at hd;cases hd
theorem Inv.funs (I:Inv X pins σ H s):s.heap.FunFrames X.base X.outer:=by
 have all:∀ (l:List Env),(∀ b∈frs l,b∈X.fs)->X.s₀.heap.FunFrames X.base l->s.heap.FunFrames X.base l:=by
  intro l
  induction l with
  | nil=>intro _ _;trivial
  | cons env r ih =>
   intro hs hl
   obtain ⟨hk,⟨L,o,hf,hn,ho,hd⟩,hr⟩:=hl
   have hL:L∈X.fs:=hs L (by unfold frs;rw [List.filterMap_cons,hf];exact List.mem_cons_self)
   obtain ⟨sl,e⟩:=I.base.slot L o ho (I.ok.frf L hL) hL fun z=>I.ok.exfs L z hL
   exact ⟨hk,⟨L,_,hf,hn,e,hd⟩,ih (fun b hb=>hs b (by unfold frs;rw [List.filterMap_cons,hf];exact List.mem_cons_of_mem _ hb)) hr⟩
 exact all X.outer (fun _ hb=>hb) I.ok.funs
theorem Inv.stack (I:Inv X pins σ H s):s.heap.FunFrames X.base X.stack:=by
 rcases I.ok.stk with e|⟨e,hf⟩
 ·rw [e];exact I.funs
 ·rw [e]
  obtain ⟨m,hn,_⟩:=I.loc
  refine .cons (by rw [I.ok.kind];decide) hf hn ?_ I.funs
  exact Heap.get?_none_of_le (Nat.le_trans I.ok.bsz I.ok.above)
theorem Inv.stkSub (I:Inv X pins σ H s):∀ b∈frs X.stack,b∈X.env.locals::X.fs:=fun b hb=>by
 rcases I.ok.stk with e|⟨e,hf⟩
 ·rw [e] at hb;exact List.mem_cons_of_mem _ hb
 ·rw [e] at hb
  unfold frs at hb
  rw [List.filterMap_cons,hf] at hb
  exact hb
theorem Inv.stkFree (I:Inv X pins σ H s):∀ b∈frs X.stack,H b=none:=fun b hb=>by
 rcases List.mem_cons.mp (I.stkSub b hb) with e|hb
 ·rw [e];exact I.free
 ·obtain ⟨_,o,ho,_⟩:=I.ok.funs.mem hb
  exact I.base.free b o ho (I.ok.frf b hb) fun z=>I.ok.exfs b z hb
theorem Inv.step {g':Array GenState}{t':Nat}{d':Drawn}{ch:List Addr}(I:Inv X pins σ H s)
  (hch:∀ b∈ch,(b∈X.ex\/X.s₀.heap.objs.size<=b)/\b≠X.env.locals/\(∀ x c,X.env.cells.lookup x=some c->c≠b)/\∀ p∈X.pn++pins,p.1≠b)
  (keep:∀ b o,b≠X.env.locals->b∉X.fs->b∉ch->s.heap.get? b=some o->H b=none->h'.get? b=some o)
  (slot:∀ b o,b≠X.env.locals->b∈X.fs->b∉ch->s.heap.get? b=some o->H b=none->∃ sl,h'.get? b=some { o with slots:=sl }) (free:∀ b o,b∉ch->s.heap.get? b=some o->H b=none->H' b=none)
  (there:∀ b o,b∉ch->s.heap.get? b=some o->∃ o',h'.get? b=some o')
  (tups:∀ b xs,H b=some (.tup xs)->H' b=some (.tup xs)) (frzs:∀ b o u,H b=some (.frz o u)->H' b=some (.frz o u)) (tbls:∀ b ps,H b=some (.tbl ps)->∃ more,H' b=some (.tbl (ps++more)))
  (ns:∀ m,s.heap.Ns X.env.locals m->h'.Ns X.env.locals m) (hok:HOk X.prog X.w H' h') (hg:AllBare g') :
  Inv X pins σ H' { s with heap:=h',gens:=g',drawn:=d',toks:=t' }:=by
 have neL:∀ b o,X.s₀.heap.get? b=some o->b≠X.env.locals:=fun b o e=>Nat.ne_of_lt (Nat.lt_of_lt_of_le (Heap.lt_size e) I.ok.above)
 have neC:∀ b o,X.s₀.heap.get? b=some o->b∉X.ex->b∉ch:=fun b o e hx hb=>by
  rcases (hch b hb).1 with z|z
  ·exact hx z
  ·exact absurd (Nat.lt_of_lt_of_le (Heap.lt_size e) z) (Nat.lt_irrefl _)
 have cellK:∀ x c,X.env.cells.lookup x=some c->∀ v,s.heap.IsCell c v->h'.IsCell c v:=fun x c e v ⟨o,ho,hd⟩=>by
  have nch:c∉ch:=fun z=>(hch c z).2.2.1 x c e rfl
  by_cases hc:c∈X.fs
  ·obtain ⟨sl,q⟩:=slot c o (I.cne x c e) hc nch ho (I.freeC x c e)
   exact ⟨_,q,hd⟩
  ·exact ⟨o,keep c o (I.cne x c e) hc nch ho (I.freeC x c e),hd⟩
 refine ⟨I.ok,I.os,hg,⟨fun b o e n hb hx=>?_,fun b o e n hb hx=>?_,fun b o e n hx=>?_,fun b o e hx=>?_,fun b xs e=>tups b xs (I.base.tups b xs e),fun b o xs e=>frzs b o xs (I.base.frzs b o xs e),fun b ps e=>?_⟩,?_,fun x c e=>?_,?_,fun x c e=>?_,fun p hp=>?_,hok,I.len,fun f hf=>frzs f.1 f.2.1 f.2.2 (I.fzd f hf)⟩
 ·exact keep b o (neL b o e) hb (neC b o e hx) (I.base.keep b o e n hb hx) (I.base.free b o e n hx)
 ·obtain ⟨sl,e1⟩:=I.base.slot b o e n hb hx
  obtain ⟨sl',e2⟩:=slot b _ (neL b o e) hb (neC b o e hx) e1 (I.base.free b o e n hx)
  exact ⟨sl',e2⟩
 ·obtain ⟨o',e1⟩:=I.base.there b o e hx
  exact free b o' (neC b o e hx) e1 (I.base.free b o e n hx)
 ·obtain ⟨o',e1⟩:=I.base.there b o e hx
  exact there b o' (neC b o e hx) e1
 ·obtain ⟨m1,e1⟩:=I.base.tbls b ps e
  obtain ⟨m2,e2⟩:=tbls b _ e1
  exact ⟨m1++m2,by rw [e2,Array.append_assoc]⟩
 ·obtain ⟨m,hn,hl⟩:=I.loc
  refine ⟨m,ns m hn,fun i x v e1 e2 e3=>?_⟩
  obtain ⟨u,r,l⟩:=hl i x v e1 e2 e3
  refine ⟨u,r,?_⟩
  rcases l with l|⟨k,c,e,z⟩
  ·exact .inl l
  ·exact .inr ⟨k,c,e,cellK x c e _ z⟩
 ·obtain ⟨v,z⟩:=I.cell x c e
  exact ⟨v,cellK x c e v z⟩
 ·obtain ⟨m,⟨o,_,_,ho,_⟩,_⟩:=I.loc
  exact free _ o (fun z=>(hch _ z).2.1 rfl) ho I.free
 ·obtain ⟨v,o,ho,hd⟩:=I.cell x c e
  exact free c o (fun z=>(hch c z).2.2.1 x c e rfl) ho (I.freeC x c e)
 ·obtain ⟨e,n,ne,nf,d⟩:=I.pin p hp
  have nch:p.1∉ch:=fun z=>(hch p.1 z).2.2.2 p hp rfl
  exact ⟨keep p.1 p.2 ne nf nch e n,free p.1 p.2 nch e n,ne,nf,d⟩
theorem Inv.un {t':Nat}(I:Inv X pins σ H s) (u:Un X.fs [] H H' s.heap h') (hok:HOk X.prog X.w H' h'):Inv X pins σ H' { s with heap:=h',toks:=t' }:=by
 obtain ⟨m,⟨o,es,ep,ho,r⟩,_⟩:=id I.loc
 obtain ⟨sl,hL⟩:=u.any ho I.free (by simp)
 exact I.step (g':=s.gens) (d':=s.drawn) (ch:=[]) (fun _ z=>nomatch z) (fun b o _ hb _ e n=>u.keep b o e n hb (by simp)) (fun b o _ hb _ e n=>u.slot b o e n hb (by simp)) (fun b o _ e n=>u.free b o e n (by simp)) (fun b o _ e=>u.there b o e (by simp)) u.tups u.frzs u.tbls (fun m' hm=>by
  obtain ⟨o',es',ep',ho',r'⟩:=hm
  rw [ho] at ho';cases ho'
  exact ⟨_,es',ep',hL,r'⟩) hok I.bare
theorem Inv.call {g':Array GenState}{t':Nat}{d':Drawn}{ch:List Addr}(I:Inv X pins σ H s) (u:Un (frs X.stack) ch H H' s.heap h') (hok:HOk X.prog X.w H' h') (hg:AllBare g')
  (hch:∀ b∈ch,(b∈X.ex\/X.s₀.heap.objs.size<=b)/\b≠X.env.locals/\(∀ x c,X.env.cells.lookup x=some c->c≠b)/\∀ p∈X.pn++pins,p.1≠b) :
  Inv X pins σ H' { s with heap:=h',gens:=g',drawn:=d',toks:=t' }:=by
 obtain ⟨m,⟨o,es,ep,ho,r⟩,_⟩:=id I.loc
 obtain ⟨sl,hL⟩:=u.any ho I.free fun z=>(hch _ z).2.1 rfl
 exact I.step (ch:=ch) hch (fun b o hL hb hc e n=>u.keep b o e n (fun z=>(List.mem_cons.mp (I.stkSub b z)).elim hL hb) hc) (fun b o _ _ hc e n=>u.any e n hc) (fun b o hc e n=>u.free b o e n hc) (fun b o hc e=>u.there b o e hc) u.tups u.frzs u.tbls (fun m' hm=>by
  obtain ⟨o',es',ep',ho',r'⟩:=hm
  rw [ho] at ho';cases ho'
  exact ⟨_,es',ep',hL,r'⟩) hok hg
theorem Inv.turned {t':Nat}{it:Addr}(I:Inv X pins σ H s) (k:∀ b o,b≠it->s.heap.get? b=some o->h'.get? b=some o) (hn:H it=none) (hL:it≠X.env.locals)
  (h1:it∈X.ex\/X.s₀.heap.objs.size<=it) (h2:∀ x c,X.env.cells.lookup x=some c->c≠it) (h3:∀ p∈X.pn++pins,p.1≠it):Inv X pins σ H { s with heap:=h',toks:=t' }:=by
 have nit:∀ b u,H b=some u->b≠it:=fun b u e z=>by rw [z,hn] at e;cases e
 refine I.step (g':=s.gens) (d':=s.drawn) (ch:=[it]) (fun b hb=>?_) (fun b o _ _ hc e _=>k b o (fun z=>hc (by simp [z])) e) (fun b o _ _ hc e _=>⟨o.slots,k b o (fun z=>hc (by simp [z])) e⟩) (fun _ _ _ _ n=>n)
  (fun b o hc e=>⟨o,k b o (fun z=>hc (by simp [z])) e⟩) (fun _ _ e=>e) (fun _ _ _ e=>e) (fun b ps e=>⟨#[],by rw [e];simp⟩) (fun m hm=>?_) (fun b u e=>?_) I.bare
 ·have e:b=it:=by simpa using hb
  subst e
  exact ⟨h1,hL,h2,h3⟩
 ·obtain ⟨o,es,ep,ho,r⟩:=hm
  exact ⟨o,es,ep,k _ o (Ne.symm hL) ho,r⟩
 ·refine (I.hok b u e).stay (fun c v hc q=>k c v ?_ q) (fun _ q=>q) fun _ _ q=>q
  rcases hc with z|z
  ·rw [z];exact nit b u e
  ·exact nit c _ z
theorem Inv.tok (I:Inv X pins σ H s) (t:Nat):Inv X pins σ H { s with toks:=t }:=I.un (h':=s.heap) (t':=t) Un.refl I.hok
theorem Inv.kept {t':Nat}(I:Inv X pins σ H s) (k:∀ b u,s.heap.get? b=some u->h'.get? b=some u):Inv X pins σ H { s with heap:=h',toks:=t' }:=I.un (Un.kept k) (I.hok.kept k)
theorem Inv.laid {a:Addr}{o:HO}{t':Nat}(I:Inv X pins σ H s) (k:∀ b u,s.heap.get? b=some u->h'.get? b=some u) (hp:s.heap.objs.size<=a) (new:ObjOk X.prog X.w (upd H a o) h' a o) :
  Inv X pins σ (upd H a o) { s with heap:=h',toks:=t' }:=I.un (Un.laid k hp (I.hok.fresh hp)) (I.hok.laid k hp new)
theorem Inv.write {x e:Addr}{o:HO}{t':Nat}(I:Inv X pins σ H s) (mu:Mut (H x)) (he:e=x\/H e=some (.own x)) (k:∀ b u,b≠e->s.heap.get? b=some u->h'.get? b=some u) (heo:∃ u,h'.get? e=some u)
  (new:ObjOk X.prog X.w (upd H x o) h' x o):Inv X pins σ (upd H x o) { s with heap:=h',toks:=t' }:=I.un (Un.write mu he k heo) (I.hok.write mu he k heo new)
theorem Inv.pins_of {pins':List (Addr×Obj)}(I:Inv X pins σ H s) (h:∀ p∈pins',s.heap.get? p.1=some p.2/\H p.1=none/\p.1≠X.env.locals/\p.1∉X.fs/\∀ v,p.2.data≠.cell v):Inv X pins' σ H s :=
 ⟨I.ok,I.os,I.bare,I.base,I.loc,I.cell,I.free,I.freeC,fun p hp=>(List.mem_append.mp hp).elim (fun z=>I.pin p (List.mem_append_left _ z)) (h p),I.hok,I.len,I.fzd⟩
theorem nodup_ix {N:List Str}(hN:N.Nodup) {i j:Nat}{x:Str}(a:N[i]? = some x) (b:N[j]? = some x):i=j:=by
 obtain ⟨h1,e1⟩:=List.getElem?_eq_some_iff.mp a
 obtain ⟨h2,e2⟩:=List.getElem?_eq_some_iff.mp b
 exact (List.getElem_inj hN).mp (e1.trans e2.symm)
theorem store_ok2 {M:Model}{A:Around}{E:Value->Shared->Prop}{i:Nat}{x:Str}{v:V}{u:Value}{Q:Unit->Shared->Prop}(I:Inv X pins σ H s) (hN:X.N.Nodup) (hi:X.N[i]? = some x) (hx:Loc X.env.scope x) (r:RelV v u)
  (h:∀ s',Inv X pins (σ.set i (some v)) H s'->(∃ a,Heap.SameBut a s.heap s'.heap/\(a=X.env.locals\/X.env.cells.lookup x=some a))->Q () s') (hf:X.fn x=true\/X.env.scope.names.lookup x=some .local:=by first | exact .inl rfl | exact .inr rfl | assumption):wpAny M A (storeName X.env x u) Q E s:=by
 obtain ⟨m,hn,hl⟩:=id I.loc
 have hcls:(X.env.scope.kind == .class || (X.env.scope.kind == .module && X.env.locals != X.env.globals))=false:=by rw [I.ok.kind];rfl
 have hiσ:i<σ.length:=by rw [I.len];exact (List.getElem?_eq_some_iff.mp hi).1
 have cne:=I.cne
 have tracked:∀ {a:Addr} {h':Heap},(∃ o,s.heap.get? a=some o/\H a=none)->Heap.SameBut a s.heap h'->HOk X.prog X.w H h':=fun {a h'} ha hs b ob e=>by
  obtain ⟨_,_,hfree⟩:=ha
  refine (I.hok b ob e).stay (fun c w' hc q=>(hs.2 c ?_).trans q) (fun _ q=>q) fun _ _ q=>q
  rintro rfl
  rcases hc with rfl|hc
  ·rw [hfree] at e;cases e
  ·rw [hfree] at hc;cases hc
 rcases hx with hk|hk
 ·refine wpAny_storeName_local hk hn (fun h' hn' hs=>?_) hcls
  obtain ⟨oL,_,_,hoL,_⟩:=id hn
  refine h _ ⟨I.ok,I.os,I.bare,⟨fun b o e n hb hx=>?_,fun b o e n hb hx=>?_,I.base.free,fun b o e hx=>?_,I.base.tups,I.base.frzs,I.base.tbls⟩,⟨_,hn',fun j y v' e1 e2 e3=>?_⟩,fun y c e=>?_,I.free,I.freeC,fun p hp=>?_,tracked ⟨oL,hoL,I.free⟩ hs,by simpa using I.len,I.fzd⟩ ⟨_,hs,.inl rfl⟩
  ·exact (hs.2 b (Nat.ne_of_lt (Nat.lt_of_lt_of_le (Heap.lt_size e) I.ok.above))).trans (I.base.keep b o e n hb hx)
  ·obtain ⟨sl,e1⟩:=I.base.slot b o e n hb hx
   exact ⟨sl,(hs.2 b (Nat.ne_of_lt (Nat.lt_of_lt_of_le (Heap.lt_size e) I.ok.above))).trans e1⟩
  ·obtain ⟨o',e1⟩:=I.base.there b o e hx
   exact ⟨o',(hs.2 b (Nat.ne_of_lt (Nat.lt_of_lt_of_le (Heap.lt_size e) I.ok.above))).trans e1⟩
  ·by_cases hj:j=i
   ·subst hj
    rw [hi] at e1;cases e1
    rw [List.getElem?_set_self hiσ] at e2
    cases e2
    exact ⟨u,r,.inl ⟨hk,by simp⟩⟩
   ·rw [List.getElem?_set_ne (Ne.symm hj)] at e2
    obtain ⟨u',r',q⟩:=hl j y v' e1 e2 e3
    refine ⟨u',r',?_⟩
    rcases q with ⟨k,e⟩|⟨k,c,e,z⟩
    ·refine .inl ⟨k,?_⟩
     have:y≠x:=fun e=>hj (nodup_ix hN e1 (e ▸ hi))
     simp [this,e]
    ·exact .inr ⟨k,c,e,z.sameBut hs (cne y c e)⟩
  ·obtain ⟨w',z⟩:=I.cell y c e
   exact ⟨w',z.sameBut hs (cne y c e)⟩
  ·obtain ⟨e,n,ne,nf,d⟩:=I.pin p hp
   exact ⟨(hs.2 p.1 ne).trans e,n,ne,nf,d⟩
 ·have hfn:X.fn x=true:=by
   rcases hf with z|z
   ·exact z
   ·rw [z] at hk;cases hk
  obtain ⟨c,hc⟩:=I.ok.has x (.inl hk)
  obtain ⟨w',z⟩:=I.cell x c hc
  refine wpAny_storeName_cell I.ok.kind hk hc z (fun h' hc' hs=>?_)
  obtain ⟨oc,hoc,hocd⟩:=id z
  refine h { s with heap:=h' } ⟨I.ok,I.os,I.bare,⟨fun b o e n hb hx=>?_,fun b o e n hb hx=>?_,I.base.free,fun b o e hx=>?_,I.base.tups,I.base.frzs,I.base.tbls⟩,⟨m,hn.sameBut hs (Ne.symm (cne x c hc)),fun j y v' e1 e2 e3=>?_⟩,fun y c' e=>?_,I.free,I.freeC,fun p hp=>?_,tracked ⟨oc,hoc,I.freeC x c hc⟩ hs,by simpa using I.len,I.fzd⟩ ⟨c,hs,.inr hc⟩
  ·exact (hs.2 b (Nat.ne_of_lt (Nat.lt_of_lt_of_le (Heap.lt_size e) (I.ok.cab x c hfn hc)))).trans (I.base.keep b o e n hb hx)
  ·obtain ⟨sl,e1⟩:=I.base.slot b o e n hb hx
   exact ⟨sl,(hs.2 b (Nat.ne_of_lt (Nat.lt_of_lt_of_le (Heap.lt_size e) (I.ok.cab x c hfn hc)))).trans e1⟩
  ·obtain ⟨o',e1⟩:=I.base.there b o e hx
   exact ⟨o',(hs.2 b (Nat.ne_of_lt (Nat.lt_of_lt_of_le (Heap.lt_size e) (I.ok.cab x c hfn hc)))).trans e1⟩
  ·by_cases hj:j=i
   ·subst hj
    rw [hi] at e1;cases e1
    rw [List.getElem?_set_self hiσ] at e2
    cases e2
    exact ⟨u,r,.inr ⟨.inl hk,c,hc,hc'⟩⟩
   ·rw [List.getElem?_set_ne (Ne.symm hj)] at e2
    obtain ⟨u',r',q⟩:=hl j y v' e1 e2 e3
    refine ⟨u',r',?_⟩
    rcases q with q|⟨k,c',e,z'⟩
    ·exact .inl q
    ·refine .inr ⟨k,c',e,z'.sameBut hs ?_⟩
     rintro rfl
     exact hj (nodup_ix hN e1 (I.ok.inj _ _ _ e hc ▸ hi))
  ·by_cases hcc:c'=c
   ·subst hcc;exact ⟨_,hc'⟩
   ·obtain ⟨w2,z2⟩:=I.cell y c' e
    exact ⟨w2,z2.sameBut hs hcc⟩
  ·obtain ⟨e,n,ne,nf,d⟩:=I.pin p hp
   refine ⟨(hs.2 p.1 ?_).trans e,n,ne,nf,d⟩
   intro q
   rw [q,hoc] at e
   have q':oc=p.2:=Option.some.inj e
   exact d w' (by rw [<- q'];exact hocd)
theorem store_ok {M:Model}{A:Around}{E:Value->Shared->Prop}{i:Nat}{x:Str}{v:V}{u:Value}{Q:Unit->Shared->Prop}(I:Inv X pins σ H s) (hN:X.N.Nodup) (hi:X.N[i]? = some x) (hx:Loc X.env.scope x) (r:RelV v u)
  (h:∀ s',Inv X pins (σ.set i (some v)) H s'->Q () s') (hf:X.fn x=true\/X.env.scope.names.lookup x=some .local:=by first | exact .inl rfl | exact .inr rfl | assumption):wpAny M A (storeName X.env x u) Q E s :=
 store_ok2 I hN hi hx r (fun s' I' _=>h s' I') hf
end
abbrev XK:=Value->Option Addr->Hp->Prop
abbrev St:=List (Option V)
abbrev VK:=V->Hp->Prop
abbrev TE:=St->Hp->VK->Prop
abbrev TT:=St->Hp->(Bool->Hp->Prop)->Prop
abbrev TA:=St->Hp->(List V->Hp->Prop)->Prop
structure Ends where
 nx:St->Hp->Prop
 rt:VK
 bk:St->Hp->Prop:=fun _ _=>False
 ct:St->Hp->Prop:=fun _ _=>False
abbrev TS:=Ends->St->Hp->Prop
def EP (X:Cx) (pins:List (Addr×Obj)) (σ:St) (Q:VK) (u:Value) (s':Shared):Prop:=∃ v H',Inv X pins σ H' s'/\RelV v u/\Q v H'
def TP (X:Cx) (pins:List (Addr×Obj)) (σ:St) (Q:Bool->Hp->Prop) (b:Bool) (s':Shared):Prop:=∃ H',Inv X pins σ H' s'/\Q b H'
def AP (X:Cx) (pins:List (Addr×Obj)) (σ:St) (Q:List V->Hp->Prop) (us:List Value) (s':Shared):Prop:=∃ vs H',Inv X pins σ H' s'/\Vals vs us/\Q vs H'
def SP (X:Cx) (pins:List (Addr×Obj)) (D:Ends) (f:Flow) (s':Shared):Prop :=
 match f with
 | .next=>∃ σ' H',Inv X pins σ' H' s'/\D.nx σ' H'
 | .brk=>∃ σ' H',Inv X pins σ' H' s'/\D.bk σ' H'
 | .cont=>∃ σ' H',Inv X pins σ' H' s'/\D.ct σ' H'
 | .ret u=>∃ v σ' H',Inv X pins σ' H' s'/\RelV v u/\D.rt v H'
def PE (X:Cx) (e:Expr) (t:TE):Prop :=
 ∀ (pins:List (Addr×Obj)) (s:Shared) (σ:St) (H:Hp) (Q:VK),Inv X pins σ H s->t σ H Q->wpAny (model X.prog X.w) X.A (eval e X.env) (EP X pins σ Q) X.xe s
def PT (X:Cx) (e:Expr) (t:TT):Prop :=
 ∀ (pins:List (Addr×Obj)) (s:Shared) (σ:St) (H:Hp) (Q:Bool->Hp->Prop),Inv X pins σ H s->t σ H Q->wpAny (model X.prog X.w) X.A (isTrue e X.env (eval e X.env)) (TP X pins σ Q) X.xe s
def PW (X:Cx) (e:Expr) (t:TT):Prop :=
 ∀ (whole:Sem Value) (pins:List (Addr×Obj)) (s:Shared) (σ:St) (H:Hp) (Q:Bool->Hp->Prop),Inv X pins σ H s->t σ H Q->wpAny (model X.prog X.w) X.A (isTrue e X.env whole) (TP X pins σ Q) X.xe s
theorem PW.pt {X:Cx}{e:Expr}{t:TT}(h:PW X e t):PT X e t:=h _
def PA (X:Cx) (es:List Expr) (t:TA):Prop :=
 ∀ (pos:Pos) (pins:List (Addr×Obj)) (s:Shared) (σ:St) (H:Hp) (Q:List V->Hp->Prop),Inv X pins σ H s->t σ H Q->wpAny (model X.prog X.w) X.A (spliced (backTo pos (starEach es X.env))) (AP X pins σ Q) X.xe s
def PS (X:Cx) (st:Stmt) (t:TS):Prop :=
 ∀ (pins:List (Addr×Obj)) (s:Shared) (σ:St) (H:Hp) (D:Ends),Inv X pins σ H s->t D σ H->wpAny (model X.prog X.w) X.A (exec st X.env) (SP X pins D) X.xe s
def PSs (X:Cx) (st:List Stmt) (t:TS):Prop :=
 ∀ (pins:List (Addr×Obj)) (s:Shared) (σ:St) (H:Hp) (D:Ends),Inv X pins σ H s->t D σ H->wpAny (model X.prog X.w) X.A (execs st X.env) (SP X pins D) X.xe s
theorem thn {α:Type}{t:Sem α}{Q Q':α->Shared->Prop}{M:Model}{A:Around}{E:Value->Shared->Prop}{s:Shared}(h:wpAny M A t Q E s) (hQ:∀ a s,Q a s->Q' a s):wpAny M A t Q' E s:=wpAny_mono h hQ fun _ _ x=>x
section
variable {X:Cx}
def tVar (i:Nat):TE:=fun σ H Q=>∃ v,σ[i]? = some (some v)/\Q v H
def tC (v:V):TE:=fun _ H Q=>Q v H
theorem pe_var {i:Nat}{x:Str}{pos:Pos}(hN:X.N[i]? = some x) (hv:Vis X.env.scope x) (hd:(x == ("__debug__":Str))=false:=by decide) (hcd:(x == ("__classdict__":Str))=false:=by decide):PE X (.Name x pos) (tVar i):=by
 intro pins s σ H Q I h
 obtain ⟨v,e,h⟩:=h
 obtain ⟨m,hn,hl⟩:=I.loc
 obtain ⟨u,r,l⟩:=hl i x v hN e hv
 have fin:EP X pins σ Q u s:=⟨v,H,I,r,h⟩
 rcases l with ⟨hk,hm⟩|⟨hk,c,hc,hcell⟩
 ·exact wpAny_Name (wpAny_loadName_local I.ok.kind hk hn hm fin) hd
 ·rcases hk with hk|hk
  ·exact wpAny_Name (wpAny_loadName_cell I.ok.kind hk hc hcell fin) hd
  ·exact wpAny_Name (wpAny_loadName_free I.ok.kind hk hc hcell fin hcd) hd
theorem pe_int {i j pos}:PE X (.Constant (.int i) j pos) (tC (.int i)):=fun _ _ _ H _ I h=>wpAny_Constant_int ⟨.int i,H,I.tok _,⟨_,rfl⟩,h⟩
theorem pe_bl {b j pos}:PE X (.Constant (.bool b) j pos) (tC (.bl b)):=fun _ _ _ H _ I h=>Constant_bool ⟨.bl b,H,I,rfl,h⟩
theorem pe_str {x j pos}:PE X (.Constant (.str x) j pos) (tC (.str x)):=fun _ _ _ H _ I h=>Calls.Constant_str ⟨.str x,H,I.tok _,⟨_,rfl⟩,h⟩
def Gl (X:Cx) (x:Str):Prop:=X.env.kindOf x=some .globalImplicit
theorem ld_glob {E:Value->Shared->Prop}{pins:List (Addr×Obj)}{s:Shared}{σ:St}{H:Hp}{x:Str}{u:Value}{pos:Pos}{Q:Value->Shared->Prop}(I:Inv X pins σ H s) (hg:Gl X x) (hm:X.mg x=some u) (h:Q u s)
  (hd:(x == ("__debug__":Str))=false:=by decide):wpAny (model X.prog X.w) X.A (eval (.Name x pos) X.env) Q E s :=
 Calls.Name_function_global I.ok.kind hg (Calls.loadGlobal_global (by rw [I.ok.glob];exact I.mod.glob.keeps I.bk) hm h) hd
theorem ld_blt {E:Value->Shared->Prop}{pins:List (Addr×Obj)}{s:Shared}{σ:St}{H:Hp}{x:Str}{u:Value}{pos:Pos}{Q:Value->Shared->Prop}(I:Inv X pins σ H s) (hg:Gl X x) (hm:X.mg x=none) (hv:bootBuiltins x=some u) (h:Q u s)
  (hn:x≠"__name__":=by decide) (hd:(x == ("__debug__":Str))=false:=by decide):wpAny (model X.prog X.w) X.A (eval (.Name x pos) X.env) Q E s:=by
 obtain ⟨mb,h1,h2⟩:=I.mod.blt
 exact Calls.Name_function_global I.ok.kind hg (Calls.loadGlobal_builtin (by rw [I.ok.glob];exact I.mod.glob.keeps I.bk) hm (by rw [I.ok.blt];exact h1.keeps I.bk) ((h2 x hn).trans hv) h) hd
theorem pe_bltn {x:Str}{v:V}{u:Value}{pos:Pos}(hg:Gl X x) (hm:X.mg x=none) (hv:bootBuiltins x=some u) (r:RelV v u) (hn:x≠"__name__":=by decide) (hd:(x == ("__debug__":Str))=false:=by decide):PE X (.Name x pos) (tC v) :=
 fun _ _ _ H _ I h=>ld_blt I hg hm hv ⟨v,H,I,r,h⟩ hn hd
variable {a b:Expr}{ta tb:TE}{pos:Pos}
def tB (t:TE):TT:=fun σ H Q=>t σ H fun x H1=>∃ c,x=.bl c/\Q c H1
theorem pt_val {e:Expr}{t:TE}(h:PE X e t) (he:∀ whole,isTrue e X.env whole=(do let v <- whole;standAt e.pos;holding [v] (truthy v)):=by intro _;rfl):PT X e (tB t):=by
 intro pins s σ H Q I hw
 refine isTrue_plain (thn (h pins s σ H _ I hw) fun v s1 ⟨x,H1,I1,r1,q1⟩=>?_) (he _)
 obtain ⟨d,rfl,q⟩:=q1
 cases r1
 exact wpAny_truthy_bool ⟨H1,I1,q⟩
variable {tA tB':TT}{rest:List Expr}
def tAnd (t u:TT):TT:=fun σ H Q=>t σ H fun c H1=>if c=true then u σ H1 Q else Q false H1
def tOr (t u:TT):TT:=fun σ H Q=>t σ H fun c H1=>if c=true then Q true H1 else u σ H1 Q
def tNot (t:TT):TT:=fun σ H Q=>t σ H fun c H1=>Q (!c) H1
theorem pw_and1 (ha:PT X a tA):PW X (.BoolOp .And [a] pos) tA:=by
 intro wh pins s σ H Q I h
 refine isTrue_and (thn (ha pins s σ H Q I h) fun c s1 e=>?_)
 cases c with
 | true=>exact isTrue_and_nil e
 | false=>exact e
theorem pw_or1 (ha:PT X a tA):PW X (.BoolOp .Or [a] pos) tA:=by
 intro wh pins s σ H Q I h
 refine isTrue_or (thn (ha pins s σ H Q I h) fun c s1 e=>?_)
 cases c with
 | false=>exact isTrue_or_nil e
 | true=>exact e
theorem pw_and (ha:PT X a tA) (hb:PW X (.BoolOp .And (b::rest) pos) tB'):PW X (.BoolOp .And (a::b::rest) pos) (tAnd tA tB'):=by
 intro wh pins s σ H Q I h
 refine isTrue_and (thn (ha pins s σ H _ I h) fun c s1 ⟨H1,I1,q1⟩=>?_)
 cases c with
 | true=>exact hb wh pins s1 σ H1 Q I1 q1
 | false=>exact ⟨H1,I1,q1⟩
theorem pw_or (ha:PT X a tA) (hb:PW X (.BoolOp .Or (b::rest) pos) tB'):PW X (.BoolOp .Or (a::b::rest) pos) (tOr tA tB'):=by
 intro wh pins s σ H Q I h
 refine isTrue_or (thn (ha pins s σ H _ I h) fun c s1 ⟨H1,I1,q1⟩=>?_)
 cases c with
 | true=>exact ⟨H1,I1,q1⟩
 | false=>exact hb wh pins s1 σ H1 Q I1 q1
theorem pt_not (ha:PT X a tA):PT X (.UnaryOp .Not a pos) (tNot tA):=by
 intro pins s σ H Q I h
 exact isTrue_not (ha pins s σ H (fun c H1=>Q (!c) H1) I h)
end
def SqL (K:PySem.W.Frag) (H:Hp) (a:Addr) (xs:List V):Prop :=
 Rd H a (.lst xs) \/
  ∃ (o:Obj) (its:Array Value) (n:Nat),K.lookup a=some o/\o.cls=.type "list"/\o.dict=none/\o.data=.seq its n/\its.size<=sizeLine/\Vals xs its.toList
def SqT (K:PySem.W.Frag) (H:Hp) (a:Addr) (xs:List V):Prop :=
 Rd H a (.tup xs) \/
  ∃ (o:Obj) (its:Array Value) (n:Nat),K.lookup a=some o/\o.cls=.type "tuple"/\o.data=.seq its n/\its.size<=sizeLine/\Vals xs its.toList
def absV:Value->Option V
 | .none=>some .non
 | .bool b=>some (.bl b)
 | .int i _=>some (.int i)
 | .str x _=>some (.str x)
 | .bytes b _=>some (.byt b)
 | .float b _=>some (.flt b)
 | .ref a=>some (.ref a)
 | .type n=>some (.ty n)
 | _=>none
theorem RelV.abs {x:V}{u:Value}(r:RelV x u):absV u=some x:=by
 cases x with
 | non=>cases r;rfl
 | bl _=>cases r;rfl
 | int _=>obtain ⟨t,rfl⟩:=r;rfl
 | str _=>obtain ⟨t,rfl⟩:=r;rfl
 | byt _=>obtain ⟨t,rfl⟩:=r;rfl
 | flt _=>obtain ⟨t,rfl⟩:=r;rfl
 | ref _=>cases r;rfl
 | ty _=>cases r;rfl
theorem RelV.inj {x y:V}{u:Value}(r:RelV x u) (q:RelV y u):x=y:=Option.some.inj (r.abs.symm.trans q.abs)
theorem Vals.inj:∀ {xs ys:List V}{us:List Value},Vals xs us->Vals ys us->xs=ys
 | _,_,_,.nil,.nil=>rfl
 | _,_,_,.cons r t,.cons r' t'=>by rw [r.inj r',Vals.inj t t']
section
variable {X:Cx}{pins:List (Addr×Obj)}{σ:St}{H:Hp}{s:Shared}{a:Addr}{xs ys:List V}
theorem SqL.of {K:PySem.W.Frag}(h:H a=some (.lst xs)):SqL K H a xs:=.inl (.inl h)
theorem SqT.of {K:PySem.W.Frag}(h:H a=some (.tup xs)):SqT K H a xs:=.inl (.inl h)
theorem Inv.list (I:Inv X pins σ H s) (h:SqL X.K H a xs):∃ its:List Value,Vals xs its/\PlainL s.heap a its.toArray/\xs.length<=sizeLine:=by
 rcases h with h|⟨o,its,n,hk,hc,hd,hs,hz,r⟩
 ·obtain ⟨z,its,n,r,e⟩:=h.ok I.hok
  exact ⟨its,r,⟨_,n,e,rfl,rfl,rfl⟩,z⟩
 ·refine ⟨its.toList,r,⟨o,n,I.kIn a o hk,hc,hd,by simpa using hs⟩,?_⟩
  have e:=r.length
  simp only [Array.length_toList] at e
  omega
theorem Inv.tuple (I:Inv X pins σ H s) (h:SqT X.K H a xs):∃ its:List Value,Vals xs its/\IsTup s.heap a its.toArray/\xs.length<=sizeLine:=by
 rcases h with h|⟨o,its,n,hk,hc,hs,hz,r⟩
 ·obtain ⟨z,its,r,p⟩:=h.ok I.hok
  exact ⟨its,r,p,z⟩
 ·refine ⟨its.toList,r,⟨o,I.kIn a o hk,hc,n,by simpa using hs⟩,?_⟩
  have e:=r.length
  simp only [Array.length_toList] at e
  omega
theorem Inv.list_inj (I:Inv X pins σ H s) (h:SqL X.K H a xs) (h':SqL X.K H a ys):xs=ys:=by
 obtain ⟨its,r,⟨o,n,e,_,_,d⟩,_⟩:=I.list h
 obtain ⟨its',r',⟨o',n',e',_,_,d'⟩,_⟩:=I.list h'
 rw [e] at e';cases e'
 rw [d] at d'
 injection d' with d1 _
 have:its=its':=by simpa using congrArg Array.toList d1
 subst this
 exact r.inj r'
theorem Inv.tuple_inj (I:Inv X pins σ H s) (h:SqT X.K H a xs) (h':SqT X.K H a ys):xs=ys:=by
 obtain ⟨its,r,⟨o,e,_,n,d⟩,_⟩:=I.tuple h
 obtain ⟨its',r',⟨o',e',_,n',d'⟩,_⟩:=I.tuple h'
 rw [e] at e';cases e'
 rw [d] at d'
 injection d' with d1 _
 have:its=its':=by simpa using congrArg Array.toList d1
 subst this
 exact r.inj r'
end
abbrev Cx.wish (X:Cx) (E:Value->Shared->Prop):Cx:={ X with xe:=E }
abbrev Cx.nox (X:Cx):Cx:=X.wish fun _ _=>False
theorem Cx.Ok.wish {X:Cx}(ok:X.Ok) (E:Value->Shared->Prop):(X.wish E).Ok :=
 ⟨ok.mod,ok.kind,ok.glob,ok.blt,ok.above,ok.inj,ok.has,ok.cab,ok.hd,ok.frames,ok.stk,ok.exf,ok.bs,ok.bsz,ok.noex,ok.exfs,ok.funs,ok.frf⟩
theorem Cx.Ok.unwish {X:Cx}{E:Value->Shared->Prop}(ok:(X.wish E).Ok):X.Ok :=
 ⟨ok.mod,ok.kind,ok.glob,ok.blt,ok.above,ok.inj,ok.has,ok.cab,ok.hd,ok.frames,ok.stk,ok.exf,ok.bs,ok.bsz,ok.noex,ok.exfs,ok.funs,ok.frf⟩
section
variable {X:Cx}{pins:List (Addr×Obj)}{σ:St}{H:Hp}{s:Shared}{E:Value->Shared->Prop}
theorem Inv.wish (I:Inv X pins σ H s) (E:Value->Shared->Prop):Inv (X.wish E) pins σ H s:=⟨I.ok.wish E,I.os,I.bare,I.base,I.loc,I.cell,I.free,I.freeC,I.pin,I.hok,I.len,I.fzd⟩
theorem Inv.unwish (I:Inv (X.wish E) pins σ H s):Inv X pins σ H s:=⟨I.ok.unwish,I.os,I.bare,I.base,I.loc,I.cell,I.free,I.freeC,I.pin,I.hok,I.len,I.fzd⟩
theorem SP.unwish {D:Ends}{f:Flow}{s':Shared}(h:SP (X.wish E) pins D f s'):SP X pins D f s':=by
 cases f with
 | next=>obtain ⟨σ',H',I,q⟩:=h;exact ⟨σ',H',I.unwish,q⟩
 | brk=>obtain ⟨σ',H',I,q⟩:=h;exact ⟨σ',H',I.unwish,q⟩
 | cont=>obtain ⟨σ',H',I,q⟩:=h;exact ⟨σ',H',I.unwish,q⟩
 | ret u=>obtain ⟨v,σ',H',I,r,q⟩:=h;exact ⟨v,σ',H',I.unwish,r,q⟩
theorem PE.nox {e:Expr}{t:TE}(h:PE X.nox e t):PE X e t:=fun pins s σ H Q I hw =>
 wpAny_mono (h pins s σ H Q (I.wish _) hw) (fun _ _ ⟨v,H',I',r,q⟩=>⟨v,H',I'.unwish,r,q⟩) fun _ _ z=>False.elim z
theorem PT.nox {e:Expr}{t:TT}(h:PT X.nox e t):PT X e t:=fun pins s σ H Q I hw =>
 wpAny_mono (h pins s σ H Q (I.wish _) hw) (fun _ _ ⟨H',I',q⟩=>⟨H',I'.unwish,q⟩) fun _ _ z=>False.elim z
theorem PSs.nox {st:List Stmt}{t:TS}(h:PSs X.nox st t):PSs X st t:=fun pins s σ H D I hw =>
 wpAny_mono (h pins s σ H D (I.wish _) hw) (fun _ _ q=>q.unwish) fun _ _ z=>False.elim z
end
section
variable {X:Cx}{st:Stmt}{rest:List Stmt}{t u:TS}{e:Expr}{te:TE}{pos:Pos}
def tNext:TS:=fun D σ H=>D.nx σ H
def tSeq (t u:TS):TS:=fun D σ H=>t { D with nx:=u D } σ H
theorem pss_nil:PSs X [] tNext:=fun _ _ σ H _ I h=>wpAny_execs_nil ⟨σ,H,I,h⟩
theorem pss_cons (h1:PS X st t) (h2:PSs X rest u):PSs X (st::rest) (tSeq t u):=by
 intro pins s σ H D I h
 refine wpAny_execs_cons (thn (h1 pins s σ H { D with nx:=u D } I h) fun f s1 q=>?_)
 cases f with
 | next =>
  obtain ⟨σ',H',I',q⟩:=q
  exact h2 pins s1 σ' H' D I' q
 | ret v=>exact q
 | brk=>exact q
 | cont=>exact q
theorem pss_one (h1:PS X st t):PSs X [st] t:=by
 intro pins s σ H D I h
 refine wpAny_execs_cons (thn (h1 pins s σ H D I h) fun f s1 q=>?_)
 cases f with
 | next=>exact wpAny_execs_nil q
 | ret v=>exact q
 | brk=>exact q
 | cont=>exact q
theorem Inv.quiet {pins:List (Addr×Obj)}{σ:St}{H:Hp}{s:Shared}(I:Inv X pins σ H s):interactive X.env=false:=by simp [interactive,I.ok.kind]
def tDrop (te:TE):TS:=fun D σ H=>te σ H fun _ H1=>D.nx σ H1
theorem ps_expr (he:PE X e te) (hs:swapsWith e none pos.line X.env=pure false:=by rfl):PS X (.Expr e pos) (tDrop te):=by
 intro pins s σ H D I h
 exact wpAny_Expr_any (thn (he pins s σ H _ I h) fun v s1 ⟨x,H1,I1,r1,q1⟩=>⟨σ,H1,I1,q1⟩) I.quiet hs
def tRet (te:TE):TS:=fun D σ H=>te σ H D.rt
theorem ps_ret (he:PE X e te):PS X (.Return (some e) pos) (tRet te):=by
 intro pins s σ H D I h
 exact wpAny_Return_some (thn (he pins s σ H _ I h) fun v s1 ⟨x,H1,I1,r1,q1⟩=>⟨x,σ,H1,I1,r1,q1⟩)
def tIfS (c:TT) (t u:TS):TS:=fun D σ H=>c σ H fun b H1=>if b=true then t D σ H1 else u D σ H1
theorem ps_if {c:Expr}{a b:List Stmt}{tc:TT}(hc:PT X c tc) (ha:PSs X a t) (hb:PSs X b u):PS X (.If c a b pos) (tIfS tc t u):=by
 intro pins s σ H D I h
 refine wpAny_If (thn (hc pins s σ H _ I h) fun d s1 ⟨H1,I1,q1⟩=>?_)
 cases d with
 | true=>exact ha pins s1 σ H1 D I1 q1
 | false=>exact hb pins s1 σ H1 D I1 q1
end
abbrev TG:=V->St->Hp->(St->Hp->Prop)->Prop
abbrev TGs:=List V->St->Hp->(St->Hp->Prop)->Prop
def PG (X:Cx) (target:Expr) (t:TG):Prop :=
 ∀ (pins:List (Addr×Obj)) (s:Shared) (σ:St) (H:Hp) (v:V) (u:Value) (Q:St->Hp->Prop),Inv X pins σ H s->RelV v u->t v σ H Q ->
  wpAny (model X.prog X.w) X.A (assign target X.env u) (fun _ s'=>∃ σ' H',Inv X pins σ' H' s'/\Q σ' H') X.xe s
section
variable {X:Cx}{pos:Pos}
def gName (i:Nat):TG:=fun v σ H Q=>Q (σ.set i (some v)) H
theorem pg_name {i:Nat}{x:Str}(hN:X.N.Nodup) (hi:X.N[i]? = some x) (hx:Loc X.env.scope x) (hf:X.fn x=true\/X.env.scope.names.lookup x=some .local:=by first | exact .inl rfl | exact .inr rfl | assumption):PG X (.Name x pos) (gName i):=by
 intro pins s σ H v u Q I r h
 exact wpAny_assign_Name (store_ok I hN hi hx r (fun s' I'=>⟨_,H,I',h⟩) hf)
def gTup (K:PySem.W.Frag) (n:Nat) (t:TGs):TG:=fun v σ H Q=>∃ a xs,v=.ref a/\SqT K H a xs/\xs.length=n/\t xs σ H Q
def tAsg (te:TE) (g:TG):TS:=fun D σ H=>te σ H fun x H1=>g x σ H1 D.nx
theorem ps_set {i:Nat}{x:Str}{e:Expr}{te:TE}{pos':Pos}(hN:X.N.Nodup) (hi:X.N[i]? = some x) (hx:Loc X.env.scope x) (he:PE X e te) (hs:swapsWith e (some (.Name x pos')) pos.line X.env=pure false:=by rfl) (hf:X.fn x=true\/X.env.scope.names.lookup x=some .local:=by first | exact .inl rfl | exact .inr rfl | assumption) :
  PS X (.Assign [.Name x pos'] e pos) (tAsg te (gName i)):=by
 intro pins s σ H D I h
 refine wpAny_Assign_Name (thn (he pins s σ H _ I h) fun v s1 ⟨y,H1,I1,r1,q1⟩=>?_) hs
 exact store_ok I1 hN hi hx r1 (fun s2 I2=>⟨_,H1,I2,q1⟩) hf
end
section
variable {X:Cx}{pos:Pos}
end
structure It where
 go:Nat->Hp->Prop
 yld:Nat->Hp->V->Hp->Prop
 stop:Nat->Hp->Prop
def FpOk (X:Cx) (pins:List (Addr×Obj)) (H:Hp) (b:Addr):Prop :=
 H b=none/\b≠X.env.locals/\b∉X.fs/\(b∈X.ex\/X.s₀.heap.objs.size<=b)/\(∀ x c,X.env.cells.lookup x=some c->c≠b)/\∀ p∈X.pn++pins,p.1≠b
theorem Inv.fpOk {X:Cx}{pins:List (Addr×Obj)}{σ:St}{H H':Hp}{s:Shared}{b:Addr}(I:Inv X pins σ H s) (hb:s.heap.objs.size<=b) (hn:H' b=none):FpOk X pins H' b:=by
 refine ⟨hn,Nat.ne_of_gt (Nat.lt_of_lt_of_le I.lt hb),I.nofs hb,.inr (Nat.le_trans I.sz hb),fun x c e z=>?_,fun p hp z=>?_⟩
 ·obtain ⟨v,q⟩:=I.cell x c e
  exact absurd (Nat.lt_of_lt_of_le q.lt (by rw [z];exact hb)) (Nat.lt_irrefl _)
 ·exact absurd (Nat.lt_of_lt_of_le (Heap.lt_size (I.pin p hp).1) (by rw [z];exact hb)) (Nat.lt_irrefl _)
structure Turn (P:Program) (w:World) (K:PySem.W.Frag) (F:List (Addr×Obj×HO)) (tg:Expr) (J:It) (fp:List Addr) (it:Addr) (tn:Nat->Heap->Prop):Prop where
 mem:it∈fp
 obj:∀ i h,tn i h->∀ b∈fp,∃ o,h.get? b=some o/\∀ v,o.data≠.cell v
 keep:∀ i h h',tn i h->(∀ b∈fp,∀ o,h.get? b=some o->h'.get? b=some o)->tn i h'
 item:∀ (X:Cx),X.prog=P->X.w=w->X.K=K->X.fz=F->X.calm=true->∀ (i:Nat) (pins:List (Addr×Obj)) (s:Shared) (σ:St) (H:Hp) (E:Value->Shared->Prop),Inv X pins σ H s->(∀ b∈fp,FpOk X pins H b)->tn i s.heap->J.go i H ->
  wpAny (model P w) X.A (pyNext (.ref it)) (fun r s1=>∃ u,r=some u /\
   wpAny (model P w) X.A (letOwnedTupleGo tg (.ref it) u) (fun _ s2=>∃ x H',Inv X pins σ H' s2/\RelV x u/\J.yld i H x H'/\tn (i+1) s2.heap/\∀ b∈fp,H' b=none) E s1) E s
 done:∀ (X:Cx),X.prog=P->X.w=w->X.K=K->X.fz=F->X.calm=true->∀ (i:Nat) (pins:List (Addr×Obj)) (s:Shared) (σ:St) (H:Hp) (E:Value->Shared->Prop),Inv X pins σ H s->(∀ b∈fp,FpOk X pins H b)->tn i s.heap->J.stop i H ->
  wpAny (model P w) X.A (pyNext (.ref it)) (fun r s1=>r=none/\Inv X pins σ H s1) E s
 self:∀ (A:Around) (i:Nat) (s:Shared) (Q:Value->Shared->Prop) (E:Value->Shared->Prop),tn i s.heap->Q (.ref it) s->wpAny (model P w) A (pyIter (.ref it)) Q E s
abbrev TI:=St->Hp->(It->Hp->Prop)->Prop
def PIE (X:Cx) (pins:List (Addr×Obj)) (σ:St) (tg:Expr) (R:It->Hp->Prop) (itv:Value) (s2:Shared):Prop :=
 ∃ (it:Addr) (fp:List Addr) (tn:Nat->Heap->Prop) (J:It) (H':Hp),itv=.ref it/\Inv X pins σ H' s2/\Turn X.prog X.w X.K X.fz tg J fp it tn/\tn 0 s2.heap/\(∀ b∈fp,FpOk X pins H' b)/\R J H'
def PI (X:Cx) (tg iter:Expr) (wi:TI):Prop :=
 ∀ (pins:List (Addr×Obj)) (s:Shared) (σ:St) (H:Hp) (R:It->Hp->Prop),Inv X pins σ H s->wi σ H R ->
  wpAny (model X.prog X.w) X.A (eval iter X.env) (fun v s1=>wpAny (model X.prog X.w) X.A (pyIter v) (PIE X pins σ tg R) X.xe s1) X.xe s
theorem go_of {M:Model}{A:Around}{E:Value->Shared->Prop}{s:Shared}{tg:Expr}{it:Addr}{u:Value}{o:Obj}{n:String}{vs:Array Value}{Q:Unit->Shared->Prop}(ho:s.heap.get? it=some o) (hc:o.cls=.type n) (hd:o.data=.fields vs)
    (hn:["enumerate", "zip", "dict_itemiterator", "dict_reverseitemiterator", "odict_iterator", "itertools.zip_longest", "itertools.pairwise"].contains n=false) (hQ:Q () s):wpAny M A (letOwnedTupleGo tg (.ref it) u) Q E s:=by
  unfold letOwnedTupleGo
  cases tg<;>first
    | exact wpAny_pure hQ
    | (cases u<;>first
        | exact wpAny_pure hQ
        | (refine wpAny_bind (wpAny_load ho ?_)
           rw [hc,hd]
           show wpAny M A (if (["enumerate", "zip", "dict_itemiterator", "dict_reverseitemiterator", "odict_iterator", "itertools.zip_longest", "itertools.pairwise"].contains n && vs[0]? == some (rawInt _))=true then _ else _) Q E s
           rw [if_neg (by intro h;rw [hn,Bool.false_and] at h;cases h)]
           exact wpAny_pure hQ))
def Itl (K:PySem.W.Frag) (a:Addr):It :=
 ⟨fun i H=>∃ xs x,SqL K H a xs/\xs[i]? = some x,fun i H x H'=>H'=H/\∀ xs,SqL K H a xs->xs[i]? = some x,fun i H=>∃ xs,SqL K H a xs/\xs.length<=i⟩
def Itr (lo:Int) (n:Nat):It:=⟨fun i _=>i<n,fun i H x H'=>H'=H/\x=.int (lo+i),fun i _=>n<=i⟩
theorem turn_list {P:Program}{w:World}{K:PySem.W.Frag}{F:List (Addr×Obj×HO)}{tg:Expr}(a it:Addr):Turn P w K F tg (Itl K a) [it] it (fun i h=>h.IsListIter it a i) where
 mem:=by simp
 obj:=fun i h st b hb=>by
  have e:b=it:=by simpa using hb
  subst e
  obtain ⟨o,e,c,d⟩:=st
  exact ⟨o,e,fun v z=>by rw [d] at z;cases z⟩
 keep:=fun i h h' st k=>st.at fun o e=>k it (by simp) o e
 item:=by
  intro X hP hw hK hF hc i pins s σ H E I hf st hg
  subst hP hw hK
  obtain ⟨xs,x,hq,hx⟩:=hg
  obtain ⟨its,rv,p,hz⟩:=I.list hq
  obtain ⟨u,hu,ru⟩:=rv.get hx
  obtain ⟨f0,f1,f2,f3,f4,f5⟩:=hf it (by simp)
  refine wpAny_pyNext_list_item st p.isList (x:=u) (by simpa using hu) fun h' st' sb=>?_
  have I1:Inv X pins σ H { s with heap:=h' }:=I.turned (t':=s.toks) (fun b o hb e=>(sb.2 b hb).trans e) f0 f1 f3 f4 f5
  obtain ⟨o,e,c,d⟩:=id st'
  exact ⟨u,rfl,go_of (s:={ s with heap:=h' }) e c d (by decide) ⟨x,H,I1,ru,⟨rfl,fun ys hy=>by rw [I.list_inj hy hq];exact hx⟩,st',fun b hb=>(hf b hb).1⟩⟩
 done:=by
  intro X hP hw hK hF hc i pins s σ H E I hf st hg
  subst hP hw hK
  obtain ⟨xs,hq,hx⟩:=hg
  obtain ⟨its,rv,p,hz⟩:=I.list hq
  obtain ⟨f0,f1,f2,f3,f4,f5⟩:=hf it (by simp)
  have hl:=rv.length
  exact wpAny_pyNext_list_end (I.ok.hd hc) st p.isList (by simp;omega) fun h' eb=>⟨rfl,I.turned (t':=s.toks) (fun b o hb e=>eb b o hb e) f0 f1 f3 f4 f5⟩
 self:=fun _ _ _ _ _ st h=>wpAny_pyIter_listiter st h
theorem turn_range {P:Program}{w:World}{K:PySem.W.Frag}{F:List (Addr×Obj×HO)}{tg:Expr}(it:Addr) (lo:Int) (n:Nat):Turn P w K F tg (Itr lo n) [it] it (fun i h=>IsRangeIter h it (lo+(i:Nat)*1) ((n:Int)-(i:Nat)) 1) where
 mem:=by simp
 obj:=fun i h st b hb=>by
  have e:b=it:=by simpa using hb
  subst e
  exact ⟨_,st,fun v z=>by
   have z':Data.fields _=Data.cell v:=z
   cases z'⟩
 keep:=fun i h h' st k=>k it (by simp) _ st
 item:=by
  intro X hP hw hK hF hc i pins s σ H E I hf st hg
  subst hP hw hK
  obtain ⟨f0,f1,f2,f3,f4,f5⟩:=hf it (by simp)
  have W:=Walks.range (prog:=X.prog) (w:=X.w) (I.ok.hd hc) it lo 1 n
  refine W.item i s _ _ hg st fun v h' tk hv st' kk=>?_
  obtain ⟨t,rfl⟩:=hv
  have I1:Inv X pins σ H { s with heap:=h',toks:=tk }:=I.turned (fun b o hb e=>kk b o (by simpa using hb) e) f0 f1 f3 f4 f5
  refine ⟨_,rfl,go_of (s:={ s with heap:=h',toks:=tk }) (n:="range_iterator") st' rfl rfl (by decide) ⟨.int (lo+i),H,I1,⟨t,?_⟩,⟨rfl,rfl⟩,st',fun b hb=>(hf b hb).1⟩⟩
  rw [Int.mul_one]
 done:=by
  intro X hP hw hK hF hc i pins s σ H E I hf st hg
  subst hP hw hK
  obtain ⟨f0,f1,f2,f3,f4,f5⟩:=hf it (by simp)
  exact wpAny_pyNext_range_end (I.ok.hd hc) st (by have:n<=i:=hg;omega) fun h' eb=>⟨rfl,I.turned (t':=s.toks) (fun b o hb e=>eb b o hb e) f0 f1 f3 f4 f5⟩
 self:=fun _ _ _ _ _ st h=>wpAny_pyIter_rangeiter st h
section
variable {X:Cx}{tg:Expr}
def iList (K:PySem.W.Frag) (tl:TE):TI:=fun σ H R=>tl σ H fun x H1=>∃ a,x=.ref a/\(∃ xs,SqL K H1 a xs)/\R (Itl K a) H1
theorem pi_list {l:Expr}{tl:TE}(hl:PE X l tl):PI X tg l (iList X.K tl):=by
 intro pins s σ H R I h
 refine thn (hl pins s σ H _ I h) fun v s1 ⟨x,H1,I1,r1,q1⟩=>?_
 obtain ⟨a,e,⟨xs,hq⟩,q⟩:=q1
 subst e
 cases r1
 obtain ⟨its,rv,p,hz⟩:=I1.list hq
 refine wpAny_pyIter_list p.isList ?_
 refine ⟨s1.heap.objs.size,[s1.heap.objs.size],_,_,H1,rfl,I1.kept (t':=s1.toks) fun b o e=>Heap.get?_push_of_some _ e,turn_list a _,⟨_,Heap.get?_push_size _ rfl,rfl,rfl⟩,fun b hb=>?_,q⟩
 have e:b=s1.heap.objs.size:=by simpa using hb
 subst e
 exact I1.fpOk (Nat.le_refl _) (I1.hok.fresh (Nat.le_refl _))
theorem range_it {pins:List (Addr×Obj)}{σ:St}{H:Hp}{s:Shared}{R:It->Hp->Prop}{E:Value->Shared->Prop}{lo hi:Int}{t u v:Tok}{tk:Nat}(I:Inv X pins σ H s) (h1:-(2^62)<=lo) (h2:lo<2^62) (h3:-(2^62)<=hi) (h4:hi<2^62)
  (q:R (Itr lo (hi-lo).toNat) H):wpAny (model X.prog X.w) X.A (pyIter (.ref s.heap.objs.size)) (PIE X pins σ tg R) E { s with heap:=s.heap.push { cls:=.type "range",data:=.fields #[.int lo t,.int hi u,.int 1 v] },toks:=tk }:=by
 refine wpAny_pyIter_range (IsRange.new ..) (small_one h1 h2 h3 h4) ?_
 have I1:Inv X pins σ H { s with heap:=s.heap.push { cls:=.type "range",data:=.fields #[.int lo t,.int hi u,.int 1 v] },toks:=tk }:=I.kept fun b o e=>Heap.get?_push_of_some _ e
 refine ⟨(s.heap.push { cls:=.type "range",data:=.fields #[.int lo t,.int hi u,.int 1 v] }).objs.size,[(s.heap.push { cls:=.type "range",data:=.fields #[.int lo t,.int hi u,.int 1 v] }).objs.size],_,_,H,rfl,
  I1.kept (t':=tk) fun b o e=>Heap.get?_push_of_some _ e,turn_range _ lo (hi-lo).toNat,?_,fun b hb=>?_,q⟩
 ·have e1:lo+((0:Nat):Int)*1=lo:=by simp
  have e2:(((hi-lo).toNat:Nat):Int)-((0:Nat):Int)=Builtin.Range.rangeSize lo hi 1:=by rw [rangeSize_one];split<;>omega
  show IsRangeIter _ _ (lo+((0:Nat):Int)*1) ((((hi-lo).toNat:Nat):Int)-((0:Nat):Int)) 1
  rw [e1,e2]
  exact Heap.get?_push_size _ rfl
 ·have e:b=(s.heap.push { cls:=.type "range",data:=.fields #[.int lo t,.int hi u,.int 1 v] }).objs.size:=by simpa using hb
  subst e
  exact I1.fpOk (Nat.le_refl _) (I1.hok.fresh (Nat.le_refl _))
def iRng1 (ta:TA):TI:=fun σ H R=>ta σ H fun vs H1=>∃ j:Int,vs=[.int j]/\-(2^62)<=j/\j<2^62/\R (Itr 0 j.toNat) H1
def iRng2 (ta:TA):TI:=fun σ H R=>ta σ H fun vs H1=>∃ i j:Int,vs=[.int i,.int j]/\(-(2^62)<=i/\i<2^62/\-(2^62)<=j/\j<2^62)/\R (Itr i (j-i).toNat) H1
theorem pi_range1 {a:Expr}{ta:TA}{p pos:Pos}(hg:Gl X "range") (hm:X.mg "range" = none) (ha:PA X [a] ta) (hs:starEach [a] X.env=[(false,eval a X.env)]:=by rfl):PI X tg (.Call (.Name "range" p) [a] [] pos) (iRng1 ta):=by
 intro pins s σ H R I h
 refine Call_ (ld_blt I hg hm boot_range (PyProof.Rows.callWith_type1 (thn (ha pos pins s σ H _ I h) fun us s1 ⟨vs,H1,I1,r1,q1⟩=>?_) hs rfl))
 obtain ⟨j,e,q1,q2,q⟩:=q1
 subst e
 cases r1 with
 | cons r rr =>
  cases rr
  obtain ⟨t,rfl⟩:=r
  exact call_range_1 (range_it I1 (by omega) (by omega) q1 q2 (by simpa using q))
theorem pi_range2 {a b:Expr}{ta:TA}{p pos:Pos}(hg:Gl X "range") (hm:X.mg "range" = none) (ha:PA X [a,b] ta) (hs:starEach [a,b] X.env=[(false,eval a X.env),(false,eval b X.env)]:=by rfl) (hs2:starEach [b] X.env=[(false,eval b X.env)]:=by rfl) :
  PI X tg (.Call (.Name "range" p) [a,b] [] pos) (iRng2 ta):=by
 intro pins s σ H R I h
 refine Call_ (ld_blt I hg hm boot_range (PyProof.Rows.callWith_type1 (thn (ha pos pins s σ H _ I h) fun us s1 ⟨vs,H1,I1,r1,q1⟩=>?_) (by rw [hs,hs2]) (by rw [hs2];rfl)))
 obtain ⟨i,j,e,⟨q1,q2,q3,q4⟩,q⟩:=q1
 subst e
 cases r1 with
 | cons r rr =>
  cases rr with
  | cons r' rr =>
   cases rr
   obtain ⟨t,rfl⟩:=r
   obtain ⟨t',rfl⟩:=r'
   exact call_range_2 (range_it I1 q1 q2 q3 q4 q)
def tFor (wi:TI) (g:TG) (tb:TS):TS:=fun D σ H=>wi σ H fun J H1=>∃ W:Nat->Nat->St->Hp->Prop,(∃ m,W 0 m σ H1)/\∀ i m σ H,W i m σ H ->
 (J.stop i H/\D.nx σ H)\/(J.go i H/\∃ N:St->Hp->Prop,(∀ σ' H',N σ' H'->∃ m',m' < m/\W (i+1) m' σ' H')/\∀ x H',J.yld i H x H'->g x σ H' fun σ2 H2=>tb { D with nx:=N,ct:=N,bk:=D.nx } σ2 H2)
def pinsAt (fp:List Addr) (h:Heap):List (Addr×Obj):=fp.filterMap fun b=>(h.get? b).map fun o=>(b,o)
theorem mem_pinsAt {fp:List Addr}{h:Heap}{b:Addr}{o:Obj}(hb:b∈fp) (e:h.get? b=some o):(b,o)∈pinsAt fp h:=List.mem_filterMap.mpr ⟨b,hb,by rw [e];rfl⟩
theorem of_pinsAt {fp:List Addr}{h:Heap}{p:Addr×Obj}(hp:p∈pinsAt fp h):p.1∈fp/\h.get? p.1=some p.2:=by
 obtain ⟨b,hb,e⟩:=List.mem_filterMap.mp hp
 cases q:h.get? b with
 | none=>rw [q] at e;cases e
 | some o =>
  rw [q] at e
  have e':(b,o)=p:=Option.some.inj e
  subst e'
  exact ⟨hb,q⟩
theorem Inv.pinned {pins:List (Addr×Obj)}{σ:St}{H:Hp}{s:Shared}{fp:List Addr}(I:Inv X pins σ H s) (hf:∀ b∈fp,FpOk X pins H b) (ho:∀ b∈fp,∃ o,s.heap.get? b=some o/\∀ v,o.data≠.cell v):Inv X (pins++pinsAt fp s.heap) σ H s :=
 I.pins_of fun p hp=>(List.mem_append.mp hp).elim (fun z=>I.pin p (List.mem_append_right _ z)) fun z=>by
  obtain ⟨hb,e⟩:=of_pinsAt z
  obtain ⟨f0,f1,f2,_⟩:=hf p.1 hb
  obtain ⟨o,e',d⟩:=ho p.1 hb
  rw [e] at e';cases e'
  exact ⟨e,f0,f1,f2,d⟩
theorem Inv.unpinned {pins pl:List (Addr×Obj)}{σ:St}{H:Hp}{s:Shared}(I:Inv X (pins++pl) σ H s):Inv X pins σ H s:=I.pins_of fun p hp=>I.pin p (List.mem_append_right _ (List.mem_append_left _ hp))
theorem ps_for {iter:Expr}{body:List Stmt}{wi:TI}{g:TG}{tb:TS}{pos:Pos}(hp:PassesOwn (model X.prog X.w) X.A X.env X.xe) (hc:X.calm=true) (hi:PI X tg iter wi) (hg:PG X tg g) (hb:PSs X body tb)
  (hs:∀ x,foldedSetIterable iter X.env x=pure x:=by intro _;rfl):PS X (.For tg iter body [] pos) (tFor wi g tb):=by
 intro pins s σ H D I h
 refine wpAny_For (thn (hi pins s σ H _ I h) fun v s1 h1=>thn h1 fun itv s2 h2=>?_) hs
 obtain ⟨it,fp,tn,J,H2,e,I2,T,st2,f2,W,⟨m0,w0⟩,turn⟩:=h2
 subst e
 have stat:∀ {H':Hp},(∀ b∈fp,H' b=none)->∀ b∈fp,FpOk X pins H' b:=fun hn b hb=>⟨hn b hb,(f2 b hb).2⟩
 refine codeAny_forLoop_any (fun n s'=>∃ i σ' H',Inv X pins σ' H' s'/\tn i s'.heap/\(∀ b∈fp,H' b=none)/\W i n σ' H') ?_ m0 ⟨0,σ,H2,I2,st2,fun b hb=>(f2 b hb).1,w0⟩
 rintro n s3 ⟨i,σ3,H3,I3,st3,fr3,w3⟩
 rcases turn i n σ3 H3 w3 with ⟨stop,qn⟩|⟨go,N,hN,step⟩
 ·refine wpAny_passesOwn hp (thn (T.done X rfl rfl rfl rfl hc i pins s3 σ3 H3 X.xe I3 (stat fr3) st3 stop) fun r s4 ⟨hr,I4⟩=>?_)
  subst hr
  exact wpAny_execs_nil ⟨σ3,H3,I4,qn⟩
 ·refine wpAny_passesOwn hp (thn (T.item X rfl rfl rfl rfl hc i pins s3 σ3 H3 X.xe I3 (stat fr3) st3 go) fun r s4 ⟨u,hr,h4⟩=>?_)
  subst hr
  refine wpAny_passesOwn hp (thn h4 fun _ s5 ⟨x,H5,I5,r5,y5,st5,fr5⟩=>?_)
  have I5':=I5.pinned (stat fr5) (T.obj _ _ st5)
  refine wpAny_passesOwn hp (thn (hg _ s5 σ3 H5 x u _ I5' r5 (step x H5 y5)) fun _ s6 ⟨σ6,H6,I6,q6⟩=>?_)
  refine wpAny_passesOwn hp (thn (hb _ s6 σ6 H6 _ I6 q6) fun f s7 q7=>?_)
  have again:∀ {σ7:St} {H7:Hp},Inv X (pins++pinsAt fp s5.heap) σ7 H7 s7->N σ7 H7->∃ m,m<n/\∃ i σ' H',Inv X pins σ' H' s7/\tn i s7.heap/\(∀ b∈fp,H' b=none)/\W i m σ' H':=fun {σ7 H7} I7 n7=>by
   obtain ⟨m',hm,w7⟩:=hN σ7 H7 n7
   refine ⟨m',hm,i+1,σ7,H7,I7.unpinned,T.keep _ _ _ st5 fun b hb o e=>(I7.pin (b,o) (List.mem_append_right _ (List.mem_append_right _ (mem_pinsAt hb e)))).1,fun b hb=>?_,w7⟩
   obtain ⟨o,e,d⟩:=T.obj _ _ st5 b hb
   exact (I7.pin (b,o) (List.mem_append_right _ (List.mem_append_right _ (mem_pinsAt hb e)))).2.1
  cases f with
  | next=>obtain ⟨σ7,H7,I7,n7⟩:=q7;exact again I7 n7
  | cont=>obtain ⟨σ7,H7,I7,n7⟩:=q7;exact again I7 n7
  | brk=>obtain ⟨σ7,H7,I7,q7⟩:=q7;exact ⟨σ7,H7,I7.unpinned,q7⟩
  | ret v=>obtain ⟨x7,σ7,H7,I7,r7,q7⟩:=q7;exact ⟨x7,σ7,H7,I7.unpinned,r7,q7⟩
end
abbrev R2:=V->V->Hp->VK->Prop
def OpR (X:Cx) (f:Value->Value->Sem Value) (r:R2):Prop :=
 ∀ (pins:List (Addr×Obj)) (s:Shared) (σ:St) (H:Hp) (x y:V) (v u:Value) (Q:VK),Inv X pins σ H s->RelV x v->RelV y u->r x y H Q ->
  wpAny (model X.prog X.w) X.A (f v u) (EP X pins σ Q) X.xe s
def UnR (X:Cx) (f:Value->Sem Value) (r:V->Hp->VK->Prop):Prop :=
 ∀ (pins:List (Addr×Obj)) (s:Shared) (σ:St) (H:Hp) (x:V) (v:Value) (Q:VK),Inv X pins σ H s->RelV x v->r x H Q ->
  wpAny (model X.prog X.w) X.A (f v) (EP X pins σ Q) X.xe s
def CallR (X:Cx) (f:Value) (r:List V->Hp->VK->Prop):Prop :=
 ∀ (pins:List (Addr×Obj)) (s:Shared) (σ:St) (H:Hp) (xs:List V) (us:List Value) (Q:VK),Inv X pins σ H s->Vals xs us->r xs H Q ->
  wpAny (model X.prog X.w) X.A (call f us) (EP X pins σ Q) X.xe s
def tOp (r:R2) (ta tb:TE):TE:=fun σ H Q=>ta σ H fun x H1=>tb σ H1 fun y H2=>r x y H2 Q
def rI (C:Int->Int->Prop) (g:Int->Int->V):R2:=fun x y H Q=>∃ i j,x=.int i/\y=.int j/\C i j/\Q (g i j) H
def rI0 (g:Int->Int->V):R2:=fun x y H Q=>∃ i j,x=.int i/\y=.int j/\Q (g i j) H
def rU (g:Int->V):V->Hp->VK->Prop:=fun x H Q=>∃ i,x=.int i/\Q (g i) H
section
variable {X:Cx}{a b c:Expr}{ta tb tc:TE}{pos:Pos}
theorem binT (ha:PE X a ta) (hb:PE X b tb) {pins:List (Addr×Obj)}{s:Shared}{σ:St}{H:Hp}{R:V->V->Hp->Prop}(I:Inv X pins σ H s)
  (h:ta σ H fun x H1=>tb σ H1 fun y H2=>R x y H2) {Q:Value->Shared->Prop} {f:Value->Value->Sem Value}
  (hf:∀ v u s2 x y H2,Inv X pins σ H2 s2->RelV x v->RelV y u->R x y H2->wpAny (model X.prog X.w) X.A (f v u) Q X.xe s2) :
  wpAny (model X.prog X.w) X.A (eval a X.env) (fun v s₁=>wpAny (model X.prog X.w) X.A (eval b X.env) (fun u s₂=>wpAny (model X.prog X.w) X.A (f v u) Q X.xe s₂) X.xe s₁) X.xe s:=by
 refine thn (ha pins s σ H _ I h) fun v s1 ⟨x,H1,I1,r1,q1⟩=>?_
 refine thn (hb pins s1 σ H1 _ I1 q1) fun u s2 ⟨y,H2,I2,r2,q2⟩=>?_
 exact hf v u s2 x y H2 I2 r1 r2 q2
theorem pe_op {op:Operator}{r:R2}(ho:OpR X (binaryOp op) r) (ha:PE X a ta) (hb:PE X b tb):PE X (.BinOp a op b pos) (tOp r ta tb):=by
 intro pins s σ H Q I h
 exact wpAny_BinOp (binT ha hb I h fun v u s2 x y H2 I2 rx ry q=>ho pins s2 σ H2 x y v u Q I2 rx ry q)
theorem opI {f:Value->Value->Sem Value}{C:Int->Int->Prop}{g:Int->Int->Int}
  (rule:∀ (i j:Int) (t u:Tok) (s:Shared) (Q:Value->Shared->Prop) (E:Value->Shared->Prop),C i j->Q (.int (g i j) s.toks) { s with toks:=s.toks+1 }->wpAny (model X.prog X.w) X.A (f (.int i t) (.int j u)) Q E s) :
  OpR X f (rI C fun i j=>.int (g i j)):=by
 intro pins s σ H x y v u Q I rx ry h
 obtain ⟨i,j,rfl,rfl,hc,q⟩:=h
 obtain ⟨t,rfl⟩:=rx
 obtain ⟨t',rfl⟩:=ry
 exact rule i j t t' s _ _ hc ⟨.int (g i j),H,I.tok _,⟨_,rfl⟩,q⟩
theorem opI0 {f:Value->Value->Sem Value}{g:Int->Int->Int}
  (rule:∀ (i j:Int) (t u:Tok) (s:Shared) (Q:Value->Shared->Prop) (E:Value->Shared->Prop),Q (.int (g i j) s.toks) { s with toks:=s.toks+1 }->wpAny (model X.prog X.w) X.A (f (.int i t) (.int j u)) Q E s) :
  OpR X f (rI0 fun i j=>.int (g i j)):=by
 intro pins s σ H x y v u Q I rx ry h
 obtain ⟨i,j,rfl,rfl,q⟩:=h
 obtain ⟨t,rfl⟩:=rx
 obtain ⟨t',rfl⟩:=ry
 exact rule i j t t' s _ _ ⟨.int (g i j),H,I.tok _,⟨_,rfl⟩,q⟩
theorem opB0 {f:Value->Value->Sem Value}{g:Int->Int->Bool}
  (rule:∀ (i j:Int) (t u:Tok) (s:Shared) (Q:Value->Shared->Prop) (E:Value->Shared->Prop),Q (.bool (g i j)) s->wpAny (model X.prog X.w) X.A (f (.int i t) (.int j u)) Q E s) :
  OpR X f (rI0 fun i j=>.bl (g i j)):=by
 intro pins s σ H x y v u Q I rx ry h
 obtain ⟨i,j,rfl,rfl,q⟩:=h
 obtain ⟨t,rfl⟩:=rx
 obtain ⟨t',rfl⟩:=ry
 exact rule i j t t' s _ _ ⟨.bl (g i j),H,I,rfl,q⟩
def CDiv (i j:Int):Prop:=0<j/\j<1073741824
def CMul (i j:Int):Prop:=(-(2^64)<i/\i<2^64)\/(-(2^64)<j/\j<2^64)
theorem CMul.ok {i j:Int}(h:CMul i j):IntMulOk i j:=by
 rcases h with ⟨h1,h2⟩|⟨h1,h2⟩
 ·exact .of_left (intBits_le_64 h1 h2)
 ·exact .of_right (intBits_le_64 h1 h2)
theorem op_add:OpR X (binaryOp .Add) (rI0 fun i j=>.int (i+j)):=opI0 fun _ _ _ _ _ _ _ q=>add_int q
theorem op_mul:OpR X (binaryOp .Mult) (rI CMul fun i j=>.int (i*j)):=opI fun _ _ _ _ _ _ _ hc q=>mul_int q hc.ok
theorem op_fdiv:OpR X (binaryOp .FloorDiv) (rI CDiv fun i j=>.int (i / j)):=opI fun i j _ _ _ _ _ hc q=>by
 have h1:(0:Int)<j:=hc.1
 have h2:j<1073741824:=hc.2
 exact floordiv_int (by omega) (by rw [Int.fdiv_eq_ediv_of_nonneg i (by omega)];exact q) (.inl (PyProof.noPylong_small (by omega)))
theorem op_mod:OpR X (binaryOp .Mod) (rI (fun _ j=>0<j) fun i j=>.int (i%j)):=opI fun i j _ _ _ _ _ hc q=>by
 have h1:(0:Int)<j:=hc
 exact mod_int' (by omega) (by rw [Int.fmod_eq_emod_of_nonneg i (by omega)];exact q)
end
def scal:V->V->Bool
 | .non,.non=>true | .non,.int _=>true | .int _,.non=>true | .non,.bl _=>true | .bl _,.non=>true | .non,.str _=>true | .str _,.non=>true
 | .int _,.int _=>true | .bl _,.bl _=>true | .str _,.str _=>true | .byt _,.byt _=>true
 | .int _,.str _=>true | .str _,.int _=>true | .bl _,.str _=>true | .str _,.bl _=>true
 | _,_=>false
def rEq:R2:=fun x y H Q=>scal x y=true/\Q (.bl (decide (x=y))) H
def rNe:R2:=fun x y H Q=>scal x y=true/\Q (.bl (!decide (x=y))) H
theorem dec_int {i j:Int}:decide (V.int i=V.int j)=(i == j):=by
 rw [Bool.eq_iff_iff]
 simp
theorem dec_bl {i j:Bool}:decide (V.bl i=V.bl j)=(i == j):=by
 rw [Bool.eq_iff_iff]
 simp
theorem dec_str {i j:Str}:decide (V.str i=V.str j)=(i == j):=by
 rw [Bool.eq_iff_iff]
 simp
theorem dec_byt {i j:Array UInt8}:decide (V.byt i=V.byt j)=(i.toList == j.toList):=by
 rw [Bool.eq_iff_iff]
 cases i
 cases j
 simp
section
variable {X:Cx}{a b c:Expr}{ta tb tc:TE}{pos:Pos}
theorem fin_bl {pins:List (Addr×Obj)}{σ:St}{H:Hp}{s:Shared}{Q:VK}{k k':Bool}(I:Inv X pins σ H s) (q:Q (.bl k) H) (e:k=k'):EP X pins σ Q (.bool k') s:=by
 subst e
 exact ⟨.bl k,H,I,rfl,q⟩
theorem op_eq:OpR X (compareOp .Eq) rEq:=by
 intro pins s σ H x y v u Q I rx ry h
 obtain ⟨hs,q⟩:=h
 cases x with
 | non =>
  cases rx
  cases y with
  | non=>cases ry;exact PySem.EqNone.eq_none_none (fin_bl I q (by simp))
  | bl j=>cases ry;exact PySem.EqNone.eq_none_bool (fin_bl I q (by simp))
  | int j=>obtain ⟨t',rfl⟩:=ry;exact PySem.EqNone.eq_none_int (fin_bl I q (by simp))
  | str j=>obtain ⟨t',rfl⟩:=ry;exact PySem.EqNone.eq_none_str (fin_bl I q (by simp))
  | _=>exact absurd (show false=true from hs) Bool.false_ne_true
 | bl i =>
  cases rx
  cases y with
  | non=>cases ry;exact PySem.EqNone.eq_bool_none (fin_bl I q (by simp))
  | bl j=>cases ry;exact eq_bool (fin_bl I q dec_bl)
  | str j=>obtain ⟨t',rfl⟩:=ry;exact PySem.EqMixed.eq_bool_str (fin_bl I q (by simp))
  | _=>exact absurd (show false=true from hs) Bool.false_ne_true
 | int i =>
  obtain ⟨t,rfl⟩:=rx
  cases y with
  | non=>cases ry;exact PySem.EqNone.eq_int_none (fin_bl I q (by simp))
  | int j=>obtain ⟨t',rfl⟩:=ry;exact eq_int (fin_bl I q dec_int)
  | str j=>obtain ⟨t',rfl⟩:=ry;exact PySem.EqMixed.eq_int_str (fin_bl I q (by simp))
  | _=>exact absurd (show false=true from hs) Bool.false_ne_true
 | str i =>
  obtain ⟨t,rfl⟩:=rx
  cases y with
  | non=>cases ry;exact PySem.EqNone.eq_str_none (fin_bl I q (by simp))
  | bl j=>cases ry;exact PySem.EqMixed.eq_str_bool (fin_bl I q (by simp))
  | int j=>obtain ⟨t',rfl⟩:=ry;exact PySem.EqMixed.eq_str_int (fin_bl I q (by simp))
  | str j=>obtain ⟨t',rfl⟩:=ry;exact eq_str (fin_bl I q dec_str)
  | _=>exact absurd (show false=true from hs) Bool.false_ne_true
 | byt i =>
  obtain ⟨t,rfl⟩:=rx
  cases y with
  | byt j=>obtain ⟨t',rfl⟩:=ry;exact PySem.W.eq_bytes (fin_bl I q dec_byt)
  | _=>exact absurd (show false=true from hs) Bool.false_ne_true
 | _=>cases y<;>exact absurd (show false=true from hs) Bool.false_ne_true
theorem op_ne:OpR X (compareOp .NotEq) rNe:=by
 intro pins s σ H x y v u Q I rx ry h
 obtain ⟨hs,q⟩:=h
 cases x with
 | non =>
  cases rx
  cases y with
  | non=>cases ry;exact PySem.EqNone.ne_none_none (fin_bl I q (by simp))
  | bl j=>cases ry;exact PySem.EqNone.ne_none_bool (fin_bl I q (by simp))
  | int j=>obtain ⟨t',rfl⟩:=ry;exact PySem.EqNone.ne_none_int (fin_bl I q (by simp))
  | str j=>obtain ⟨t',rfl⟩:=ry;exact PySem.EqNone.ne_none_str (fin_bl I q (by simp))
  | _=>exact absurd (show false=true from hs) Bool.false_ne_true
 | bl i =>
  cases rx
  cases y with
  | non=>cases ry;exact PySem.EqNone.ne_bool_none (fin_bl I q (by simp))
  | bl j=>cases ry;exact ne_bool (fin_bl I q (congrArg not dec_bl))
  | str j=>obtain ⟨t',rfl⟩:=ry;exact PySem.EqMixed.ne_bool_str (fin_bl I q (by simp))
  | _=>exact absurd (show false=true from hs) Bool.false_ne_true
 | int i =>
  obtain ⟨t,rfl⟩:=rx
  cases y with
  | non=>cases ry;exact PySem.EqNone.ne_int_none (fin_bl I q (by simp))
  | int j=>obtain ⟨t',rfl⟩:=ry;exact ne_int (fin_bl I q (congrArg not dec_int))
  | str j=>obtain ⟨t',rfl⟩:=ry;exact PySem.EqMixed.ne_int_str (fin_bl I q (by simp))
  | _=>exact absurd (show false=true from hs) Bool.false_ne_true
 | str i =>
  obtain ⟨t,rfl⟩:=rx
  cases y with
  | non=>cases ry;exact PySem.EqNone.ne_str_none (fin_bl I q (by simp))
  | bl j=>cases ry;exact PySem.EqMixed.ne_str_bool (fin_bl I q (by simp))
  | int j=>obtain ⟨t',rfl⟩:=ry;exact PySem.EqMixed.ne_str_int (fin_bl I q (by simp))
  | str j=>obtain ⟨t',rfl⟩:=ry;exact ne_str (fin_bl I q (congrArg not dec_str))
  | _=>exact absurd (show false=true from hs) Bool.false_ne_true
 | byt i =>
  obtain ⟨t,rfl⟩:=rx
  cases y with
  | byt j=>obtain ⟨t',rfl⟩:=ry;exact PySem.W.ne_bytes (fin_bl I q (congrArg not dec_byt))
  | _=>exact absurd (show false=true from hs) Bool.false_ne_true
 | _=>cases y<;>exact absurd (show false=true from hs) Bool.false_ne_true
theorem op_lt:OpR X (compareOp .Lt) (rI0 fun i j=>.bl (decide (i<j))):=opB0 fun _ _ _ _ _ _ _ q=>lt_int q
theorem op_le:OpR X (compareOp .LtE) (rI0 fun i j=>.bl (decide (i<=j))):=opB0 fun _ _ _ _ _ _ _ q=>le_int q
theorem OpR.or {f:Value->Value->Sem Value}{r r':R2}(h:OpR X f r) (h':OpR X f r'):OpR X f (fun x y H Q=>r x y H Q\/r' x y H Q):=by
 intro pins s σ H x y v u Q I rx ry q
 rcases q with q|q
 ·exact h pins s σ H x y v u Q I rx ry q
 ·exact h' pins s σ H x y v u Q I rx ry q
theorem nomark (b:Expr) {op:CmpOp}(h:op≠.In:=by decide) (h2:op≠.NotIn:=by decide):behindInMarks op b=false:=by
 have e1:(op == CmpOp.In)=false:=by cases op<;>first | rfl | exact absurd rfl h
 have e2:(op == CmpOp.NotIn)=false:=by cases op<;>first | rfl | exact absurd rfl h2
 cases b<;>simp [behindInMarks,e1,e2]
def tTest (t:TE):TT:=fun σ H Q=>t σ H fun x H'=>∃ k,x=.bl k/\Q k H'
theorem pt_cmpR {op:CmpOp}{r:R2}(ho:OpR X (compareOp op) r) (ha:PE X a ta) (hb:PE X b tb) (hm:behindInMarks op b=false):PT X (.Compare a [op] [b] pos) (tTest (tOp r ta tb)):=by
 intro pins s σ H Q I h
 refine wpAny_isTrue_Compare1 (thn (ha pins s σ H _ I h) fun v s1 ⟨x,H1,I1,r1,q1⟩=>thn (hb pins s1 σ H1 _ I1 q1) fun u s2 ⟨y,H2,I2,r2,q2⟩ =>
  thn (ho pins s2 σ H2 x y v u _ I2 r1 r2 q2) fun c s3 ⟨z,H3,I3,r3,k,e,q3⟩=>?_) hm
 subst e
 cases r3
 exact wpAny_truthy_bool ⟨H3,I3,q3⟩
theorem line63:(sizeLine:Nat)<2^63:=by rw [sizeLine_eq];decide
theorem vals1 {x:V}{us:List Value}(r:Vals [x] us):∃ u,us=[u]/\RelV x u:=by
 cases r with
 | cons r1 r2=>cases r2;exact ⟨_,rfl,r1⟩
theorem vals2 {x y:V}{us:List Value}(r:Vals [x,y] us):∃ u w',us=[u,w']/\RelV x u/\RelV y w':=by
 cases r with
 | cons r1 r2 =>
  cases r2 with
  | cons r3 r4=>cases r4;exact ⟨_,_,rfl,r1,r3⟩
theorem call_max2 (hc:X.calm=true):CallR X (.builtin "max") (fun xs H Q=>∃ i j,xs=[.int i,.int j]/\Q (.int (if j > i then j else i)) H):=by
 intro pins s σ H xs us Q I r h
 obtain ⟨i,j,rfl,q⟩:=h
 obtain ⟨u,w',rfl,⟨t,rfl⟩,⟨t',rfl⟩⟩:=vals2 r
 refine max_two_ints (I.ok.hd hc) fun h' tk k=>⟨_,H,I.kept k,?_,q⟩
 by_cases hj:j > i
 ·rw [if_pos hj,if_pos hj];exact ⟨_,rfl⟩
 ·rw [if_neg hj,if_neg hj];exact ⟨_,rfl⟩
theorem call_min2 (hc:X.calm=true):CallR X (.builtin "min") (fun xs H Q=>∃ i j,xs=[.int i,.int j]/\Q (.int (if j<i then j else i)) H):=by
 intro pins s σ H xs us Q I r h
 obtain ⟨i,j,rfl,q⟩:=h
 obtain ⟨u,w',rfl,⟨t,rfl⟩,⟨t',rfl⟩⟩:=vals2 r
 refine min_two_ints (I.ok.hd hc) fun h' tk k=>⟨_,H,I.kept k,?_,q⟩
 by_cases hj:j<i
 ·rw [if_pos hj,if_pos hj];exact ⟨_,rfl⟩
 ·rw [if_neg hj,if_neg hj];exact ⟨_,rfl⟩
end
structure ObjM (h:Heap) (x dx C:Addr) (mA:Str->Option Value):Prop where
 obj:h.get? x=some (PySem.W.instObj C dx)
 ns:h.Ns1 dx mA
 ne:dx≠x
theorem lookIn_ns {h:Heap}{dx:Addr}{mA:Str->Option Value}(n:h.Ns1 dx mA):∃ od,h.get? dx=some od/\∀ name,PySem.W.lookIn name od=some (mA name):=by
 obtain ⟨o,es,ep,ho,hd,hk,_,hm⟩:=n
 refine ⟨o,ho,fun name=>?_⟩
 have e:=hm name
 unfold nsFind findBy at e
 rw [<- Array.find?_toList] at e
 unfold PySem.W.lookIn
 rw [hd]
 dsimp only
 split
 ·rename_i y q
  rw [q] at e
  exact congrArg some e
 ·rename_i q
  rw [q] at e
  have a:es.toList.any (·.refKey)=false:=by
   rw [List.any_eq_false]
   intro y hy
   obtain ⟨z,t,hkey⟩:=hk y (Array.mem_toList_iff.mp hy)
   simp [DictEntry.refKey,hkey]
  have a':¬ es.toList.any (·.refKey)=true:=by rw [a];exact Bool.false_ne_true
  rw [if_neg a']
  exact congrArg some e
theorem ObjM.look {h:Heap}{x dx C:Addr}{mA:Str->Option Value}(I:ObjM h x dx C mA):∃ od,PySem.W.InstAt h x (PySem.W.instObj C dx) C (some od)/\∀ name,PySem.W.lookIn name od=some (mA name) :=
 let ⟨od,ho,hl⟩:=lookIn_ns I.ns
 ⟨od,⟨I.obj,rfl,rfl,ho⟩,hl⟩
section
variable {prog:Program}{w:World}{A:Around}{E:Value->Shared->Prop}{s:Shared}{K:PySem.W.Frag}{x dx C f:Addr}{mA:Str->Option Value}{name:Str}{v:Value}
theorem get_map {expr:Bool}{Q:Value->Shared->Prop}(X:K.In s.heap) (I:ObjM s.heap x dx C mA) (hg:PySem.W.plainGet K C name=true) (hh:PySem.W.hasDictIn K C=true)
  (ha:PySem.W.findIn K (.ref C) name=some none) (hv:mA name=some v) (hv':PySem.W.handedIn v=true) (h:Q v { s with toks:=s.toks+1 }) :
  wpAny (model prog w) A (getAttr (.ref x) name expr) Q E s:=by
 obtain ⟨od,J,hl⟩:=I.look
 exact PySem.W.get_value X J (PySem.W.plainGet_of hg).1 (PySem.W.findObj_own hh ha rfl (by rw [hl,hv])) hv' h
theorem get_meth {pl:Sem Bool}{Q:Value×List Value->Shared->Prop}(X:K.In s.heap) (I:ObjM s.heap x dx C mA) (hg:PySem.W.plainGet K C name=true)
  (hf:PySem.W.findIn K (.ref C) name=some (some (.ref f))) (ht:PySem.W.isFn K (.ref f)=true) (hv:mA name=none) (h:Q (.ref f,[.ref x]) s) :
  wpAny (model prog w) A (getMethod (.ref x) name pl) Q E s:=by
 obtain ⟨od,J,hl⟩:=I.look
 exact PySem.W.method_fn X J (PySem.W.plainGet_of hg).1 (PySem.W.plainGet_of hg).2 hf (beq_iff_eq.mp ht) (by show (PySem.W.lookIn name od).map (·.isSome)=some false;rw [hl,hv];rfl) h
theorem set_map {ns:List Str}{Q:Unit->Shared->Prop}(X:K.In s.heap) (I:ObjM s.heap x dx C mA)
  (hs:PySem.W.findIn K (.ref C) "__setattr__" = some (some (.builtin "object.__setattr__"))) (hp:PySem.W.plainOver K C=true) (ht:PySem.W.takerIn K C name=some none) (hh:PySem.W.hasDictIn K C=true)
  (hw:PySem.Within mA ns) (hsz:ns.length<=sizeLine)
  (h:∀ h',ObjM h' x dx C (fun y=>if y=name then some v else mA y)->Heap.SameBut dx s.heap h'->Q () { s with heap:=h',toks:=s.toks+2 }) :
  wpAny (model prog w) A (setAttr (.ref x) name v) Q E s:=by
 obtain ⟨od,J,hl⟩:=I.look
 refine PySem.W.set_plain X J hs (PySem.W.osa_open (s:={ s with toks:=s.toks+1 }) (r:=none) X J hp ht fun b=>?_)
 obtain ⟨cd,hc,hd'⟩:=PySem.W.any_some hh
 have hx:s.heap.get? x=some ⟨.ref C,some dx,.plain,#[]⟩:=I.obj
 refine wpAny_bind (wpAny_pure (wpAny_bind (wpAny_bind (wpAny_loadPart hx (wpAny_bind (PySem.W.Looks.here (s:={ s with toks:=s.toks+1 }) (PySem.W.looks_clsIn X hc) ?_))))))
 rw [hd']
 refine wpAny_pure (a:=some dx) (wpAny_bind (wpAny_pure (wpAny_bind ?_)))
 refine wpAny_nsSet1 (s:={ s with toks:=s.toks+1 }) I.ns fun h' hn2 hs2=>?_
 obtain ⟨oD,esD,epD,hoD,hdD,hcD⟩:=hn2.count (PySem.Within.cons name v hw)
 refine wpAny_bind (wpAny_lookBehind hoD (by rw [hdD];exact pastItsLine_dict (Nat.le_trans hcD (by rw [List.length_cons];omega))) ?_)
 exact wpAny_pure (h _ ⟨(hs2.2 _ (Ne.symm I.ne)).trans I.obj,hn2,I.ne⟩ hs2)
theorem make_map {R:Result->Shared->Prop}{vs:List Value}{kw:List (Str×Value)}(X:K.In s.heap) (hm:PySem.W.makesIn K C=true)
  (hi:PySem.W.findIn K (.ref C) "__init__" = some (some (.ref f))) (hf:PySem.W.typeIn K (.ref f)=some (.type "function"))
  (h:codeAny (model prog w) (A.under (.builtin "type.__call__" ⟨.ref C::vs,kw⟩)) (.call (.ref f) ⟨.ref (s.heap.objs.size+1)::vs,kw⟩) (PySem.W.InitBack (s.heap.objs.size+1) R)
   { s with heap:=(s.heap.push PySem.W.emptyDict).push (PySem.W.instObj C s.heap.objs.size) }) :
  codeAny (model prog w) A (.call (.ref C) ⟨vs,kw⟩) R s:=by
 obtain ⟨hh,g,d,t,os⟩:=s
 exact PySem.W.make_core (PySem.W.makes_of X hm) (PySem.W.looks_findIn X hi) (fun self=>PySem.W.bind_fn X self hf) (.inl rfl) h
end
def putF (f:Str) (v:V):List (Str×V)->List (Str×V)
 | []=>[(f,v)]
 | (g,x)::r=>if g=f then (g,v)::r else (g,x)::putF f v r
theorem lookup_putF (f g:Str) (v:V):∀ fs:List (Str×V),(putF f v fs).lookup g=if g=f then some v else fs.lookup g
 | []=>by
  show List.lookup g [(f,v)]=_
  by_cases h:g=f
  ·have hb:(g == f)=true:=beq_iff_eq.mpr h
   simp only [List.lookup,hb,if_pos h]
  ·have hb:(g == f)=false:=beq_eq_false_iff_ne.mpr h
   simp only [List.lookup,hb,if_neg h]
 | (k,x)::r=>by
  have ih:=lookup_putF f g v r
  rw [show putF f v ((k,x)::r)=(if k=f then (k,v)::r else (k,x)::putF f v r) from rfl]
  by_cases hk:k=f
  ·rw [if_pos hk]
   by_cases h:g=k
   ·have hb:(g == k)=true:=beq_iff_eq.mpr h
    simp only [List.lookup,hb,if_pos (h.trans hk)]
   ·have hb:(g == k)=false:=beq_eq_false_iff_ne.mpr h
    simp only [List.lookup,hb,if_neg (fun e:g=f=>h (e.trans hk.symm))]
  ·rw [if_neg hk]
   by_cases h:g=k
   ·have hb:(g == k)=true:=beq_iff_eq.mpr h
    simp only [List.lookup,hb,if_neg (fun e:g=f=>hk (h.symm.trans e))]
   ·have hb:(g == k)=false:=beq_eq_false_iff_ne.mpr h
    simp only [List.lookup,hb]
    exact ih
theorem keys_putF (f:Str) (v:V):∀ fs:List (Str×V),f∈(putF f v fs).map (·.1)/\∀ g,g∈fs.map (·.1)->g∈(putF f v fs).map (·.1)
 | []=>⟨by simp [putF],fun g h=>by simp at h⟩
 | (k,x)::r=>by
  obtain ⟨i1,i2⟩:=keys_putF f v r
  rw [show putF f v ((k,x)::r)=(if k=f then (k,v)::r else (k,x)::putF f v r) from rfl]
  by_cases hk:k=f
  ·rw [if_pos hk]
   subst hk
   exact ⟨by simp,fun g h=>by simpa using h⟩
  ·rw [if_neg hk]
   refine ⟨?_,fun g h=>?_⟩
   ·rw [List.map_cons]
    exact List.mem_cons_of_mem _ i1
   ·rw [List.map_cons] at h ⊢
    rcases List.mem_cons.mp h with e|e
    ·exact List.mem_cons.mpr (.inl e)
    ·exact List.mem_cons_of_mem _ (i2 g e)
theorem length_putF (f:Str) (v:V):∀ fs:List (Str×V),(putF f v fs).length<=fs.length+1
 | []=>by simp [putF]
 | (k,x)::r=>by
  have ih:=length_putF f v r
  rw [show putF f v ((k,x)::r)=(if k=f then (k,v)::r else (k,x)::putF f v r) from rfl]
  by_cases hk:k=f
  ·rw [if_pos hk,List.length_cons,List.length_cons];omega
  ·rw [if_neg hk,List.length_cons,List.length_cons];omega
theorem RelO.some_of {v:V}{o:Option Value}(r:RelO (some v) o):∃ u,o=some u/\RelV v u:=by
 cases o with
 | none=>exact (show False from r).elim
 | some u=>exact ⟨u,rfl,r⟩
theorem RelO.none_of {o:Option Value}(r:RelO none o):o=none:=by
 cases o with
 | none=>rfl
 | some u=>exact (show False from r).elim
theorem handed_of {v:V}{u:Value}(r:RelV v u):PySem.W.handedIn u=true:=by
 cases v with
 | non=>cases (show u=Value.none from r);rfl
 | bl b=>cases (show u=Value.bool b from r);rfl
 | int i=>obtain ⟨t,e⟩:=(show ∃ t,u=Value.int i t from r);cases e;rfl
 | str x=>obtain ⟨t,e⟩:=(show ∃ t,u=Value.str x t from r);cases e;rfl
 | byt b=>obtain ⟨t,e⟩:=(show ∃ t,u=Value.bytes b t from r);cases e;rfl
 | flt b=>obtain ⟨t,e⟩:=(show ∃ t,u=Value.float b t from r);cases e;rfl
 | ref a=>cases (show u=Value.ref a from r);rfl
 | ty n=>cases (show u=Value.type n from r);rfl
section
variable {P:Program}{w:World}{H H':Hp}{h h':Heap}{a C dx:Addr}{fs fs':List (Str×V)}
theorem ins_get (hok:HOk P w H h) (e:H a=some (.ins C dx fs)):∃ mA,ObjM h a dx C mA/\(∀ f,RelO (fs.lookup f) (mA f))/\PySem.Within mA (fs.map (·.1))/\fs.length<=1000/\H dx=some (.own a):=by
 obtain ⟨d,z,ne,ob,mA,n,r,q⟩:=(show ObjOk P w H h a (.ins C dx fs) from hok a _ e)
 exact ⟨mA,⟨ob,n,ne⟩,r,q,z,d⟩
end
structure Cls (K:PySem.W.Frag) (C:Addr):Prop where
 pg:PySem.W.plainGet K C Str.empty=true
 hd:PySem.W.hasDictIn K C=true
 po:PySem.W.plainOver K C=true
 sa:PySem.W.findIn K (.ref C) "__setattr__" = some (some (.builtin "object.__setattr__"))
theorem Cls.get {K:PySem.W.Frag}{C:Addr}(c:Cls K C) (f:Str):PySem.W.plainGet K C f=true:=c.pg
def NoAttr (K:PySem.W.Frag) (C:Addr) (f:Str):Prop:=PySem.W.findIn K (.ref C) f=some none
theorem NoAttr.taker {K:PySem.W.Frag}{C:Addr}{f:Str}(n:NoAttr K C f):PySem.W.takerIn K C f=some none:=by
 unfold PySem.W.takerIn
 rw [show PySem.W.findIn K (.ref C) f=some none from n]
 rfl
structure Con (K:PySem.W.Frag) (C:Addr) (f:Str) (v:V) (u:Value):Prop where
 at_:PySem.W.findIn K (.ref C) f=some (some u)
 rel:RelV v u
 get:PySem.W.specialIn K u "__get__" = some none
 cp:PySem.W.copiedNames.contains f=false
structure Meth (K:PySem.W.Frag) (C:Addr) (m:Str) (f:Addr):Prop where
 at_:PySem.W.findIn K (.ref C) m=some (some (.ref f))
 fn:PySem.W.isFn K (.ref f)=true
 kp:PySem.W.keepIn K (.ref f)=true
section
variable {X:Cx}{pins:List (Addr×Obj)}{σ:St}{H:Hp}{s:Shared}{a C dx:Addr}{fs:List (Str×V)}{f:Str}{v:V}{A:Around}{E:Value->Shared->Prop}
theorem getattr_ok {b:Bool}{Q:Value->Shared->Prop}(I:Inv X pins σ H s) (e:H a=some (.ins C dx fs)) (c:Cls X.K C) (n:NoAttr X.K C f) (l:fs.lookup f=some v)
  (h:∀ u s',Inv X pins σ H s'->RelV v u->Q u s'):wpAny (model X.prog X.w) A (getAttr (.ref a) f b) Q E s:=by
 obtain ⟨mA,O,r,_,_,_⟩:=ins_get I.hok e
 obtain ⟨u,hu,ru⟩:=RelO.some_of (v:=v) (o:=mA f) (by rw [<- l];exact r f)
 exact get_map I.kIn O (c.get f) c.hd n hu (handed_of ru) (h u _ (I.tok _) ru)
theorem getmeth_ok {m:Str}{g:Addr}{pl:Sem Bool}{Q:Value×List Value->Shared->Prop}(I:Inv X pins σ H s) (e:H a=some (.ins C dx fs)) (c:Cls X.K C) (k:Meth X.K C m g) (l:fs.lookup m=none)
  (h:Q (.ref g,[.ref a]) s):wpAny (model X.prog X.w) A (getMethod (.ref a) m pl) Q E s:=by
 obtain ⟨mA,O,r,_,_,_⟩:=ins_get I.hok e
 have hn:mA m=none:=RelO.none_of (by rw [<- l];exact r m)
 exact get_meth I.kIn O (c.get m) k.at_ k.fn hn h
theorem setattr_ok {y:V}{u:Value}{Q:Unit->Shared->Prop}(I:Inv X pins σ H s) (e:H a=some (.ins C dx fs)) (c:Cls X.K C) (n:NoAttr X.K C f) (hl:fs.length<1000) (ry:RelV y u)
  (h:∀ s',Inv X pins σ (upd H a (.ins C dx (putF f y fs))) s'->Q () s'):wpAny (model X.prog X.w) A (setAttr (.ref a) f u) Q E s:=by
 obtain ⟨mA,O,r,wi,_,ho⟩:=ins_get I.hok e
 have hz:(fs.map (·.1)).length<=sizeLine:=by rw [List.length_map,sizeLine_eq];omega
 refine set_map I.kIn O c.sa c.po n.taker c.hd wi hz fun h' O' sb=>h _ ?_
 have hd:∃ o,h'.get? dx=some o:=let ⟨o,_,_,e',_⟩:=O'.ns;⟨o,e'⟩
 refine I.write (x:=a) (e:=dx) (by rw [e];exact True.intro) (.inr ho) (fun b q hb z=>(sb.2 b hb).trans z) hd ?_
 refine ⟨by rw [upd_ne O.ne];exact ho,?_,O.ne,O'.obj,_,O'.ns,fun g=>?_,fun g hg=>?_⟩
 ·have:=length_putF f y fs;omega
 ·show RelO ((putF f y fs).lookup g) (if g=f then some u else mA g)
  rw [lookup_putF]
  by_cases q:g=f
  ·rw [if_pos q,if_pos q];exact ry
  ·rw [if_neg q,if_neg q];exact r g
 ·by_cases q:g=f
  ·rw [q];exact (keys_putF f y fs).1
  ·refine (keys_putF f y fs).2 g (wi g fun z=>hg ?_)
   show (if g=f then some u else mA g)=none
   rw [if_neg q];exact z
theorem Inv.made (I:Inv X pins σ H s):Inv X pins σ (upd (upd H s.heap.objs.size (.own (s.heap.objs.size+1))) (s.heap.objs.size+1) (.ins C s.heap.objs.size []))
  { s with heap:=(s.heap.push PySem.W.emptyDict).push (PySem.W.instObj C s.heap.objs.size) }:=by
 have e1:(s.heap.push PySem.W.emptyDict).get? s.heap.objs.size=some PySem.W.emptyDict:=Heap.get?_push_size s.heap rfl
 have e2:((s.heap.push PySem.W.emptyDict).push (PySem.W.instObj C s.heap.objs.size)).get? (s.heap.objs.size+1)=some (PySem.W.instObj C s.heap.objs.size):=by
  have:=Heap.get?_push_size (s.heap.push PySem.W.emptyDict) (o:=PySem.W.instObj C s.heap.objs.size) rfl
  rwa [Heap.size_push] at this
 have e3:(s.heap.push PySem.W.emptyDict).Ns s.heap.objs.size (fun _=>none):=⟨PySem.W.emptyDict,#[],_,e1,rfl,(fun e he=>absurd he (by simp)),fun _=>rfl⟩
 have I1:=I.laid (a:=s.heap.objs.size) (o:=.own (s.heap.objs.size+1)) (h':=s.heap.push PySem.W.emptyDict) (t':=s.toks) (fun b u q=>Heap.get?_push_of_some _ q) (Nat.le_refl _) ⟨_,e1⟩
 refine I1.laid (a:=s.heap.objs.size+1) (o:=.ins C s.heap.objs.size []) (t':=s.toks) (fun b u q=>Heap.get?_push_of_some _ q) (Nat.le_of_eq (Heap.size_push _ _)) ?_
 have ne:s.heap.objs.size≠s.heap.objs.size+1:=Nat.ne_of_lt (Nat.lt_succ_self _)
 refine ⟨by rw [upd_ne ne,upd_same],Nat.zero_le _,ne,e2,fun _=>none,(Heap.Ns1.of_empty e3).at fun o q=>Heap.get?_push_of_some _ q,fun _=>True.intro,fun y hy=>absurd rfl hy⟩
theorem attr_of {prog:Program}{w:World}{env:Env}{e:Expr}{f:Str}{pos:Pos}{s:Shared}{Q:Value->Shared->Prop}(hb:attributeBase e f env (eval e env)=eval e env)
  (h:wpAny (model prog w) A (eval e env) (fun o s₁=>wpAny (model prog w) A (getAttr o f true) Q E s₁) E s):wpAny (model prog w) A (eval (.Attribute e f pos) env) Q E s :=
 Attribute_any_ h (by rw [arm_eval_Attribute,hb])
end
def tFld (K:PySem.W.Frag) (ta:TE) (f:Str):TE:=fun σ H Q=>ta σ H fun x H1=>∃ a C dx fs v,x=.ref a/\H1 a=some (.ins C dx fs)/\Cls K C/\NoAttr K C f/\fs.lookup f=some v/\Q v H1
def sFld (K:PySem.W.Frag) (ta tv:TE) (f:Str):TS:=fun D σ H=>tv σ H fun y H1=>ta σ H1 fun x H2=>∃ a C dx fs,x=.ref a/\H2 a=some (.ins C dx fs)/\Cls K C/\NoAttr K C f/\fs.length<1000 /\
 D.nx σ (upd H2 a (.ins C dx (putF f y fs)))
section
variable {X:Cx}{o e value:Expr}{f:Str}{pos pos' tpos:Pos}{ta tv:TE}
theorem pe_fld (he:PE X e ta) (hb:attributeBase e f X.env (eval e X.env)=eval e X.env):PE X (.Attribute e f pos) (tFld X.K ta f):=by
 intro pins s σ H Q I h
 refine attr_of hb (thn (he pins s σ H _ I h) fun u s1 ⟨x,H1,I1,rx,a,C,dx,fs,v,ex,ea,c,n,l,q⟩=>?_)
 subst ex
 obtain rfl:u=Value.ref a:=rx
 exact getattr_ok I1 ea c n l fun u' s2 I2 ru=>⟨v,H1,I2,ru,q⟩
theorem ps_fld (ha:PE X o ta) (hv:PE X value tv) (hs:swapsWith value (some (.Attribute o f pos')) pos.line X.env=pure false):PS X (.Assign [.Attribute o f pos'] value pos) (sFld X.K ta tv f):=by
 intro pins s σ H D I h
 refine plainObj_wpAny_Assign_Attribute (thn (hv pins s σ H _ I h) fun u s1 ⟨y,H1,I1,ry,q⟩=>thn (ha pins s1 σ H1 _ I1 q) fun ov s2 ⟨x,H2,I2,rx,a,C,dx,fs,ex,ea,c,n,l,q2⟩=>?_) hs
 subst ex
 obtain rfl:ov=Value.ref a:=rx
 exact setattr_ok I2 ea c n l ry fun s3 I3=>⟨σ,_,I3,q2⟩
end
section
variable {X:Cx}{pins:List (Addr×Obj)}{σ:St}{H:Hp}{s:Shared}{A:Around}{E:Value->Shared->Prop}{Q:Value->Shared->Prop}{c:Value}{b:Bool}
inductive TyOf (K:PySem.W.Frag) (H:Hp):V->Value->Prop where
 | non:TyOf K H .non (.type "NoneType")
 | bl (x:Bool):TyOf K H (.bl x) (.type "bool")
 | int (i:Int):TyOf K H (.int i) (.type "int")
 | str (x:Str):TyOf K H (.str x) (.type "str")
 | flt (x:UInt64):TyOf K H (.flt x) (.type "float")
 | lst {a:Addr} {xs:List V} (e:H a=some (.lst xs)):TyOf K H (.ref a) (.type "list")
 | frz {a:Addr} {o:Obj} {xs:List V} (e:H a=some (.frz o (.lst xs))):TyOf K H (.ref a) (.type "list")
 | tup {a:Addr} {xs:List V} (e:H a=some (.tup xs)):TyOf K H (.ref a) (.type "tuple")
 | dK {a:Addr} {kvs:List (Key×V)} (e:H a=some (.dK kvs)):TyOf K H (.ref a) (.type "dict")
 | dT {a:Addr} {kvs:List (List Key×V)} (e:H a=some (.dT kvs)):TyOf K H (.ref a) (.type "dict")
 | ins {a C dx:Addr} {fs:List (Str×V)} (e:H a=some (.ins C dx fs)) (cl:Cls K C) (ha:PySem.W.findIn K (.ref C) "__class__" = some (some (.builtin "object.__class__")))
   (hn:PySem.W.specialIn K (.builtin "object.__class__") "__get__" = some (some (.builtin "getset_descriptor.__get__"))) (htk:PySem.W.takesIn K (.builtin "object.__class__")=some true)
   (hm:PySem.W.mroIn K C (.type "object")=some true):TyOf K H (.ref a) (.ref C)
theorem isinst_ok {x:V}{u t:Value}(I:Inv X pins σ H s) (rx:RelV x u) (ty:TyOf X.K H x t) (e:PySem.W.kitOne X.K t c=some b) (h:∀ tk,Q (.bool b) { s with toks:=tk }) :
  wpAny (model X.prog X.w) A (call (.builtin "isinstance") [u,c]) Q E s:=by
 cases ty with
 | non=>cases (show u=Value.none from rx);exact PySem.W.kia_one PySem.W.kitx_none I.kIn True.intro e (fun z=>nomatch z) h
 | bl y=>cases (show u=Value.bool y from rx);exact PySem.W.kia_one PySem.W.kitx_bool I.kIn True.intro e (fun z=>nomatch z) h
 | int i=>obtain ⟨t,q⟩:=(show ∃ t,u=Value.int i t from rx);cases q;exact PySem.W.kia_one PySem.W.kitx_int I.kIn True.intro e (fun z=>nomatch z) h
 | str y=>obtain ⟨t,q⟩:=(show ∃ t,u=Value.str y t from rx);cases q;exact PySem.W.kia_one PySem.W.kitx_str I.kIn True.intro e (fun z=>nomatch z) h
 | flt y=>obtain ⟨t,q⟩:=(show ∃ t,u=Value.float y t from rx);cases q;exact PySem.W.kia_one PySem.W.kitx_float I.kIn True.intro e (fun z=>nomatch z) h
 | @lst a xs ea =>
  cases (show u=Value.ref a from rx)
  obtain ⟨_,_,n,_,h1⟩:=(show ObjOk X.prog X.w H s.heap a (.lst xs) from I.hok a _ ea)
  exact PySem.W.kia_one PySem.W.kitx_list I.kIn ⟨_,h1,rfl⟩ e (fun z=>nomatch z) h
 | @frz a ob xs ea =>
  cases (show u=Value.ref a from rx)
  obtain ⟨_,_,_,n,_,h1⟩:=(show ObjOk X.prog X.w H s.heap a (.frz ob (.lst xs)) from I.hok a _ ea)
  exact PySem.W.kia_one PySem.W.kitx_list I.kIn ⟨_,h1,rfl⟩ e (fun z=>nomatch z) h
 | @tup a xs ea =>
  cases (show u=Value.ref a from rx)
  obtain ⟨_,_,_,p⟩:=(show ObjOk X.prog X.w H s.heap a (.tup xs) from I.hok a _ ea)
  obtain ⟨o,h1,h2,_⟩:=p
  exact PySem.W.kia_one PySem.W.kitx_tuple I.kIn ⟨o,h1,h2⟩ e (fun z=>nomatch z) h
 | @dK a kvs ea =>
  cases (show u=Value.ref a from rx)
  obtain ⟨_,_,vs,_,p⟩:=(show ObjOk X.prog X.w H s.heap a (.dK kvs) from I.hok a _ ea)
  obtain ⟨o,es,ep,h1,h2,_⟩:=p
  exact PySem.W.kia_one PySem.W.kitx_dict I.kIn ⟨o,h1,h2.1⟩ e (fun z=>nomatch z) h
 | @dT a kvs ea =>
  cases (show u=Value.ref a from rx)
  obtain ⟨_,_,xs,_,o,es,ep,h1,h2,_⟩:=(show ObjOk X.prog X.w H s.heap a (.dT kvs) from I.hok a _ ea)
  exact PySem.W.kia_one PySem.W.kitx_dict I.kIn ⟨o,h1,h2.1⟩ e (fun z=>nomatch z) h
 | @ins a C dx fs ea cl ha hn htk hm =>
  cases (show u=Value.ref a from rx)
  obtain ⟨mA,O,_⟩:=ins_get I.hok ea
  obtain ⟨od,J,_⟩:=O.look
  exact PySem.W.kia_one (PySem.W.kitx_own (cl.get _) cl.hd ha hn htk hm) I.kIn J e (fun z=>nomatch z) h
end
structure Room (k:Nat) (A:Around):Prop where
 hd:A.handled=none
 dp:A.depth+3*k+5<recursionLimit
 un:A.units+16*k+200<cLine
theorem Room.mono {j k:Nat}{A:Around}(r:Room k A) (h:j<=k):Room j A:=⟨r.hd,by have:=r.dp;omega,by have:=r.un;omega⟩
theorem Room.deeper {k:Nat}{A:Around}(r:Room (k+1) A) (env:Env):Room k (A.deeper env) :=
 ⟨r.hd,by have:=r.dp;show A.depth+1+3*k+5<_;omega,by have:=r.un;show A.units+3+16*k+200<_;omega⟩
theorem Room.in1 {k:Nat}{A:Around}(r:Room (k+1) A):Room k A.in1 :=
 ⟨r.hd,by have:=r.dp;show A.depth+3*k+5<_;omega,by have:=r.un;show A.units+1+16*k+200<_;omega⟩
theorem make_depth {A:Around}{C:Addr}{us:List Value}{kw:List (Str×Value)}:(A.under (.builtin "type.__call__" ⟨.ref C::us,kw⟩)).depth=A.depth+1:=by
 first | rfl | simp [Around.under,Code.weight,Code.isCreation,Code.isGuard,Code.isCaller,Code.frames,Code.isFrame,guardIds]
theorem make_units {A:Around}{C:Addr}{us:List Value}{kw:List (Str×Value)}:(A.under (.builtin "type.__call__" ⟨.ref C::us,kw⟩)).units=A.units+1:=by
 first | rfl | simp [Around.under,Code.cUnits,Code.frames,Code.isFrame]
theorem Room.make {k:Nat}{A:Around}(r:Room (k+1) A) (C:Addr) (us:List Value) (kw:List (Str×Value)):Room k (A.under (.builtin "type.__call__" ⟨.ref C::us,kw⟩)) :=
 ⟨r.hd,by have:=r.dp;rw [make_depth];omega,by have:=r.un;rw [make_units];omega⟩
theorem Room.depth {k:Nat}{A:Around}(r:Room k A):A.depth<recursionLimit:=by have:=r.dp;omega
theorem Room.units {k:Nat}{A:Around}(r:Room k A):A.units+64<cLine:=by have:=r.un;omega
def tNil:TA:=fun _ H Q=>Q [] H
def tCons (ta:TE) (tr:TA):TA:=fun σ H Q=>ta σ H fun x H1=>tr σ H1 fun xs H2=>Q (x::xs) H2
section
variable {X:Cx}{e:Expr}{es:List Expr}{te:TE}{t:TA}{pos:Pos}
theorem pa_nil:PA X [] tNil:=fun _ _ _ _ H Q I h=>Calls.spliced_nil ⟨[],H,I,.nil,h⟩
theorem pa_cons (ha:PE X e te) (hr:PA X es t) (hs:starEach (e::es) X.env=(false,eval e X.env)::starEach es X.env:=by rfl):PA X (e::es) (tCons te t):=by
 intro pos pins s σ H Q I h
 rw [hs]
 show wpAny _ _ (spliced ((false,eval e X.env)::backTo pos (starEach es X.env))) _ _ s
 refine Calls.spliced_cons (thn (ha pins s σ H _ I h) fun u s1 ⟨x,H1,I1,r1,q1⟩=>?_)
 exact thn (hr pos pins s1 σ H1 _ I1 q1) fun us s2 ⟨xs,H2,I2,r2,q2⟩=>⟨x::xs,H2,I2,.cons r1 r2,q2⟩
def tTup (t:TA):TE:=fun σ H Q=>t σ H fun xs H1=>xs.length<=sizeLine/\∀ p,H1 p=none->Q (.ref p) (upd H1 p (.tup xs))
def tLst (t:TA):TE:=fun σ H Q=>t σ H fun xs H1=>xs.length<=sizeLine/\∀ p,H1 p=none->Q (.ref p) (upd H1 p (.lst xs))
theorem pe_tup {x1} (h:PA X es t):PE X (.Tuple es x1 pos) (tTup t):=by
 intro pins s σ H Q I hq
 refine wpAny_Tuple_spliced (thn (h pos pins s σ H _ I hq) fun us s1 ⟨xs,H1,I1,r,z,q⟩=>⟨by rw [<- r.length];exact z,?_⟩)
 have hf:H1 s1.heap.objs.size=none:=I1.hok.fresh (Nat.le_refl _)
 refine ⟨.ref s1.heap.objs.size,upd H1 s1.heap.objs.size (.tup xs),I1.laid (t':=s1.toks) (fun b u e=>Heap.get?_push_of_some _ e) (Nat.le_refl _) ?_,rfl,q _ hf⟩
 exact ⟨z,us,r,⟨_,Heap.get?_push_size _ rfl,rfl,_,rfl⟩⟩
theorem pe_lst (h:PA X es t):PE X (.List es pos) (tLst t):=by
 intro pins s σ H Q I hq
 refine wpAny_List_spliced (thn (h pos pins s σ H _ I hq) fun us s1 ⟨xs,H1,I1,r,z,q⟩=>⟨by rw [<- r.length];exact z,?_⟩)
 have hf:H1 s1.heap.objs.size=none:=I1.hok.fresh (Nat.le_refl _)
 refine ⟨.ref s1.heap.objs.size,upd H1 s1.heap.objs.size (.lst xs),I1.laid (t':=s1.toks) (fun b u e=>Heap.get?_push_of_some _ e) (Nat.le_refl _) ?_,rfl,q _ hf⟩
 exact ⟨z,us,0,r,Heap.get?_push_size _ rfl⟩
end
abbrev Sp:=List V->Hp->VK->XK->Prop
abbrev CXT:=List Env->Hp->Shared->XK->Value->Shared->Prop
structure Env0 (P:Program) (w:World) (K:PySem.W.Frag) (mg:Str->Option Value) (base:Heap) (A:Around) (outer:List Env) (s:Shared) (H:Hp):Prop where
 frames:A.frames=some outer
 mod:Mod K mg base
 bs:∀ b o,base.get? b=some o->s.heap.get? b=some o/\H b=none
 bsz:base.objs.size<=s.heap.objs.size
 funs:s.heap.FunFrames base outer
 frf:∀ b∈frs outer,H b=none
 hok:HOk P w H s.heap
 bare:AllBare s.gens
def CE (outer:List Env) (P:Program) (w:World) (H:Hp) (s:Shared) (Q:VK) (u:Value) (s':Shared):Prop :=
 ∃ v H',s'.os=s.os/\AllBare s'.gens/\Un (frs outer) [] H H' s.heap s'.heap/\HOk P w H' s'.heap/\RelV v u/\Q v H'
def CR (CX:CXT) (outer:List Env) (P:Program) (w:World) (H:Hp) (s:Shared) (Q:VK) (E:XK) (r:Result) (s':Shared):Prop :=
 match r with
 | .ok (.ret u)=>CE outer P w H s Q u s'
 | .ok _=>False
 | .error e=>CX outer H s E e s'
structure FnOk (P:Program) (w:World) (K:PySem.W.Frag) (mg:Str->Option Value) (base:Heap) (CX:CXT) (k:Nat) (f:Addr) (fd:FuncData) (ps:List Str) (sp:Sp):Prop where
 len:∀ vs H Q E,sp vs H Q E->vs.length=ps.length
 run:∀ (A:Around) (outer:List Env) (s:Shared) (H:Hp) (args:Args) (us:List Value) (vs:List V) (Q:VK) (E:XK),Room k A->Env0 P w K mg base A outer s H->BindsTo s fd args (ps.zip us)->Vals vs us->sp vs H Q E ->
  codeAny (model P w) A (.call (.ref f) args) (CR CX outer P w H s Q E) s
theorem FnOk.mono {P:Program}{w:World}{K:PySem.W.Frag}{mg:Str->Option Value}{base:Heap}{CX:CXT}{j k:Nat}{f:Addr}{fd:FuncData}{ps:List Str}{sp:Sp}(F:FnOk P w K mg base CX j f fd ps sp) (h:j<=k) :
  FnOk P w K mg base CX k f fd ps sp:=⟨F.len,fun A outer s H args us vs Q E hr=>F.run A outer s H args us vs Q E (hr.mono h)⟩
theorem Env0.make {P:Program}{w:World}{K:PySem.W.Frag}{mg:Str->Option Value}{base:Heap}{A:Around}{outer:List Env}{s:Shared}{H:Hp}(e:Env0 P w K mg base A outer s H) (C:Addr) (us:List Value) (kw:List (Str×Value)) :
  Env0 P w K mg base (A.under (.builtin "type.__call__" ⟨.ref C::us,kw⟩)) outer s H:=⟨by first | exact e.frames | (simpa [Around.under,Code.envs,Code.isFrame,pushEnvs] using e.frames),e.mod,e.bs,e.bsz,e.funs,e.frf,e.hok,e.bare⟩
theorem Env0.in1 {P:Program}{w:World}{K:PySem.W.Frag}{mg:Str->Option Value}{base:Heap}{A:Around}{outer:List Env}{s:Shared}{H:Hp}(e:Env0 P w K mg base A outer s H) :
  Env0 P w K mg base A.in1 outer s H:=⟨e.frames,e.mod,e.bs,e.bsz,e.funs,e.frf,e.hok,e.bare⟩
section
variable {X:Cx}{pins:List (Addr×Obj)}{σ:St}{H:Hp}{s s':Shared}
theorem Inv.env0 (I:Inv X pins σ H s):Env0 X.prog X.w X.K X.mg X.base X.A X.stack s H :=
 ⟨I.ok.frames,I.ok.mod,I.bs,Nat.le_trans I.ok.bsz I.sz,I.stack,I.stkFree,I.hok,I.bare⟩
theorem Inv.after {Q:VK}{u:Value}(I:Inv X pins σ H s) (h:CE X.stack X.prog X.w H s Q u s'):EP X pins σ Q u s':=by
 obtain ⟨v,H',os,bare,un,hok,r,q⟩:=h
 obtain ⟨hh,g,d,t,os'⟩:=s'
 obtain rfl:os'=s.os:=os
 exact ⟨v,H',I.call (h':=hh) (g':=g) (d':=d) (t':=t) (ch:=[]) un hok bare (fun b z=>absurd z (by simp)),r,q⟩
end
def tCall (sp:Sp) (dvs:List V) (E:XK) (t:TA):TE:=fun σ H Q=>t σ H fun vs H1=>sp (vs++dvs) H1 Q E
def tMeth (C:Addr) (m:Str) (sp:Sp) (dvs:List V) (E:XK) (ta:TE) (t:TA):TE:=fun σ H Q=>ta σ H fun x H1=>∃ a dx fs,x=.ref a/\H1 a=some (.ins C dx fs)/\fs.lookup m=none /\
 t σ H1 fun vs H2=>sp (x::(vs++dvs)) H2 Q E
def tMake (C:Addr) (sp:Sp) (dvs:List V) (E:XK) (t:TA):TE:=fun σ H Q=>t σ H fun vs H1=>∀ x dx,H1 x=none->H1 dx=none->dx≠x ->
 sp (.ref x::(vs++dvs)) (upd (upd H1 dx (.own x)) x (.ins C dx [])) (fun v H2=>v=.non/\Q (.ref x) H2) E
def Binds (K:PySem.W.Frag) (fd:FuncData) (ps:List Str) (ds:List Value):Prop :=
 ∀ (s:Shared) (us:List Value),K.In s.heap->(us++ds).length=ps.length->BindsTo s fd ⟨us,[]⟩ (ps.zip (us++ds))
theorem Binds.all {K:PySem.W.Frag}{fd:FuncData}{ps:List Str}(h:∀ us:List Value,us.length=ps.length->bindArgs fd ⟨us,[]⟩=pure (ps.zip us)):Binds K fd ps []:=fun s us _ hl=>by
 rw [List.append_nil] at hl ⊢
 exact .of_eq (h us hl)
def Passes (CX:CXT) (X:Cx) (E:XK):Prop:=∀ (pins:List (Addr×Obj)) (σ:St) (H:Hp) (s:Shared) (e:Value) (s':Shared),Inv X pins σ H s->CX X.stack H s E e s'->X.xe e s'
section
variable {X:Cx}{CX:CXT}{k:Nat}{f C:Addr}{fd:FuncData}{ps:List Str}{sp:Sp}{dvs:List V}{ds:List Value}{E:XK}{x m:Str}{p pos apos:Pos}{e o:Expr}{es:List Expr}{ta:TE}{t:TA}
theorem run_fn {pins:List (Addr×Obj)}{σ:St}{H:Hp}{s:Shared}{Q:VK}{us:List Value}{vs:List V}(F:FnOk X.prog X.w X.K X.mg X.base CX k f fd ps sp) (hr:Room k X.A) (hb:Binds X.K fd ps ds) (hd:Vals dvs ds) (hx:Passes CX X E)
  (I:Inv X pins σ H s) (r:Vals vs us) (h:sp (vs++dvs) H Q E):wpAny (model X.prog X.w) X.A (call (.ref f) us) (EP X pins σ Q) X.xe s:=by
 have r2:Vals (vs++dvs) (us++ds):=r.append hd
 have hl:(us++ds).length=ps.length:=by rw [<- r2.length];exact F.len _ _ _ _ h
 refine wpAny_call (codeAny_mono (F.run X.A X.stack s H ⟨us,[]⟩ (us++ds) (vs++dvs) Q E hr I.env0 (hb s us I.kIn hl) r2 h) fun r s' hq=>?_)
 cases r with
 | error e=>exact hx pins σ H s e s' I hq
 | ok fl =>
  cases fl with
  | ret u=>exact I.after hq
  | next=>exact False.elim hq
  | brk=>exact False.elim hq
  | cont=>exact False.elim hq
theorem pe_call (F:FnOk X.prog X.w X.K X.mg X.base CX k f fd ps sp) (hr:Room k X.A) (hg:Gl X x) (hm:X.mg x=some (.ref f)) (hk:PySem.W.keepIn X.K (.ref f)=true) (hb:Binds X.K fd ps ds) (hd:Vals dvs ds) (hx:Passes CX X E)
  (ha:PA X (e::es) t) (hdb:(x == ("__debug__":Str))=false:=by decide) (he:starEach (e::es) X.env=(false,eval e X.env)::starEach es X.env:=by rfl) (hpl:(backTo pos (starEach es X.env)).any (·.1)=false:=by rfl) :
  PE X (.Call (.Name x p) (e::es) [] pos) (tCall sp dvs E t):=by
 intro pins s σ H Q I h
 refine wpAny_Call_Name_kw (ld_glob I hg hm ?_ hdb)
 refine PySem.W.callWith_K (h₀:=X.base) I.ok.mod.kin hk (thn (ha pos pins s σ H _ I h) fun us s1 ⟨vs,H1,I1,r,q⟩=>⟨I1.kIn,?_⟩) he hpl
 exact run_fn F hr hb hd hx I1 r q
theorem pe_meth {pl:Sem Bool}(he:PE X o ta) (c:Cls X.K C) (hm:Meth X.K C m f) (F:FnOk X.prog X.w X.K X.mg X.base CX k f fd ps sp) (hr:Room k X.A) (hb:Binds X.K fd ps ds) (hd:Vals dvs ds) (hx:Passes CX X E) (ha:PA X (e::es) t)
  (hst:starEach (e::es) X.env=(false,eval e X.env)::starEach es X.env:=by rfl) (hpl:(backTo pos (starEach es X.env)).any (·.1)=false:=by rfl)
  (ht:eval (.Call (.Attribute o m apos) (e::es) [] pos) X.env=(do
   let ov <- eval o X.env
   standAt apos.atName
   let (f,first) <- holding [ov] (getMethod ov m pl)
   callWith pos f first (backTo pos (starEach (e::es) X.env)) (backToKw pos (keywordEach [] X.env))):=by rfl) :
  PE X (.Call (.Attribute o m apos) (e::es) [] pos) (tMeth C m sp dvs E ta t):=by
 intro pins s σ H Q I h
 refine PySem.W.methodCall_KW (pl:=pl) (thn (he pins s σ H _ I h) fun u s1 ⟨x,H1,I1,rx,a,dx,fs,ex,ea,l,q⟩=>?_) ht
 subst ex
 obtain rfl:u=Value.ref a:=rx
 refine getmeth_ok I1 ea c hm l ?_
 refine PySem.W.callWith_K (first:=[.ref a]) (h₀:=X.base) I.ok.mod.kin hm.kp (thn (ha pos pins s1 σ H1 _ I1 q) fun us s2 ⟨vs,H2,I2,r,q2⟩=>⟨I2.kIn,?_⟩) hst hpl
 exact run_fn (us:=.ref a::us) (vs:=.ref a::vs) F hr hb hd hx I2 (.cons rfl r) q2
theorem pe_meth0 {pl:Sem Bool}(he:PE X o ta) (c:Cls X.K C) (hm:Meth X.K C m f) (F:FnOk X.prog X.w X.K X.mg X.base CX k f fd ps sp) (hr:Room k X.A) (hb:Binds X.K fd ps ds) (hd:Vals dvs ds) (hx:Passes CX X E)
  (ht:eval (.Call (.Attribute o m apos) [] [] pos) X.env=(do
   let ov <- eval o X.env
   standAt apos.atName
   let (f,first) <- holding [ov] (getMethod ov m pl)
   callWith pos f first (backTo pos (starEach [] X.env)) (backToKw pos (keywordEach [] X.env))):=by rfl) :
  PE X (.Call (.Attribute o m apos) [] [] pos) (tMeth C m sp dvs E ta tNil):=by
 intro pins s σ H Q I h
 refine PySem.W.methodCall_KW (pl:=pl) (thn (he pins s σ H _ I h) fun u s1 ⟨x,H1,I1,rx,a,dx,fs,ex,ea,l,q⟩=>?_) ht
 subst ex
 obtain rfl:u=Value.ref a:=rx
 refine getmeth_ok I1 ea c hm l ?_
 exact PySem.W.callWith_K0 (first:=[.ref a]) I1.kIn hm.kp (run_fn (us:=[.ref a]) (vs:=[.ref a]) F hr hb hd hx I1 (.cons rfl .nil) q)
structure Mk (K:PySem.W.Frag) (C f:Addr):Prop where
 makes:PySem.W.makesIn K C=true
 init:PySem.W.findIn K (.ref C) "__init__" = some (some (.ref f))
 fn:PySem.W.isFn K (.ref f)=true
 kp:PySem.W.keepIn K (.ref C)=true
theorem run_make {pins:List (Addr×Obj)}{σ:St}{H:Hp}{s:Shared}{Q:VK}{us:List Value}{vs:List V}(M:Mk X.K C f) (F:FnOk X.prog X.w X.K X.mg X.base CX k f fd ps sp) (hr:Room (k+1) X.A) (hb:Binds X.K fd ps ds) (hd:Vals dvs ds)
  (hx:Passes CX X E) (I:Inv X pins σ H s) (r:Vals vs us)
  (h:∀ x dx,H x=none->H dx=none->dx≠x->sp (.ref x::(vs++dvs)) (upd (upd H dx (.own x)) x (.ins C dx [])) (fun v H2=>v=.non/\Q (.ref x) H2) E) :
  wpAny (model X.prog X.w) X.A (call (.ref C) us) (EP X pins σ Q) X.xe s:=by
 have hq:=h (s.heap.objs.size+1) s.heap.objs.size (I.hok.fresh (Nat.le_succ _)) (I.hok.fresh (Nat.le_refl _)) (Nat.ne_of_lt (Nat.lt_succ_self _))
 have I2:=Inv.made (C:=C) I
 have r2:Vals (V.ref (s.heap.objs.size+1)::(vs++dvs)) (Value.ref (s.heap.objs.size+1)::(us++ds)):=.cons rfl (r.append hd)
 have hl:(Value.ref (s.heap.objs.size+1)::us++ds).length=ps.length:=by
  have e:=r2.length
  rw [F.len _ _ _ _ hq] at e
  exact e.symm
 refine wpAny_call (make_map (f:=f) I.kIn M.makes M.init (beq_iff_eq.mp M.fn) (codeAny_mono (F.run _ X.stack _ _ ⟨Value.ref (s.heap.objs.size+1)::us,[]⟩ (Value.ref (s.heap.objs.size+1)::(us++ds)) _ _ E (hr.make C us [])
  (I2.env0.make C us []) (hb _ (Value.ref (s.heap.objs.size+1)::us) I2.kIn hl) r2 hq) fun r s' hq'=>?_))
 cases r with
 | error e=>exact hx pins σ _ _ e s' I2 hq'
 | ok fl =>
  cases fl with
  | ret u =>
   obtain ⟨v,H',I3,rv,ev,q3⟩:=I2.after hq'
   subst ev
   exact ⟨rv,⟨V.ref (s.heap.objs.size+1),H',I3,rfl,q3⟩⟩
  | next=>exact False.elim hq'
  | brk=>exact False.elim hq'
  | cont=>exact False.elim hq'
theorem pe_make0 (M:Mk X.K C f) (F:FnOk X.prog X.w X.K X.mg X.base CX k f fd ps sp) (hr:Room (k+1) X.A) (hg:Gl X x) (hm:X.mg x=some (.ref C)) (hb:Binds X.K fd ps ds) (hd:Vals dvs ds) (hx:Passes CX X E)
  (hdb:(x == ("__debug__":Str))=false:=by decide):PE X (.Call (.Name x p) [] [] pos) (tMake C sp dvs E tNil):=by
 intro pins s σ H Q I h
 refine wpAny_Call_Name_kw (ld_glob I hg hm ?_ hdb)
 exact PySem.W.callWith_K0 I.kIn M.kp (run_make (us:=[]) M F hr hb hd hx I .nil h)
end
section
variable {X:Cx}{CX:CXT}{k:Nat}{f C:Addr}{fd:FuncData}{ps ks:List Str}{sp:Sp}{E:XK}{x m:Str}{p pos apos kpos:Pos}{e o:Expr}{es:List Expr}{kws:List Keyword}{te ta:TE}{t tk:TA}{nm:Option Str}
structure KBinds (K:PySem.W.Frag) (fd:FuncData) (ps ks:List Str) (g:List Value->List Value->List Value) (gV:List V->List V->List V):Prop where
 to:∀ (s:Shared) (us ws:List Value),K.In s.heap->(g us ws).length=ps.length->BindsTo s fd ⟨us,ks.zip ws⟩ (ps.zip (g us ws))
 rel:∀ {vs:List V} {us:List Value} {zs:List V} {ws:List Value},Vals vs us->Vals zs ws->Vals (gV vs zs) (g us ws)
variable {g:List Value->List Value->List Value}{gV:List V->List V->List V}
end
structure FnScope (N P:List Str) (sc:Scope):Prop where
 kind:sc.kind=.function
 co:sc.isCoroutine=false
 gen:sc.isGenerator=false
 nd:N.Nodup
 pre:N.take P.length=P
 par:∀ x∈P,sc.names.lookup x=some .local\/sc.names.lookup x=some .cell
 nofree:∀ y∈sc.names,y.2≠.free
theorem bindL_out {kindOf:Str->Option NameKind}{x:Str}:∀ {binds:List (Str×Value)}{m:Str->Option Value},(∀ v,(x,v)∉binds)->bindL kindOf binds m x=m x
 | [],_,_=>rfl
 | (n,v)::r,m,h=>by
  unfold bindL
  rw [bindL_out fun w hw=>h w (List.mem_cons_of_mem _ hw)]
  split
  ·have:x≠n:=by rintro rfl;exact h v List.mem_cons_self
   simp [this]
  ·rfl
theorem bindC_out {kindOf:Str->Option NameKind}{x:Str}:∀ {binds:List (Str×Value)}{m:Str->Option Value},(∀ v,(x,v)∉binds)->bindC kindOf binds m x=m x
 | [],_,_=>rfl
 | (n,v)::r,m,h=>by
  unfold bindC
  rw [bindC_out fun w hw=>h w (List.mem_cons_of_mem _ hw)]
  split
  ·rfl
  ·have:x≠n:=by rintro rfl;exact h v List.mem_cons_self
   simp [this]
theorem bindL_get {kindOf:Str->Option NameKind}{x:Str}{v:Value}:∀ {P:List Str}{vs:List Value}{i:Nat}{m:Str->Option Value},P.Nodup->P[i]? = some x->vs[i]? = some v->kindOf x=some .local ->
  bindL kindOf (P.zip vs) m x=some v
 | [],_,_,_,_,h,_,_=>by simp at h
 | _::_,[],_,_,_,_,h,_=>by simp at h
 | p::P,w::vs,0,m,nd,h1,h2,hk=>by
  simp at h1 h2;subst h1;subst h2
  show bindL kindOf ((p,w)::P.zip vs) m p=_
  unfold bindL
  rw [bindL_out fun v hv=>(List.nodup_cons.mp nd).1 (List.of_mem_zip hv).1,if_pos hk]
  simp
 | p::P,w::vs,i+1,m,nd,h1,h2,hk=>by
  show bindL kindOf ((p,w)::P.zip vs) m x=_
  unfold bindL
  exact bindL_get (i:=i) (List.nodup_cons.mp nd).2 (by simpa using h1) (by simpa using h2) hk
theorem bindC_get {kindOf:Str->Option NameKind}{x:Str}{v:Value}:∀ {P:List Str}{vs:List Value}{i:Nat}{m:Str->Option Value},P.Nodup->P[i]? = some x->vs[i]? = some v->kindOf x≠some .local ->
  bindC kindOf (P.zip vs) m x=some v
 | [],_,_,_,_,h,_,_=>by simp at h
 | _::_,[],_,_,_,_,h,_=>by simp at h
 | p::P,w::vs,0,m,nd,h1,h2,hk=>by
  simp at h1 h2;subst h1;subst h2
  show bindC kindOf ((p,w)::P.zip vs) m p=_
  unfold bindC
  rw [bindC_out fun v hv=>(List.nodup_cons.mp nd).1 (List.of_mem_zip hv).1,if_neg hk]
  simp
 | p::P,w::vs,i+1,m,nd,h1,h2,hk=>by
  show bindC kindOf ((p,w)::P.zip vs) m x=_
  unfold bindC
  exact bindC_get (i:=i) (List.nodup_cons.mp nd).2 (by simpa using h1) (by simpa using h2) hk
def start (N:List Str) (vs:List V):St:=vs.map some++List.replicate (N.length-vs.length) none
def cxOf (CX:CXT) (P:Program) (w:World) (K:PySem.W.Frag) (mg:Str->Option Value) (base:Heap) (N:List Str) (qual:Str) (scope:Scope) (f:Addr) (cd:Value) (A:Around) (outer:List Env) (s:Shared) (H:Hp) (E:XK):Cx where
 prog:=P
 w:=w
 K:=K
 mg:=mg
 base:=base
 A:=A.deeper (envOfC qual scope s.heap.objs.size f cd)
 N:=N
 s₀:=s
 H₀:=H
 env:=envOfC qual scope s.heap.objs.size f cd
 outer:=outer
 stack:=envOfC qual scope s.heap.objs.size f cd::outer
 ex:=[]
 calm:=true
 fn:=fun _=>true
 pn:=[]
 xe:=fun e s'=>wpAny (model P w) (A.deeper (envOfC qual scope s.heap.objs.size f cd)) (leaving (envOfC qual scope s.heap.objs.size f cd) e) (fun _ s''=>CX outer H s E e s'') (fun e' s''=>CX outer H s E e' s'') s'
theorem cell_has {sc:Scope}{n:Nat}{x:Str}(h:sc.names.lookup x=some .cell):∃ c,(cellsFrom n sc.names []).lookup x=some c:=by
 have q:=PySem.W.cellsFrom_some sc.names n [] (.inl h)
 exact Option.isSome_iff_exists.mp q
theorem inv_start {CX:CXT}{P:Program}{w:World}{K:PySem.W.Frag}{mg:Str->Option Value}{base:Heap}{N ps:List Str}{qual:Str}{scope:Scope}{f:Addr}{cd:Value}{A:Around}{outer:List Env}{s s1:Shared}{H:Hp}{E:XK}{us:List Value}{vs:List V}
  (S:FnScope N ps scope) (hd:A.handled=none) (e0:Env0 P w K mg base A outer s H) (hl:vs.length=ps.length) (r:Vals vs us)
  (x:InCallC s s.heap.objs.size (bindL (envOfC qual scope s.heap.objs.size f cd).kindOf (ps.zip us) fun _=>none) (cellsFrom (s.heap.objs.size+1) scope.names []) (bindC (envOfC qual scope s.heap.objs.size f cd).kindOf (ps.zip us) fun _=>none) s1) :
  Inv (cxOf CX P w K mg base N qual scope f cd A outer s H E) [] (start N vs) H s1:=by
 have hpl:ps.length<=N.length:=by have:=congrArg List.length S.pre;rw [List.length_take] at this;omega
 obtain ⟨h1,tk,rfl,hk⟩:=x.done
 have noA:∀ b:Addr,b∉(cxOf CX P w K mg base N qual scope f cd A outer s H E).ex:=fun b z=>absurd (show b∈([]:List Addr) from z) (by simp)
 refine ⟨⟨e0.mod,S.kind,rfl,rfl,Nat.le_refl _,fun y z c h1 h2=>?_,fun y hy=>?_,fun y c _ h=>?_,fun _=>hd,Around.frames_deeper e0.frames,.inr ⟨rfl,rfl⟩,fun b z=>absurd z (noA b),e0.bs,e0.bsz,fun b _ _=>noA b,fun b z=>absurd z (noA b),e0.funs,e0.frf⟩,
  rfl,e0.bare,Un.kept hk,⟨_,x.toInCall.ns,fun i y v h1 h2 h3=>?_⟩,fun y c h=>⟨_,x.cell y c h⟩,e0.hok.fresh (Nat.le_refl _),fun y c h=>?_,fun p hp=>absurd (show p∈([]:List (Addr×Obj)) from hp) (by simp),e0.hok.kept hk,?_,fun _ h=>nomatch h⟩
 ·exact name_of_addr x.apart (PySem.mem_of_lookup h1) (PySem.mem_of_lookup h2)
 ·have hy:scope.names.lookup y=some .cell\/scope.names.lookup y=some .free:=hy
  rcases hy with hy|hy
  ·exact cell_has hy
  ·exact absurd rfl (S.nofree _ (PySem.mem_of_lookup hy))
 ·exact Nat.le_of_lt (x.above y c (PySem.mem_of_lookup h))
 ·have hi:i<vs.length:=by
   unfold start at h2
   by_cases hi:i<vs.length
   ·exact hi
   ·rw [List.getElem?_append_right (by simpa using hi)] at h2
    rw [List.getElem?_replicate] at h2
    split at h2<;>cases h2
  have ha:vs[i]? = some v:=by
   unfold start at h2
   rw [List.getElem?_append_left (by simpa using hi),List.getElem?_map] at h2
   cases e:vs[i]? with
   | none=>rw [e] at h2;cases h2
   | some a=>rw [e] at h2;cases h2;rfl
  obtain ⟨u,hu,rv⟩:=r.get ha
  have hp:ps[i]? = some y:=by
   rw [<- S.pre,List.getElem?_take_of_lt (by omega)];exact h1
  have ndP:ps.Nodup:=by rw [<- S.pre];exact S.nd.sublist (List.take_sublist _ _)
  refine ⟨u,rv,?_⟩
  rcases S.par y (List.mem_of_getElem? hp) with k|k
  ·exact .inl ⟨k,bindL_get ndP hp hu k⟩
  ·obtain ⟨c,e⟩:=cell_has (n:=s.heap.objs.size+1) k
   refine .inr ⟨.inl k,c,e,?_⟩
   have q:=x.cell y c e
   rw [bindC_get ndP hp hu (by show scope.names.lookup y≠_;rw [k];decide)] at q
   exact q
 ·exact e0.hok.fresh (Nat.le_of_lt (x.above y c (PySem.mem_of_lookup h)))
 ·unfold start
  show _=N.length
  rw [List.length_append,List.length_map,List.length_replicate]
  omega
theorem fn_of {CX:CXT}{P:Program}{w:World}{K:PySem.W.Frag}{mg:Str->Option Value}{base:Heap}{k:Nat}{f:Addr}{name qual:Str}{params:Arguments}{body:List Stmt}{scope:Scope}{dV kV doc pm cdv ct oc:Value}{an od:Option Addr}
  {osl:Array (Option Value)} {N ps:List Str} {sp:Sp} (lk:K.lookup f=some ⟨oc,od,.func (PySem.W.fnOf name qual params body scope dV kV doc pm an cdv ct),osl⟩) (hcd:PySem.W.codeIn K cdv qual=true) (S:FnScope N ps scope)
  (len:∀ vs H Q E,sp vs H Q E->vs.length=ps.length)
  (hbody:∀ (A:Around) (outer:List Env) (s:Shared) (H:Hp) (vs:List V) (Q:VK) (E:XK),Room k (A.deeper (envOfC qual scope s.heap.objs.size f cdv))->sp vs H Q E ->
   ∃ t,PSs (cxOf CX P w K mg base N qual scope f cdv A outer s H E) body t/\t { nx:=fun _ H'=>Q .non H',rt:=Q } (start N vs) H) :
  FnOk P w K mg base CX (k+1) f (PySem.W.fnOf name qual params body scope dV kV doc pm an cdv ct) ps sp:=by
 refine ⟨len,fun A outer s H args us vs Q E hr e0 hb r hsp=>?_⟩
 have hl:=len _ _ _ _ hsp
 have KX:K.In s.heap:=e0.mod.kin.keeps fun b o e=>(e0.bs b o e).1
 have lim:s.heap.NoLimit:=e0.mod.nolimit.keeps fun b o e=>(e0.bs b o e).1
 have hkind:∀ y∈ps.zip us,scope.names.lookup y.1=some .local\/(scope.names.lookup y.1=some .cell/\((cellsFrom (s.heap.objs.size+1) scope.names []).lookup y.1).isSome=true):=fun ⟨n,v⟩ hy=>by
  rcases S.par n (List.of_mem_zip hy).1 with q|q
  ·exact .inl q
  ·exact .inr ⟨q,PySem.W.cellsFrom_some _ _ _ (.inl q)⟩
 refine codeAny_call_function hr.depth (KX _ _ lk) rfl S.co S.gen rfl (PySem.W.codeRec_of KX hcd) (hb _ _ _ _ ?_)
 refine wpAny_newFunctionEnv_cells S.kind hkind fun env he s1 x=>?_
 subst he
 refine ⟨lim.keeps x.toInCall.keep,codeAny_func ?_⟩
 obtain ⟨t,ht,hq⟩:=hbody A outer s H vs Q E (hr.deeper _) hsp
 have I:Inv (cxOf CX P w K mg base N qual scope f cdv A outer s H E) [] (start N vs) H s1:=inv_start S hr.hd e0 hl r x
 refine wpAny_mono (ht [] s1 (start N vs) H _ I hq) (fun fl s' hs=>?_) fun e s' hs=>hs
 have fin:∀ {σ':St} {H':Hp} {v:V} {u:Value},Inv (cxOf CX P w K mg base N qual scope f cdv A outer s H E) [] σ' H' s'->RelV v u->Q v H'->CE outer P w H s Q u s' :=
  fun {σ' H' v u} J rv q=>⟨v,H',J.os,J.bare,J.base,J.hok,rv,q⟩
 cases fl with
 | ret u =>
  obtain ⟨v,σ',H',J,rv,q⟩:=hs
  exact fin J rv q
 | next =>
  obtain ⟨σ',H',J,q⟩:=hs
  exact fin (v:=V.non) (u:=Value.none) J rfl q
 | brk =>
  obtain ⟨_,_,_,q⟩:=hs
  exact False.elim q
 | cont =>
  obtain ⟨_,_,_,q⟩:=hs
  exact False.elim q
section
variable {X:Cx}{x:Str}{p pos:Pos}{e:Expr}{es:List Expr}{t:TA}{id T:String}{r:List V->Hp->VK->Prop}
def tCB (r:List V->Hp->VK->Prop) (t:TA):TE:=fun σ H Q=>t σ H fun vs H1=>r vs H1 Q
theorem pe_callB (hc:CallR X (.builtin id) r) (hg:Gl X x) (hm:X.mg x=none) (hv:bootBuiltins x=some (.builtin id)) (ha:PA X (e::es) t) (hn:x≠"__name__":=by decide) (hdb:(x == ("__debug__":Str))=false:=by decide)
  (he:starEach (e::es) X.env=(false,eval e X.env)::starEach es X.env:=by rfl) (hpl:(backTo pos (starEach es X.env)).any (·.1)=false:=by rfl):PE X (.Call (.Name x p) (e::es) [] pos) (tCB r t):=by
 intro pins s σ H Q I h
 refine wpAny_Call_Name_kw (ld_blt I hg hm hv ?_ hn hdb)
 exact PyProof.Rows.callWith_builtin1 (thn (ha pos pins s σ H _ I h) fun us s1 ⟨vs,H1,I1,r1,q1⟩=>hc pins s1 σ H1 vs us Q I1 r1 q1) he hpl
theorem pe_callTy (hc:CallR X (.type T) r) (hg:Gl X x) (hm:X.mg x=none) (hv:bootBuiltins x=some (.type T)) (ha:PA X (e::es) t) (hn:x≠"__name__":=by decide) (hdb:(x == ("__debug__":Str))=false:=by decide)
  (he:starEach (e::es) X.env=(false,eval e X.env)::starEach es X.env:=by rfl) (hpl:(backTo pos (starEach es X.env)).any (·.1)=false:=by rfl):PE X (.Call (.Name x p) (e::es) [] pos) (tCB r t):=by
 intro pins s σ H Q I h
 refine wpAny_Call_Name_kw (ld_blt I hg hm hv ?_ hn hdb)
 exact PyProof.Rows.callWith_type1 (thn (ha pos pins s σ H _ I h) fun us s1 ⟨vs,H1,I1,r1,q1⟩=>hc pins s1 σ H1 vs us Q I1 r1 q1) he hpl
end
end L2
namespace HT
open PySem PyProof.Rows
section
open PySem.SeqAt
open PySem.AutoSeq1 (wpAny_loadPart')
open PySem.MeetsSeq PySem.MeetsSeq2 PySem.MeetsSeq3
end
section
variable {prog:Program}{w:World}{A:Around}{E:Value->Shared->Prop}{s:Shared}
def sIx (n d:Nat):Option Int->Nat
 | none=>d
 | some v=>if v<0 then (v+(n:Int)).toNat else min v.toNat n
theorem sIx_nat (n d k:Nat):sIx n d (some (k:Int))=min k n:=by
 show (if (k:Int)<0 then ((k:Int)+(n:Int)).toNat else min (k:Int).toNat n)=min k n
 rw [if_neg (by omega),Int.toNat_natCast]
end
end HT
namespace L2
open PySem PySem.Spec PyProof.Rows
abbrev TO:=St->Hp->(Option Int->Hp->Prop)->Prop
def PO (X:Cx) (e:Option Expr) (t:TO):Prop :=
 ∀ (pins:List (Addr×Obj)) (s:Shared) (σ:St) (H:Hp) (Q:Option Int->Hp->Prop),Inv X pins σ H s->t σ H Q ->
  wpAny (model X.prog X.w) X.A (evalPart e X.env) (fun u s'=>∃ o H',Inv X pins σ H' s'/\IsPart u o/\Q o H') X.xe s
def tNoPart:TO:=fun _ H Q=>Q none H
def tPart (t:TE):TO:=fun σ H Q=>t σ H fun x H1=>∃ i,x=.int i/\Q (some i) H1
section
variable {X:Cx}{e:Expr}{te:TE}{lo hi:Option Expr}{tl th:TO}{pos p2:Pos}
theorem po_none:PO X none tNoPart:=by
 intro pins s σ H Q I h
 rw [evalPart_none]
 exact wpAny_pure ⟨none,H,I,.none,h⟩
theorem po_some (h:PE X e te):PO X (some e) (tPart te):=by
 intro pins s σ H Q I hw
 rw [evalPart_some]
 refine thn (h pins s σ H _ I hw) fun u s1 ⟨x,H1,I1,r1,q1⟩=>?_
 obtain ⟨i,rfl,q⟩:=q1
 obtain ⟨t,rfl⟩:=r1
 exact ⟨some i,H1,I1,.int i t,q⟩
def SlR (X:Cx) (r:V->Option Int->Option Int->Hp->VK->Prop):Prop :=
 ∀ (pins:List (Addr×Obj)) (s:Shared) (σ:St) (H:Hp) (x:V) (v vl vu:Value) (lo hi:Option Int) (sl:Addr) (Q:VK),Inv X pins σ H s->RelV x v->s.heap.IsSliceOf sl vl vu .none->IsPart vl lo->IsPart vu hi->r x lo hi H Q ->
  ∃ T id,typeLookup (.type T) "__getitem__" = pure (some (.builtin id))/\s.TypeIs v T/\wpAny (model X.prog X.w) X.A (getItem v (.ref sl)) (EP X pins σ Q) X.xe s
theorem SlR.or {r r':V->Option Int->Option Int->Hp->VK->Prop}(h:SlR X r) (h':SlR X r'):SlR X (fun x lo hi H Q=>r x lo hi H Q\/r' x lo hi H Q):=by
 intro pins s σ H x v vl vu lo hi sl Q I rx hs pl pu q
 rcases q with q|q
 ·exact h pins s σ H x v vl vu lo hi sl Q I rx hs pl pu q
 ·exact h' pins s σ H x v vl vu lo hi sl Q I rx hs pl pu q
def tSl (r:V->Option Int->Option Int->Hp->VK->Prop) (te:TE) (tl th:TO):TE:=fun σ H Q=>te σ H fun x H1=>tl σ H1 fun l H2=>th σ H2 fun u H3=>r x l u H3 Q
theorem pe_slice {r:V->Option Int->Option Int->Hp->VK->Prop}(hr:SlR X r) (he:PE X e te) (hl:PO X lo tl) (hu:PO X hi th):PE X (.Subscript e (.Slice lo hi none p2) pos) (tSl r te tl th):=by
 intro pins s σ H Q I h
 refine Subscript_ (thn (he pins s σ H _ I h) fun v s1 ⟨x,H1,I1,r1,q1⟩=>?_)
 refine wpAny_Slice (thn (hl pins s1 σ H1 _ I1 q1) fun vl s2 ⟨l,H2,I2,pl,q2⟩=>thn (hu pins s2 σ H2 _ I2 q2) fun vu s3 ⟨u,H3,I3,pu,q3⟩=>?_)
 rw [evalPart_none]
 refine wpAny_pure ?_
 have I4:Inv X pins σ H3 { s3 with heap:=s3.heap.push { cls:=.type "slice",data:=.fields #[vl,vu,.none] } }:=I3.kept (t':=s3.toks) fun b ob q=>Heap.get?_push_of_some _ q
 obtain ⟨T,id,hT,ht,hg⟩:=hr pins { s3 with heap:=s3.heap.push { cls:=.type "slice",data:=.fields #[vl,vu,.none] } } σ H3 x v vl vu l u s3.heap.objs.size Q I4 r1 (Heap.IsSliceOf.new ..) pl pu q3
 show wpAny (model X.prog X.w) X.A (subscriptTail e (.Slice lo hi none p2) v (.ref s3.heap.objs.size)) (EP X pins σ Q) X.xe { s3 with heap:=s3.heap.push { cls:=.type "slice",data:=.fields #[vl,vu,.none] } }
 exact tail_any (ops:=[.ref s3.heap.objs.size,v]) ht hT hg (by with_unfolding_all rfl)
def cutV (xs:List V) (lo hi:Option Int):List V:=(xs.drop (HT.sIx xs.length 0 lo)).take (HT.sIx xs.length xs.length hi-HT.sIx xs.length 0 lo)
theorem cutV_length (xs:List V) (lo hi:Option Int):(cutV xs lo hi).length<=xs.length:=by
 unfold cutV
 rw [List.length_take,List.length_drop]
 omega
end
def ixN (n:Nat) (i:Int):Option Nat:=if 0<=i then (if i<n then some i.toNat else none) else if -(n:Int)<=i then some (i+n).toNat else none
def atI {α:Type}(xs:List α) (i:Int):Option α:=(ixN xs.length i).bind fun j=>xs[j]?
theorem ixN_seq {n:Nat}{i:Int}{j:Nat}(h:ixN n i=some j):seqIndex? i n=some j/\j<n/\-(n:Int)<=i/\i<n:=by
 unfold ixN at h
 by_cases h0:0<=i
 ·rw [if_pos h0] at h
  by_cases h1:i<n
  ·rw [if_pos h1] at h
   have e:i.toNat=j:=Option.some.inj h
   exact ⟨by rw [seqIndex_of h0 h1,e],by omega,by omega,h1⟩
  ·rw [if_neg h1] at h;cases h
 ·rw [if_neg h0] at h
  by_cases h1:-(n:Int)<=i
  ·rw [if_pos h1] at h
   have e:(i+n).toNat=j:=Option.some.inj h
   exact ⟨by rw [seqIndex_neg (by omega) h1,e],by omega,h1,by omega⟩
  ·rw [if_neg h1] at h;cases h
theorem atI_get {α:Type}{xs:List α}{i:Int}{v:α}(h:atI xs i=some v):∃ j,seqIndex? i xs.length=some j/\xs[j]? = some v/\j<xs.length/\-(xs.length:Int)<=i/\i<xs.length:=by
 unfold atI at h
 cases e:ixN xs.length i with
 | none=>rw [e] at h;cases h
 | some j =>
  rw [e] at h
  obtain ⟨h1,h2,h3,h4⟩:=ixN_seq e
  exact ⟨j,h1,h,h2,h3,h4⟩
theorem atI_nat {α:Type}{xs:List α}{j:Nat}{v:α}(h:xs[j]? = some v):atI xs (j:Int)=some v:=by
 have hj:j<xs.length:=(List.getElem?_eq_some_iff.mp h).1
 have e:ixN xs.length (j:Int)=some j:=by
  unfold ixN
  rw [if_pos (by omega),if_pos (by omega)];simp
 unfold atI;rw [e];exact h
def PlainIx (b:Expr):Prop:=∀ o i,subscripted b false o i=operate [o,i] (getItem o i)
def IxR (X:Cx) (r:R2):Prop :=
 ∀ (value slice:Expr) (pins:List (Addr×Obj)) (s:Shared) (σ:St) (H:Hp) (x y:V) (v u:Value) (Q:VK),Inv X pins σ H s->RelV x v->RelV y u->r x y H Q ->
  subscripted slice false v u=operate [v,u] (getItem v u)->wpAny (model X.prog X.w) X.A (subscriptTail value slice v u) (EP X pins σ Q) X.xe s
def MtR (X:Cx) (id:String) (r:V->List V->Hp->VK->Prop):Prop :=
 ∀ (pins:List (Addr×Obj)) (s:Shared) (σ:St) (H:Hp) (x:V) (xs:List V) (v:Value) (us:List Value) (Q:VK),Inv X pins σ H s->RelV x v->Vals xs us->r x xs H Q ->
  wpAny (model X.prog X.w) X.A (call (.builtin id) (v::us)) (EP X pins σ Q) X.xe s
section
variable {X:Cx}{a b:Expr}{ta tb:TE}{pos:Pos}
theorem IxR.or {r r':R2}(h:IxR X r) (h':IxR X r'):IxR X (fun x y H Q=>r x y H Q\/r' x y H Q):=by
 intro value slice pins s σ H x y v u Q I rx ry q hs
 rcases q with q|q
 ·exact h value slice pins s σ H x y v u Q I rx ry q hs
 ·exact h' value slice pins s σ H x y v u Q I rx ry q hs
theorem MtR.or {id:String}{r r':V->List V->Hp->VK->Prop}(h:MtR X id r) (h':MtR X id r'):MtR X id (fun x xs H Q=>r x xs H Q\/r' x xs H Q):=by
 intro pins s σ H x xs v us Q I rx rs q
 rcases q with q|q
 ·exact h pins s σ H x xs v us Q I rx rs q
 ·exact h' pins s σ H x xs v us Q I rx rs q
theorem pe_ix {r:R2}(hr:IxR X r) (ha:PE X a ta) (hb:PE X b tb) (hs:PlainIx b):PE X (.Subscript a b pos) (tOp r ta tb):=by
 intro pins s σ H Q I h
 exact Subscript_ (binT ha hb I h fun v u s2 x y H2 I2 rx ry q=>hr a b pins s2 σ H2 x y v u Q I2 rx ry q (hs _ _))
def rIxL (K:PySem.W.Frag):R2:=fun x y H Q=>∃ p xs i v,x=.ref p/\y=.int i/\SqL K H p xs/\atI xs i=some v/\Q v H
def rIxT (K:PySem.W.Frag):R2:=fun x y H Q=>∃ p xs i v,x=.ref p/\y=.int i/\SqT K H p xs/\atI xs i=some v/\Q v H
theorem ix_list:IxR X (rIxL X.K):=by
 intro value slice pins s σ H x y v u Q I rx ry h hs
 obtain ⟨p,xs,i,z,rfl,rfl,hq,he,q⟩:=h
 cases rx
 obtain ⟨t,rfl⟩:=ry
 obtain ⟨its,r,pl,hz⟩:=I.list hq
 obtain ⟨j,h1,h2,h3,h4,h5⟩:=atI_get he
 obtain ⟨w,ew,rw'⟩:=r.get h2
 have hl:=r.length
 have hn:=line63
 have fin:EP X pins σ Q w s:=⟨z,H,I,rw',q⟩
 by_cases h0:0<=i
 ·have hj:i.toNat=j:=by
   rw [seqIndex_of h0 h5] at h1
   exact Option.some.inj h1
  exact item_listR pl.isList h0 (by omega) (by rw [hj];simpa using ew) fin hs
 ·have hj:(i+(its.toArray.size:Int)).toNat=j:=by
   rw [seqIndex_neg (by omega) h4] at h1
   rw [List.size_toArray,<- hl]
   exact Option.some.inj h1
  exact subscriptTail_builtinR (x:=w) pl.isList.typeIs slot_list_getitem.lookup
   (wpAny_getItem_list_neg (Q:=fun r s'=>r=w/\EP X pins σ Q r s') pl.isList (by omega) (by rw [List.size_toArray]<;>omega) (by omega) (by rw [hj];simpa using ew) ⟨rfl,fin⟩) hs
theorem ix_tup:IxR X (rIxT X.K):=by
 intro value slice pins s σ H x y v u Q I rx ry h hs
 obtain ⟨p,xs,i,z,rfl,rfl,hq,he,q⟩:=h
 cases rx
 obtain ⟨t,rfl⟩:=ry
 obtain ⟨its,r,pl,hz⟩:=I.tuple hq
 obtain ⟨j,h1,h2,h3,h4,h5⟩:=atI_get he
 obtain ⟨w,ew,rw'⟩:=r.get h2
 have hl:=r.length
 have hn:=line63
 have fin:EP X pins σ Q w s:=⟨z,H,I,rw',q⟩
 exact subscriptTail_builtinR (x:=w) pl.typeIs slot_tuple_getitem.lookup
  (getItem_tuple (j:=j) (Q:=fun r s'=>r=w/\EP X pins σ Q r s') pl (by omega) (by omega) (by rw [List.size_toArray,<- hl];exact h1) (by simpa using ew) ⟨rfl,fin⟩) hs
theorem Inv.lst {pins:List (Addr×Obj)}{σ:St}{H:Hp}{s:Shared}{p:Addr}{xs:List V}(I:Inv X pins σ H s) (h:H p=some (.lst xs)) :
  ∃ (its:List Value) (n:Nat),Vals xs its/\s.heap.get? p=some { cls:=.type "list",data:=.seq its.toArray n }/\xs.length<=sizeLine:=by
 obtain ⟨z,its,n,r,e⟩:=I.hok p _ h
 exact ⟨its,n,r,e,z⟩
theorem slice_bounds (lo hi:Option Int) (n:Nat):(sliceBounds lo hi none n).1=((HT.sIx n 0 lo:Nat):Int)/\(sliceBounds lo hi none n).2.1=((HT.sIx n n hi:Nat):Int)/\(sliceBounds lo hi none n).2.2=1:=by
 refine ⟨?_,?_,rfl⟩
 ·cases lo with
  | none=>simp [sliceBounds,HT.sIx]
  | some i =>
   simp only [sliceBounds,HT.sIx,Option.getD_none,show (1:Int) > 0 by decide,if_true]
   by_cases h:i<0
   ·simp only [h,if_true]<;>omega
   ·simp only [h,if_false]<;>omega
 ·cases hi with
  | none=>simp [sliceBounds,HT.sIx]
  | some i =>
   simp only [sliceBounds,HT.sIx,Option.getD_none,show (1:Int) > 0 by decide,if_true]
   by_cases h:i<0
   ·simp only [h,if_true]<;>omega
   ·simp only [h,if_false]<;>omega
theorem slicePick_cut (its:List Value) (lo hi:Option Int):slicePick its.toArray lo hi none=((its.drop (HT.sIx its.length 0 lo)).take (HT.sIx its.length its.length hi-HT.sIx its.length 0 lo)).toArray:=by
 obtain ⟨h1,h2,h3⟩:=slice_bounds lo hi its.toArray.size
 unfold slicePick
 rw [h1,h2,h3]
 simp only [sliceRange_one,pick_run,List.size_toArray]<;>rfl
def rSlL (K:PySem.W.Frag):V->Option Int->Option Int->Hp->VK->Prop:=fun x lo hi H Q=>∃ a xs,x=.ref a/\SqL K H a xs/\∀ p,H p=none->Q (.ref p) (upd H p (.lst (cutV xs lo hi)))
theorem sl_list:SlR X (rSlL X.K):=by
 intro pins s σ H x v vl vu lo hi sl Q I rx hs pl pu h
 obtain ⟨a,xs,rfl,hx,q⟩:=h
 cases rx
 obtain ⟨its,r,ht,hz⟩:=I.list hx
 have hlen:=r.length
 refine ⟨"list",_,slot_list_getitem.lookup,ht.isList.typeIs,?_⟩
 refine wpAny_getItem_list_slice ht.isList hs pl pu .none (by simp) ?_ (by rw [List.size_toArray]<;>omega)
 rw [slicePick_cut,<- hlen]
 refine ⟨.ref s.heap.objs.size,_,I.laid (t':=s.toks) (o:=.lst (cutV xs lo hi)) (fun b ob q=>Heap.get?_push_of_some _ q) (Nat.le_refl _) ?_,rfl,q _ (I.hok.fresh (Nat.le_refl _))⟩
 exact ⟨Nat.le_trans (cutV_length xs lo hi) hz,_,0,(r.drop (HT.sIx xs.length 0 lo)).take (HT.sIx xs.length xs.length hi-HT.sIx xs.length 0 lo),Heap.get?_push_size _ rfl⟩
def flatV:V->Bool
 | .non=>true
 | .bl _=>true
 | .int _=>true
 | .str _=>true
 | _=>false
def eqV:V->V->Bool
 | .non,.non=>true
 | .bl a,.bl b=>a == b
 | .bl a,.int b=>(if a then 1 else 0) == b
 | .int a,.bl b=>a == (if b then 1 else 0)
 | .int a,.int b=>a == b
 | .str a,.str b=>a == b
 | _,_=>false
theorem eqAt_V {A:Around}{s:Shared}{y x:V}{u v:Value}(ry:RelV y u) (rx:RelV x v) (fy:flatV y=true) (fx:flatV x=true):SeqAt.EqAt A s u v (eqV y x):=by
 cases y with
 | non =>
  cases ry
  cases x with
  | non=>cases rx;exact SeqAt.EqAt.same _
  | bl b=>cases rx;exact SeqAt.EqAt.none_bool b
  | int b=>obtain ⟨t,rfl⟩:=rx;exact SeqAt.EqAt.none_int b t
  | str b=>obtain ⟨t,rfl⟩:=rx;exact SeqAt.EqAt.none_str b t
  | _=>exact absurd (show false=true from fx) Bool.false_ne_true
 | bl a =>
  cases ry
  cases x with
  | non=>cases rx;exact SeqAt.EqAt.bool_none a
  | bl b=>cases rx;exact SeqAt.EqAt.bool_bool a b
  | int b=>obtain ⟨t,rfl⟩:=rx;exact SeqAt.EqAt.bool_int a b t
  | str b=>obtain ⟨t,rfl⟩:=rx;exact SeqAt.EqAt.bool_str a b t
  | _=>exact absurd (show false=true from fx) Bool.false_ne_true
 | int a =>
  obtain ⟨t',rfl⟩:=ry
  cases x with
  | non=>cases rx;exact SeqAt.EqAt.int_none a t'
  | bl b=>cases rx;exact SeqAt.EqAt.int_bool a t' b
  | int b=>obtain ⟨t,rfl⟩:=rx;exact SeqAt.EqAt.int_int a t' b t
  | str b=>obtain ⟨t,rfl⟩:=rx;exact SeqAt.EqAt.int_str a t' b t
  | _=>exact absurd (show false=true from fx) Bool.false_ne_true
 | str a =>
  obtain ⟨t',rfl⟩:=ry
  cases x with
  | non=>cases rx;exact SeqAt.EqAt.str_none a t'
  | bl b=>cases rx;exact SeqAt.EqAt.str_bool a t' b
  | int b=>obtain ⟨t,rfl⟩:=rx;exact SeqAt.EqAt.str_int a t' b t
  | str b=>obtain ⟨t,rfl⟩:=rx;exact SeqAt.EqAt.str_str a t' b t
  | _=>exact absurd (show false=true from fx) Bool.false_ne_true
 | _=>exact absurd (show false=true from fy) Bool.false_ne_true
def eqU (x:V) (u:Value):Bool:=match u with
 | .none=>eqV .non x
 | .bool b=>eqV (.bl b) x
 | .int i _=>eqV (.int i) x
 | .str z _=>eqV (.str z) x
 | _=>false
theorem eqU_of {x y:V}{u:Value}(r:RelV y u) (f:flatV y=true):eqU x u=eqV y x:=by
 cases y with
 | non=>cases r;rfl
 | bl b=>cases r;rfl
 | int i=>obtain ⟨t,rfl⟩:=r;rfl
 | str z=>obtain ⟨t,rfl⟩:=r;rfl
 | _=>exact absurd (show false=true from f) Bool.false_ne_true
theorem any_eqU {x:V}:∀ {xs:List V}{us:List Value},Vals xs us->xs.all flatV=true->us.any (eqU x)=xs.any fun y=>eqV y x
 | _,_,.nil,_=>rfl
 | y::xs,u::us,.cons r t,f=>by
  rw [List.all_cons,Bool.and_eq_true] at f
  rw [List.any_cons,List.any_cons,eqU_of r f.1,any_eqU t f.2]
theorem mem_eqAt {A:Around}{s:Shared}{x:V}{v:Value}(rx:RelV x v) (fx:flatV x=true):∀ {xs:List V}{us:List Value},Vals xs us->xs.all flatV=true->∀ u∈us,SeqAt.EqAt A s u v (eqU x u)
 | _,_,.nil,_=>fun u hu=>by cases hu
 | y::xs,u::us,.cons r t,f=>fun u' hu=>by
  rw [List.all_cons,Bool.and_eq_true] at f
  rcases List.mem_cons.mp hu with rfl|hu
  ·rw [eqU_of r f.1];exact eqAt_V r rx f.1 fx
  ·exact mem_eqAt rx fx t f.2 u' hu
def inV (x:V) (xs:List V):Bool:=xs.any fun y=>eqV y x
def rIn (K:PySem.W.Frag) (neg:Bool):R2:=fun x y H Q=>∃ p xs,y=.ref p/\(SqL K H p xs\/SqT K H p xs)/\flatV x=true/\xs.all flatV=true/\Q (.bl (if neg then !inV x xs else inV x xs)) H
theorem op_notIn_seq:OpR X (compareOp .NotIn) (rIn X.K true):=by
 intro pins s σ H x y v u Q I rx ry h
 obtain ⟨p,xs,rfl,hq,fx,fs,q⟩:=h
 cases ry
 rcases hq with hq|hq
 ·obtain ⟨its,r,pl,hz⟩:=I.list hq
  refine SeqAt.notIn_listAt (eqU x) pl.isList (fun w hw=>mem_eqAt rx fx r fs w (by simpa using hw)) ⟨.bl _,H,I,rfl,?_⟩
  rw [show its.toArray.any (eqU x)=its.any (eqU x) by simp,any_eqU r fs]
  exact q
 ·obtain ⟨its,r,pl,hz⟩:=I.tuple hq
  refine SeqAt.notIn_tupleAt (eqU x) pl (fun w hw=>mem_eqAt rx fx r fs w (by simpa using hw)) ⟨.bl _,H,I,rfl,?_⟩
  rw [show its.toArray.any (eqU x)=its.any (eqU x) by simp,any_eqU r fs]
  exact q
theorem call_len_seq:CallR X (.builtin "len") (fun xs H Q=>∃ p ys,xs=[.ref p]/\(SqL X.K H p ys\/SqT X.K H p ys)/\Q (.int ys.length) H):=by
 intro pins s σ H xs us Q I r h
 obtain ⟨p,ys,rfl,hq,q⟩:=h
 obtain ⟨u,rfl,rx⟩:=vals1 r
 cases rx
 have hn:=line63
 rcases hq with hq|hq
 ·obtain ⟨its,r',pl,hz⟩:=I.list hq
  have hlen:=r'.length
  exact Calls.call_len_list pl.isList (by simp only [List.size_toArray]<;>omega) ⟨.int ys.length,H,I.tok _,⟨s.toks+1,by rw [List.size_toArray,hlen]⟩,q⟩
 ·obtain ⟨its,r',pl,hz⟩:=I.tuple hq
  have hlen:=r'.length
  exact len_tuple pl (by simp only [List.size_toArray]<;>omega) ⟨.int ys.length,H,I.tok _,⟨s.toks+1,by rw [List.size_toArray,hlen]⟩,q⟩
theorem CallR.or {f:Value}{r r':List V->Hp->VK->Prop}(h:CallR X f r) (h':CallR X f r'):CallR X f (fun xs H Q=>r xs H Q\/r' xs H Q):=by
 intro pins s σ H xs us Q I rs q
 rcases q with q|q
 ·exact h pins s σ H xs us Q I rs q
 ·exact h' pins s σ H xs us Q I rs q
theorem call_list_of:CallR X (.type "list") (fun xs H Q=>∃ p ys,xs=[.ref p]/\(SqL X.K H p ys\/SqT X.K H p ys)/\∀ l,H l=none->Q (.ref l) (upd H l (.lst ys))):=by
 intro pins s σ H xs us Q I r h
 obtain ⟨p,ys,rfl,hq,q⟩:=h
 obtain ⟨u,rfl,rx⟩:=vals1 r
 cases rx
 have fin:∀ (its:List Value),Vals ys its->ys.length<=sizeLine->∀ (h':Heap) (c':Nat),(∀ b o',s.heap.get? b=some o'->h'.get? b=some o') ->
   h'.get? s.heap.objs.size=some { cls:=.type "list",dict:=none,data:=.seq its.toArray c',slots:=#[] }->EP X pins σ Q (.ref s.heap.objs.size) { s with heap:=h' }:=fun its r' hz h' c' kp e =>
  ⟨.ref s.heap.objs.size,_,I.laid (t':=s.toks) kp (Nat.le_refl _) (show ObjOk X.prog X.w _ h' _ (.lst ys) from ⟨hz,its,c',r',e⟩),rfl,q _ (I.hok.fresh (Nat.le_refl _))⟩
 rcases hq with hq|hq
 ·obtain ⟨its,r',pl,hz⟩:=I.list hq
  have hlen:=r'.length
  obtain ⟨o,ho,hc,n,hd⟩:=pl.isList
  exact call_list_seq p (.inl rfl) ho hc hd (fun h' c' kp e=>fin its r' hz h' c' kp e) (by simp only [List.size_toArray]<;>omega)
 ·obtain ⟨its,r',pl,hz⟩:=I.tuple hq
  have hlen:=r'.length
  obtain ⟨o,ho,hc,n,hd⟩:=pl
  exact call_list_seq p (.inr rfl) ho hc hd (fun h' c' kp e=>fin its r' hz h' c' kp e) (by simp only [List.size_toArray]<;>omega)
def tyV (K:PySem.W.Frag) (T:String) (x:V) (H:Hp):Prop:=match x with
 | .str _=>T = "str"
 | .int _=>T = "int"
 | .ref p=>(T = "list"/\∃ xs,SqL K H p xs)\/(T = "tuple"/\∃ o,K.lookup p=some o/\o.cls=.type "tuple"/\o.dict=none) \/
   (T = "dict"/\((∃ kvs,H p=some (.dK kvs))\/∃ kvs,H p=some (.dT kvs)))\/(T = "set"/\∃ S n,H p=some (.set S n))
 | _=>False
theorem tyV_is {pins:List (Addr×Obj)}{σ:St}{H:Hp}{s:Shared}{T:String}{x:V}{v:Value}(I:Inv X pins σ H s) (r:RelV x v) (ty:tyV X.K T x H) :
  s.TypeIs v T/\∀ a,v=.ref a->∃ ob,s.heap.get? a=some ob/\ob.dict=none:=by
 cases x with
 | str z =>
  obtain ⟨t,rfl⟩:=r
  cases (show T = "str" from ty)
  exact ⟨typeIs_str s z t,fun _ e=>nomatch e⟩
 | int i =>
  obtain ⟨t,rfl⟩:=r
  cases (show T = "int" from ty)
  exact ⟨typeIs_int s i t,fun _ e=>nomatch e⟩
 | ref p =>
  cases r
  rcases ty with ⟨rfl,xs,hq⟩|⟨rfl,o,hk,hc,hd⟩|⟨rfl,hk⟩|⟨rfl,S,n,hk⟩
  ·obtain ⟨its,_,pl,_⟩:=I.list hq
   refine ⟨pl.isList.typeIs,fun a e=>?_⟩
   cases e
   obtain ⟨o,n,e,c,hd,_⟩:=pl
   exact ⟨o,e,hd⟩
  ·refine ⟨⟨o,I.kIn p o hk,hc⟩,fun a e=>?_⟩
   cases e
   exact ⟨o,I.kIn _ o hk,hd⟩
  ·have z:∃ o,s.heap.get? p=some o/\o.ExactDict:=by
    rcases hk with ⟨kvs,hk⟩|⟨kvs,hk⟩
    ·obtain ⟨_,_,_,_,o,_,_,e,ex,_⟩:=I.hok p _ hk
     exact ⟨o,e,ex⟩
    ·obtain ⟨_,_,_,_,o,_,_,e,ex,_⟩:=I.hok p _ hk
     exact ⟨o,e,ex⟩
   obtain ⟨o,e,ex⟩:=z
   refine ⟨⟨o,e,ex.1⟩,fun a e2=>?_⟩
   cases e2
   exact ⟨o,e,ex.2.1⟩
  ·obtain ⟨o,_,_,_,e,ex,_⟩:=I.hok p _ hk
   refine ⟨⟨o,e,ex.1⟩,fun a e2=>?_⟩
   cases e2
   exact ⟨o,e,ex.2.1⟩
 | _=>exact False.elim ty
def tBM (K:PySem.W.Frag) (T:String) (r:V->List V->Hp->VK->Prop) (to:TE) (t:TA):TE:=fun σ H Q=>to σ H fun x H1=>tyV K T x H1/\t σ H1 fun xs H2=>r x xs H2 Q
variable {o e:Expr}{es:List Expr}{to:TE}{t:TA}{name:Str}{apos cpos:Pos}{T id:String}{r:V->List V->Hp->VK->Prop}
theorem pe_bm (pa:PlainAttrs T) (slot:Slot T name id) (hty:typeOf (.builtin id)=pure (.type "method_descriptor")) (hm:MtR X id r) (ho:PE X o to) (ha:PA X (e::es) t)
  (hbase:attributeBase o name X.env (eval o X.env)=eval o X.env:=by rfl)
  (hfew:((backTo cpos (starEach (e::es) X.env)).all (fun x=>!x.1) && (backToKw cpos (keywordEach [] X.env)).all (fun x=>x.1.isSome)
   && decide ((e::es).length+([]:List Keyword).length+(if ([]:List Keyword).isEmpty then 0 else 1)<30))=true:=by rfl)
  (hline:(apos.endLine == cpos.line)=true:=by rfl) (hs:starEach (e::es) X.env=(false,eval e X.env)::starEach es X.env:=by rfl) (hplain:(backTo cpos (starEach es X.env)).any (·.1)=false:=by rfl) :
  PE X (.Call (.Attribute o name apos) (e::es) [] cpos) (tBM X.K T r to t):=by
 intro pins s σ H Q I h
 refine wpAny_Call_method_late hbase hfew hline rfl (thn (ho pins s σ H _ I h) fun v s1 ⟨x,H1,I1,r1,ty,q1⟩=>?_)
 obtain ⟨h1,h2⟩:=tyV_is I1 r1 ty
 refine ⟨T,id,pa,slot,hty,h1,h2,?_⟩
 have hA:=ha cpos pins s1 σ H1 _ I1 q1
 rw [hs] at hA ⊢
 refine Calls.callWith_builtin (by show (false || (backTo cpos (starEach es X.env)).any (·.1))=false;rw [hplain]<;>rfl) (Calls.evalArgs_plain ?_)
 exact thn hA fun us s2 ⟨vs,H2,I2,r2,q2⟩=>hm pins s2 σ H2 x vs v us Q I2 r1 r2 q2
end
def MtM (X:Cx) (id:String) (r:V->List V->Hp->VK->Prop):Prop :=
 ∀ (pins:List (Addr×Obj)) (s:Shared) (σ:St) (H:Hp) (x:V) (xs:List V) (v:Value) (us:List Value) (Q:VK),Inv X pins σ H s->RelV x v->Vals xs us->r x xs H Q ->
  wpAny (model X.prog X.w) X.A (call (.builtin id) (v::us)) (EP X pins σ Q) X.xe s
theorem Vals.one:∀ {x:V}{us:List Value},Vals [x] us->∃ u,us=[u]/\RelV x u
 | _,_,h=>by
  cases h with | cons r t=>cases t;exact ⟨_,rfl,r⟩
theorem Vals.two:∀ {x y:V}{us:List Value},Vals [x,y] us->∃ u v,us=[u,v]/\RelV x u/\RelV y v
 | _,_,_,h=>by
  cases h with | cons r t=>cases t with | cons q t=>cases t;exact ⟨_,_,rfl,r,q⟩
theorem Vals.zero:∀ {us:List Value},Vals [] us->us=[]
 | _,.nil=>rfl
section
variable {X:Cx}{pins:List (Addr×Obj)}{σ:St}{H:Hp}{s:Shared}{l b:Addr}{xs ys zs:List V}
theorem Inv.lset {its its':List Value}{n:Nat}{f:Array Value->Array Value}{t':Nat}(I:Inv X pins σ H s) (hH:H l=some (.lst xs))
  (e:s.heap.get? l=some { cls:=.type "list",data:=.seq its.toArray n }) (hf:f its.toArray=its'.toArray) (hv:Vals ys its') (hz:ys.length<=sizeLine) :
  Inv X pins σ (upd H l (.lst ys)) { s with heap:=s.heap.update l (Obj.mapSeq f),toks:=t' }:=by
 have q:=PySem.IsL.update e f
 rw [hf] at q
 refine I.write (x:=l) (e:=l) (by rw [hH];exact trivial) (.inl rfl) (fun b' u hb hu=>(Heap.get?_update_other s.heap (Obj.mapSeq f) (Ne.symm hb)).trans hu) ⟨_,q⟩ ?_
 exact ⟨hz,its',_,hv,q⟩
theorem Inv.fresh (I:Inv X pins σ H s):H s.heap.objs.size=none:=I.hok.fresh (Nat.le_refl _)
theorem Inv.lstM (I:Inv X pins σ H s) (hH:H l=some (.lst xs)):xs.length<=sizeLine/\∃ (its:List Value) (n:Nat),Vals xs its/\xs.length=its.length/\s.heap.get? l=some { cls:=.type "list",data:=.seq its.toArray n }:=by
 obtain ⟨z,its,n,r,e⟩:=I.hok l _ hH
 exact ⟨z,its,n,r,r.length,e⟩
end
section
variable {X:Cx}
def rAppend:V->List V->Hp->VK->Prop:=fun x vs H Q=>∃ l xs y,x=.ref l/\vs=[y]/\H l=some (.lst xs)/\xs.length<sizeLine/\Q .non (upd H l (.lst (xs++[y])))
theorem mt_append:MtM X "list.append" rAppend:=by
 intro pins s σ H x vs v us Q I rx rv h
 obtain ⟨l,xs,y,rfl,rfl,hH,hz,q⟩:=h
 cases rx
 obtain ⟨u,rfl,ru⟩:=rv.one
 obtain ⟨z,its,n,r,hl,e⟩:=I.lstM hH
 refine call_meets F.slot_list_append ⟨_,e,rfl⟩ F.entry_list_append (F.args_list_append_2 _ _) (PySem.list_append l its.toArray n u (by rw [List.size_toArray];omega)) ⟨e,?_⟩
 refine ⟨.non,_,I.lset (its':=its++[u]) hH e (by simp) (r.append (.cons ru .nil)) ?_,rfl,q⟩
 rw [List.length_append,List.length_singleton]
 omega
end
section
variable {prog:Program}{w:World}{A:Around}{E:Value->Shared->Prop}{s:Shared}
end
section
variable {X:Cx}
end
end L2
namespace Att
open PySem PySem.W PySem.Calls PyProof.Rows
theorem ints_of_wellAll {P:Params}{h:Heap}:∀ (ns:List Int) (vs:List Value),WellAll P h vs (ns.map WData.int)->IntsAre vs ns:=by
 intro ns
 induction ns with
 | nil =>
  intro vs w
  rw [List.map_nil] at w
  cases w
  exact .nil
 | cons n ns ih =>
  intro vs w
  rw [List.map_cons] at w
  cases w with
  | cons a b =>
   cases a
   exact .cons _ _ (ih _ b)
theorem script_of {l:OpenLaw}{n:Nat}(hn:l.most=some n) {P:Params}{h:Heap}{args:List WData}{vals:List Value}
  (hpre:l.row.toRowW.claim.pre args=true) (hwl:WellAll P h vals args) :
  ∃ a vs ns,vals=[Value.ref a]/\args=[WData.list (ns.map WData.int)]/\h.get? a=some { cls:=.type "list",data:=.seq vs.toArray }/\IntsAre vs ns/\ns.length<=n:=by
 have hsh:WShape.hasAll [] args [.list .int]=true:=(pre_splitW hpre).1
 have hc:l.pre.holds [] { args:=args }=true:=(pre_splitW hpre).2
 obtain ⟨d,r,rfl,h1,h2⟩:=hasAllW_cons hsh
 obtain rfl:=hasAllW_nil h2
 obtain ⟨xs,rfl,h3⟩:=hasW_list h1
 obtain ⟨ns,rfl⟩:=items_int h3
 have hlen:ns.length<=n:=by
  unfold OpenLaw.pre at hc
  have h4:(WTm.not (.lt (.lit (.int (n:Int))) (.len (.arg 0)))).holds [] { args:=[.list (ns.map .int)] }=true:=by
   have h4:=(holds_andW hc).1
   rw [hn] at h4
   exact h4
  have h5:=condW_of h4 (w_not (w_lt w_lit (w_len_list (w_arg rfl))))
  rw [List.length_map] at h5
  refine Nat.le_of_not_lt fun q=>?_
  have q':(n:Int)<((ns.length:Nat):Int):=by omega
  first
   | (rw [decide_eq_true q'] at h5;exact absurd h5 (by decide))
   | (simp at h5;omega)
 cases hwl with
 | cons w1 w2 =>
  cases w2
  cases w1 with
  | list ho hall=>exact ⟨_,_,ns,rfl,rfl,ho,ints_of_wellAll ns _ hall,hlen⟩
theorem post_true (l:OpenLaw) (args:List WData):l.row.toRowW.claim.post args (.bool true) args=true :=
 postW_of (r:=l.row.toRowW) (X:=(true == true))
  (show WShape.has [] (.bool true) .bool=true by first | rfl | decide | simp [WShape.has,WShape.arms,WShape.armsAll])
  (show (WTm.eq .res (.lit (.bool true))).value [] { args:=args,res:=some (.bool true),after:=args }=some (.bool (true == true)) from w_eq_bool (w_res rfl) w_lit) rfl
theorem attach_call {l:OpenLaw}{n:Nat}{q:Program}{loose:List Str}{XP:(Str->Option Value)->Heap->Prop}{YP:World->Heap->Prop}{d:DefRec}
  (hn:l.most=some n) (hdf:d.params.defaults=[])
  (call:∀ (w:World) (s₀ s₁:Shared) (mg mb:Str->Option Value) (fa:Addr) (o:Obj) (pm cd doc:Value) (a:Addr) (vs:List Value) (ns:List Int),
   Ground q loose [] XP w s₀ mg mb s₁.heap->YP w s₁.heap ->
   s₁.heap.get? fa=some o->o.data=.func (docDef d.name d.params d.body d.scope pm cd doc)->s₁.heap.CodeRec cd d.name->mg d.name=some (.ref fa) ->
   s₁.heap.get? a=some { cls:=.type "list",data:=.seq vs.toArray }->IntsAre vs ns->ns.length<=n->s₁.gens=#[] ->
   codeAny (model l.prog w) callerA (.call (.ref fa) ⟨[.ref a],[]⟩) (fun r s'=>r=.ok (.ret (.bool true))/\OldK s₁.heap s'.heap/\s'.os=s₁.os/\AllBare s'.gens) s₁) :
  WalkO q loose XP YP l.row.toRowW d [] (fun f vs=>PySem.call f vs):=by
 intro w s₀ s₁ mg mb G Y fa o pm cd doc dV kV ho hd hcd hD hmg hg args vals as hpre hlay hrd hwl hlo
 obtain rfl:dV=.none:=Dflts.none hD hdf
 obtain rfl:kV=.none:=Dflts.noKw hD
 obtain ⟨a,vs,ns,rfl,rfl,hobj,hints,hlen⟩:=script_of hn hpre hwl
 refine enter_call (codeAny_mono (call w s₀ s₁ mg mb fa o pm cd doc a vs ns G Y ho (fd_plain hd) hcd hmg hobj hints hlen hg) fun r s' hq=>?_)
 obtain ⟨rfl,h2,h3,h4⟩:=hq
 exact ⟨.inl ⟨.bool true,.bool true,[],rfl,fun _=>rfl,.bool true,post_true l _,fun _=>⟨List.Pairwise.nil,fun _ hm=>(nomatch hm)⟩⟩,h2,h3,h4⟩
section
variable {prog:Program}{w:World}{A:Around}{E:Value->Shared->Prop}{s:Shared}{K:Frag}
def ledger (h:Heap) (L d:Addr):List (Addr×Obj):=(List.range h.objs.size).filterMap fun a=>if a=L\/a=d then none else (h.get? a).map fun o=>(a,o)
end
end Att
namespace L2
open PySem PySem.Spec PyProof.Rows
theorem vals_ints:∀ {vs:List Value}{ns:List Int},IntsAre vs ns->Vals (ns.map V.int) vs
 | _,_,.nil=>.nil
 | _,_,.cons n t h=>.cons ⟨t,rfl⟩ (vals_ints h)
def Only (H:Hp):Prop:=∀ b,H b=none\/∃ o xs,H b=some (.frz o (.lst xs))
theorem law_call {P:Program}{w:World}{K:PySem.W.Frag}{mg mb:Str->Option Value}{CX:CXT}{k:Nat}{fa a:Addr}{fd:FuncData}{x:Str}{sp:Sp}{s₁:Shared}{vs:List Value}{ns:List Int}
  (KX:K.In s₁.heap) (hns:s₁.heap.Ns mainGlobals mg) (hb:s₁.heap.Ns builtinsNs mb) (hbb:∀ x:Str,x≠"__name__"->mb x=bootBuiltins x) (hlim:s₁.heap.NoLimit) (hg:s₁.gens=#[])
  (ha:s₁.heap.get? a=some { cls:=.type "list",data:=.seq vs.toArray }) (hi:IntsAre vs ns) (hl:ns.length<=sizeLine) (hr:Room k callerA)
  (F:∀ base:Heap,K.In base->base.Ns mainGlobals mg->FnOk P w K mg base CX k fa fd [x] sp) (hbind:∀ (s:Shared) (u:Value),BindsTo s fd ⟨[u],[]⟩ [(x,u)])
  (hsp:∀ H:Hp,Only H->SqL K H a (ns.map V.int)->sp [.ref a] H (fun v _=>v=.bl true) fun _ _ _=>False)
  (hCX:∀ H e s',CX [] H s₁ (fun _ _ _=>False) e s'->False) :
  codeAny (model P w) callerA (.call (.ref fa) ⟨[.ref a],[]⟩) (fun r s'=>r=.ok (.ret (.bool true))/\OldK s₁.heap s'.heap/\s'.os=s₁.os/\AllBare s'.gens) s₁:=by
 have rv:=vals_ints hi
 have lenV:=hi.length
 have core:∀ H:Hp,Only H->SqL K H a (ns.map V.int)->HOk P w H s₁.heap->(∀ b,H b≠none->b=a)->(H a≠none->K.lookup a=none) ->
   codeAny (model P w) callerA (.call (.ref fa) ⟨[.ref a],[]⟩) (fun r s'=>r=.ok (.ret (.bool true))/\OldK s₁.heap s'.heap/\s'.os=s₁.os/\AllBare s'.gens) s₁:=by
  intro H hO hS hok hA hK
  have base_of:∀ {b:Addr} {o:Obj},s₁.heap.get? b=some o->H b=none->(hidT s₁.heap H).get? b=some o:=fun e n=>hidT_get e n
  have noA:∀ {b:Addr} {o:Obj} {es:Array DictEntry} {ep:Nat},s₁.heap.get? b=some o->o.data=.dict es ep->H b=none:=fun {b o es ep} e d=>by
   cases q:H b with
   | none=>rfl
   | some u =>
    have e':b=a:=hA b (by rw [q];simp)
    subst e'
    rw [ha] at e;cases e
    have d':Data.seq vs.toArray _=Data.dict es ep:=d
    cases d'
  have nsK:∀ {b:Addr} {m:Str->Option Value},s₁.heap.Ns b m->(hidT s₁.heap H).Ns b m:=fun {b m} ⟨o,es,ep,e,d,r⟩=>⟨o,es,ep,base_of e (noA e d),d,r⟩
  have hKb:K.In (hidT s₁.heap H):=fun b o e=>base_of (KX b o e) (by
   cases q:H b with
   | none=>rfl
   | some u =>
    have e':b=a:=hA b (by rw [q];simp)
    subst e'
    rw [hK (by rw [q];simp)] at e;cases e)
  have hM:Mod K mg (hidT s₁.heap H):=⟨hKb,nsK hns,⟨mb,nsK hb,hbb⟩,let ⟨mc,h1,h2⟩:=hlim;⟨mc,nsK h1,h2⟩⟩
  have e0:Env0 P w K mg (hidT s₁.heap H) callerA [] s₁ H:=⟨rfl,hM,fun b o e=>of_hidT e,Nat.le_of_eq (hidT_size _ _),trivial,fun b hb=>absurd (show b∈([]:List Addr) from hb) (by simp),hok,.of_eq hg⟩
  refine codeAny_mono ((F _ hKb (nsK hns)).run callerA [] s₁ H ⟨[.ref a],[]⟩ [.ref a] [.ref a] _ _ hr e0 (hbind s₁ (.ref a)) (.cons rfl .nil) (hsp H hO hS)) fun r s' h=>?_
  cases r with
  | error e=>exact (hCX H e s' h).elim
  | ok fl =>
   cases fl with
   | next=>exact False.elim h
   | brk=>exact False.elim h
   | cont=>exact False.elim h
   | ret u =>
    obtain ⟨v,H',os,bare,un,hok',r',q⟩:=h
    have q':v=.bl true:=q
    subst q'
    obtain rfl:u=Value.bool true:=r'
    refine ⟨rfl,OldK.of_keep fun b o e=>?_,os,bare⟩
    cases q:H b with
    | none=>exact un.keep b o e q (by intro z;exact absurd (show b∈([]:List Addr) from z) (by simp)) (by simp)
    | some u =>
     rcases hO b with z|⟨ob,xs,z⟩
     ·rw [q] at z;cases z
     ·have z2:=un.frzs b ob _ z
      obtain ⟨e1,_⟩:=hok b _ z
      obtain ⟨e2,_⟩:=hok' b _ z2
      rw [e] at e1;cases e1
      exact e2
 cases hk:K.lookup a with
 | some o =>
  have e:=KX a o hk
  rw [ha] at e
  cases e
  refine core (fun _=>none) (fun _=>.inl rfl) (.inr ⟨_,vs.toArray,_,hk,rfl,rfl,rfl,by rw [List.size_toArray,lenV];exact hl,by simpa using rv⟩) (fun b u z=>by have z':(none:Option HO)=some u:=z;cases z') (fun b z=>absurd rfl z) fun z=>absurd rfl z
 | none =>
  refine core (fun b=>if b=a then some (.frz { cls:=.type "list",data:=.seq vs.toArray } (.lst (ns.map V.int))) else none) (fun b=>?_) (.inl (.inr ⟨{ cls:=.type "list",data:=.seq vs.toArray },if_pos rfl⟩)) (fun b u z=>?_) (fun b z=>?_) fun _=>hk
  ·by_cases hb:b=a
   ·exact .inr ⟨_,_,if_pos hb⟩
   ·exact .inl (if_neg hb)
  ·by_cases hb:b=a
   ·have z':=(if_pos hb).symm.trans z
    cases z'
    subst hb
    exact ⟨ha,by rw [List.length_map];exact hl,vs,_,rv,ha⟩
   ·have z':=(if_neg hb).symm.trans z
    cases z'
  ·by_cases hb:b=a
   ·exact hb
   ·exact absurd (if_neg hb) z
abbrev KOf {K:PySem.W.Frag}{h:Heap}(_:K.In h):PySem.W.Frag:=K
theorem walk_of {l:PySem.W.OpenLaw}{n k:Nat}{q:Program}{loose:List Str}{XP:(Str->Option Value)->Heap->Prop}{YP:World->Heap->Prop}{d:DefRec}{K:Params->PySem.W.Frag}{CX:World->CXT}{sp:World->Sp}{x:Str}
  (hn:l.most=some n) (hn2:n<=sizeLine) (hdf:d.params.defaults=[]) (hr:Room k callerA)
  (hY:∀ (w:World) (h:Heap),YP w h->(K w.params).In h)
  (F:∀ (w:World) (mg:Str->Option Value) (fa:Addr) (h:Heap),(K w.params).In h->h.Ns mainGlobals mg->mg d.name=some (.ref fa) ->
   ∃ fd:FuncData,(∀ (s:Shared) (u:Value),BindsTo s fd ⟨[u],[]⟩ [(x,u)]) /\
    ∀ base:Heap,(K w.params).In base->base.Ns mainGlobals mg->FnOk l.prog w (K w.params) mg base (CX w) k fa fd [x] (sp w))
  (hsp:∀ (w:World) (H:Hp) (a:Addr) (ns:List Int),ns.length<=n->Only H->SqL (K w.params) H a (ns.map V.int)->sp w [.ref a] H (fun v _=>v=.bl true) fun _ _ _=>False)
  (hCX:∀ (w:World) (H:Hp) (s:Shared) (e:Value) (s':Shared),CX w [] H s (fun _ _ _=>False) e s'->False) :
  PySem.W.WalkO q loose XP YP l.row.toRowW d [] (fun f vs=>PySem.call f vs):=by
 refine Att.attach_call hn hdf fun w s₀ s₁ mg mb fa o pm cd doc a vs ns G Y ho hd hcd hmg hobj hints hlen hg=>?_
 have KX:=hY w _ Y
 obtain ⟨fd,hb,hF⟩:=F w mg fa _ KX G.T.g hmg
 exact law_call KX G.T.g G.T.b G.T.builtins G.T.nolimit hg hobj hints (Nat.le_trans hlen hn2) hr hF hb (fun H hO hS=>hsp w H a ns hlen hO hS) fun H e s'=>hCX w H s₁ e s'
def dfA (s:Stmt):Arguments:=match s with
 | .FunctionDef _ a _ _ _ _ _ _ _ _=>a
 | _=>{ posonlyargs:=[],args:=[],vararg:=none,kwonlyargs:=[],kw_defaults:=[],kwarg:=none,defaults:=[] }
def dfB (s:Stmt):List Stmt:=match s with
 | .FunctionDef _ _ b _ _ _ _ _ _ _=>b
 | _=>[]
def dfS (s:Stmt):Scope:=match s with
 | .FunctionDef _ _ _ _ _ _ sc _ _ _=>sc
 | _=>{ kind:=.function,names:=[],isGenerator:=false,isCoroutine:=false }
abbrev CX0:CXT:=fun _ _ _ _ _ _=>False
abbrev E0:XK:=fun _ _ _=>False
theorem pass0 {X:Cx}:Passes CX0 X E0:=fun _ _ _ _ _ _ _ h=>h.elim
structure Fun (K:PySem.W.Frag) (x qual:Str) (st:Stmt) (f:Addr) (fd:FuncData):Prop where
 ex:∃ (oc:Value) (od:Option Addr) (kV doc pm:Value) (an:Option Addr) (cdv ct:Value) (osl:Array (Option Value)),
  fd=PySem.W.fnOf x qual (dfA st) (dfB st) (dfS st) .none kV doc pm an cdv ct/\K.lookup f=some ⟨oc,od,.func fd,osl⟩/\PySem.W.codeIn K cdv qual=true
 kp:PySem.W.keepIn K (.ref f)=true
section
variable {P:Program}{w:World}{K:PySem.W.Frag}{mg:Str->Option Value}{base:Heap}
theorem Fun.ok {x qual:Str}{st:Stmt}{f:Addr}{fd:FuncData}{N ps:List Str}{k:Nat}{sp:Sp}(F:Fun K x qual st f fd) (S:FnScope N ps (dfS st)) (len:∀ vs H Q E,sp vs H Q E->vs.length=ps.length)
  (hbody:∀ (cdv:Value) (A:Around) (outer:List Env) (s:Shared) (H:Hp) (vs:List V) (Q:VK) (E:XK),Room k (A.deeper (envOfC qual (dfS st) s.heap.objs.size f cdv))->sp vs H Q E ->
   ∃ t,PSs (cxOf CX0 P w K mg base N qual (dfS st) f cdv A outer s H E).nox (dfB st) t/\t { nx:=fun _ H'=>Q .non H',rt:=Q } (start N vs) H):FnOk P w K mg base CX0 (k+1) f fd ps sp:=by
 obtain ⟨oc,od,kV,doc,pm,an,cdv,ct,osl,rfl,lk,hcd⟩:=F.ex
 refine fn_of lk hcd S len fun A outer s H vs Q E hr hsp=>?_
 obtain ⟨t,h,q⟩:=hbody cdv A outer s H vs Q E hr hsp
 exact ⟨t,h.nox,q⟩
theorem Fun.binds {x qual:Str}{st:Stmt}{f:Addr}{fd:FuncData}{ps:List Str}(F:Fun K x qual st f fd)
  (h:∀ (kV doc pm:Value) (an:Option Addr) (cdv ct:Value) (us:List Value),us.length=ps.length->bindArgs (PySem.W.fnOf x qual (dfA st) (dfB st) (dfS st) .none kV doc pm an cdv ct) ⟨us,[]⟩=pure (ps.zip us)):Binds K fd ps []:=by
 obtain ⟨oc,od,kV,doc,pm,an,cdv,ct,osl,rfl,lk,hcd⟩:=F.ex
 exact .all (h kV doc pm an cdv ct)
theorem fun_mk {x qual:Str}{st:Stmt}{f:Addr}{oc:Value}{od an:Option Addr}{osl:Array (Option Value)}{kV doc pm cdv ct:Value}(l:K.lookup f=some ⟨oc,od,.func (PySem.W.fnOf x qual (dfA st) (dfB st) (dfS st) .none kV doc pm an cdv ct),osl⟩)
  (c:PySem.W.codeIn K cdv qual=true) (k:PySem.W.keepIn K (.ref f)=true):Fun K x qual st f (PySem.W.fnOf x qual (dfA st) (dfB st) (dfS st) .none kV doc pm an cdv ct):=⟨⟨oc,od,kV,doc,pm,an,cdv,ct,osl,rfl,l,c⟩,k⟩
end
theorem hu_of {A:Around}{k:Nat}(hr:Room k A):A.units+1<cLine:=Nat.lt_of_le_of_lt (Nat.add_le_add_left (by decide:1<=64) _) hr.units
theorem small1000 {n:Nat}(h:n<=1000):n<sizeLine:=Nat.lt_of_le_of_lt h (by decide)
section
variable {X:Cx}
theorem pv (i:Nat) {x:Str}{pos:Pos}(hN:X.N[i]? = some x:=by rfl) (hv:Vis X.env.scope x:=by first | exact Or.inl rfl | exact Or.inr (Or.inl rfl) | exact Or.inr (Or.inr rfl)) (hd:(x == ("__debug__":Str))=false:=by decide)
  (hcd:(x == ("__classdict__":Str))=false:=by decide):PE X (.Name x pos) (tVar i):=pe_var hN hv hd hcd
end
theorem ite2 {c A B:Prop} [Decidable c] (h1:c->A) (h2:¬ c->B):if c then A else B:=by
 by_cases h:c
 ·rw [if_pos h]
  exact h1 h
 ·rw [if_neg h]
  exact h2 h
def Same (H H':Hp):Prop:=∀ b o,H b=some o->H' b=some o
theorem Same.refl (H:Hp):Same H H:=fun _ _ h=>h
theorem Same.trans {H H1 H2:Hp}(a:Same H H1) (b:Same H1 H2):Same H H2:=fun c o h=>b c o (a c o h)
theorem Same.free {H H':Hp}(e:Same H H') {l:Addr}(h:H' l=Option.none):H l=Option.none:=by
 cases q:H l with
 | none=>rfl
 | some o =>
  rw [e l o q] at h
  cases h
theorem Same.seq {K:PySem.W.Frag}{H H':Hp}{a:Addr}{xs:List V}(e:Same H H') (h:SqL K H a xs):SqL K H' a xs:=by
 rcases h with (h|⟨o,h⟩)|h
 ·exact .inl (.inl (e _ _ h))
 ·exact .inl (.inr ⟨o,e _ _ h⟩)
 ·exact .inr h
theorem isi_same (K:PySem.W.Frag) (c:String):PySem.W.kitOne K (.type c) (.type c)=some true:=by
 unfold PySem.W.kitOne
 rw [if_pos (beq_self_eq_true _)]
def blk (X:Cx) (scope:Scope) (cl:List (Str×Addr)) (C:Addr) (N:List Str) (fp:List Addr) (pins:List (Addr×Obj)) (s:Shared) (H:Hp):Cx where
 prog:=X.prog
 w:=X.w
 K:=X.K
 mg:=X.mg
 base:=X.base
 A:=X.A
 N:=N
 s₀:=s
 H₀:=H
 env:=compEnvC scope cl C X.env
 outer:=X.stack
 stack:=X.stack
 ex:=fp
 calm:=X.calm
 fn:=fun _=>false
 pn:=X.pn++pins
 xe:=fun _ _=>False
 fz:=X.fz
def tTrue:TT:=fun _ H Q=>Q true H
inductive PIfs (Y:Cx):List Expr->TT->Prop where
 | nil:PIfs Y [] tTrue
 | one {c:Expr} {t:TT} (h:PT Y c t):PIfs Y [c] t
structure BlkOk (X:Cx) (scope:Scope) (x:Str) (caps:List (Str×Nat)):Prop where
 kind:scope.kind=.function
 frees:(scope.names.all fun y=>y.2 != .free || X.env.scope.names.lookup y.1 == some .cell || X.env.scope.names.lookup y.1 == some .free)=true
 nocell:(scope.names.all fun y=>y.2 != .cell)=true
 locs:(scope.names.all fun y=>y.2 != .local || scope.names.lookup y.1 == some .local)=true
 var:scope.names.lookup x=some .local
 capsOk:(caps.all fun c=>scope.names.lookup c.1 == some .free && X.N[c.2]? == some c.1 && (X.env.scope.names.lookup c.1 == some .cell || X.env.scope.names.lookup c.1 == some .free))=true
 nd:(x::caps.map (·.1)).Nodup
def capN (σ:St) (caps:List (Str×Nat)) (vs:List (Option V)):St:=vs++caps.map fun c=>(σ[c.2]?).join
structure BlkOkN (X:Cx) (scope:Scope) (x:Str) (ns:List Str) (caps:List (Str×Nat)):Prop where
 b:BlkOk X scope x caps
 rest:(ns.all fun y=>scope.names.lookup y == some .local)=true
 nd:(x::(ns++caps.map (·.1))).Nodup
section
variable {X:Cx}{pins:List (Addr×Obj)}{σ:St}{H:Hp}{s:Shared}{scope:Scope}{x:Str}{px pos:Pos}{caps:List (Str×Nat)}{elt iter:Expr}{ifs:List Expr}{tt:TT}{te:TE}
theorem BlkOk.hfree (B:BlkOk X scope x caps):∀ y∈scope.names,y.2=.free->X.env.kindOf y.1=some .cell\/X.env.kindOf y.1=some .free:=fun y hy hf=>by
 have:=List.all_eq_true.mp B.frees y hy
 rw [hf] at this
 simp only [Bool.or_eq_true] at this
 rcases this with (h|h)|h
 ·simp at h
 ·exact .inl (show X.env.scope.names.lookup y.1=_ by simpa using h)
 ·exact .inr (show X.env.scope.names.lookup y.1=_ by simpa using h)
theorem BlkOk.hcell (B:BlkOk X scope x caps):∀ y∈scope.names,y.2≠.cell:=fun y hy hf=>by
 have:=List.all_eq_true.mp B.nocell y hy
 rw [hf] at this
 simp at this
end
section
variable {K:PySem.W.Frag}{a:Addr}{xs:List V}{caps:List (Str×Nat)}{tt:TT}{te:TE}{σ:St}{H:Hp}{Q:VK}
end
section
variable {κ:Type} [DecidableEq κ]
def valV (kvs:List (κ×V)) (k:κ):Option V:=(kvs.find? fun kv=>decide (kv.1=k)).map (·.2)
def putK (kvs:List (κ×V)) (k:κ) (v:V):List (κ×V) :=
 if (kvs.any fun kv=>decide (kv.1=k))=true then kvs.map (fun kv=>if kv.1=k then (kv.1,v) else kv) else kvs++[(k,v)]
def dropK (kvs:List (κ×V)) (k:κ):List (κ×V):=kvs.filter fun kv=>decide (kv.1≠k)
theorem valV_pos {p:κ×V}{r:List (κ×V)}{k:κ}(e:p.1=k):valV (p::r) k=some p.2:=by simp [valV,List.find?_cons,e]
theorem valV_neg {p:κ×V}{r:List (κ×V)}{k:κ}(e:¬ p.1=k):valV (p::r) k=valV r k:=by simp [valV,List.find?_cons,e]
theorem valV_any (k:κ):∀ kvs:List (κ×V),(kvs.any fun kv=>decide (kv.1=k))=(valV kvs k).isSome
 | []=>rfl
 | p::r=>by
  rw [List.any_cons]
  by_cases e:p.1=k
  ·simp only [valV_pos e,decide_eq_true e,Bool.true_or,Option.isSome_some]
  ·rw [valV_neg e,decide_eq_false e,Bool.false_or];exact valV_any k r
theorem length_putK (kvs:List (κ×V)) (k:κ) (v:V):(putK kvs k v).length<=kvs.length+1:=by
 unfold putK
 split
 ·rw [List.length_map];omega
 ·rw [List.length_append,List.length_cons,List.length_nil];omega
theorem RelO.isSome_eq {o:Option V}{u:Option Value}(r:RelO o u):o.isSome=u.isSome:=by
 cases o with
 | none=>cases u with
  | none=>rfl
  | some _=>exact (show False from r).elim
 | some _=>cases u with
  | none=>exact (show False from r).elim
  | some _=>rfl
theorem RelO.getD {o:Option V}{u:Option Value}{d:V}{d':Value}(r:RelO o u) (rd:RelV d d'):RelV (o.getD d) (u.getD d'):=by
 cases o with
 | none=>cases u with
  | none=>exact rd
  | some _=>exact (show False from r).elim
 | some _=>cases u with
  | none=>exact (show False from r).elim
  | some _=>exact r
theorem KV.val {kvs:List (κ×V)}{vs:List (κ×Value)}(r:KV kvs vs) (k:κ):RelO (valV kvs k) (valueAt vs k):=by
 unfold KV at r
 induction r with
 | nil=>exact True.intro
 | @cons p q ps qs h t ih =>
  obtain ⟨h1,h2⟩:=h
  by_cases e:p.1=k
  ·have e':q.1=k:=h1.symm.trans e
   have b:valueAt (q::qs) k=some q.2:=by simp [valueAt,List.find?_cons,e']
   rw [valV_pos e,b];exact h2
  ·have e':¬ q.1=k:=fun z=>e (h1.trans z)
   have b:valueAt (q::qs) k=valueAt qs k:=by simp [valueAt,List.find?_cons,e']
   rw [valV_neg e,b];exact ih
theorem KV.any {kvs:List (κ×V)}{vs:List (κ×Value)}(r:KV kvs vs) (k:κ):(kvs.any fun kv=>decide (kv.1=k))=vs.any fun kv=>decide (kv.1=k):=by
 unfold KV at r
 induction r with
 | nil=>rfl
 | cons h t ih=>rw [List.any_cons,List.any_cons,ih,h.1]
theorem KV.repl {kvs:List (κ×V)}{vs:List (κ×Value)}(r:KV kvs vs) (k:κ) {y:V}{u:Value}(ry:RelV y u) :
  KV (kvs.map fun kv=>if kv.1=k then (kv.1,y) else kv) (vs.map fun kv=>if kv.1=k then (kv.1,u) else kv):=by
 unfold KV at r ⊢
 induction r with
 | nil=>exact .nil
 | @cons p q ps qs h t ih =>
  rw [List.map_cons,List.map_cons]
  refine .cons ?_ ih
  obtain ⟨h1,h2⟩:=h
  by_cases e:p.1=k
  ·rw [if_pos e,if_pos (h1.symm.trans e)];exact ⟨h1,ry⟩
  ·rw [if_neg e,if_neg (fun z=>e (h1.trans z))];exact ⟨h1,h2⟩
theorem KV.put {kvs:List (κ×V)}{vs:List (κ×Value)}(r:KV kvs vs) (k:κ) {y:V}{u:Value}(ry:RelV y u):KV (putK kvs k y) (stored vs k u):=by
 unfold putK stored
 rw [r.any k]
 by_cases e:(vs.any fun kv=>decide (kv.1=k))=true
 ·rw [if_pos e,if_pos e];exact r.repl k ry
 ·rw [if_neg e,if_neg e];exact Paired.snoc r ⟨rfl,ry⟩
theorem KV.drop {kvs:List (κ×V)}{vs:List (κ×Value)}(r:KV kvs vs) (k:κ):KV (dropK kvs k) (without vs k):=by
 unfold KV at r ⊢
 unfold dropK without
 induction r with
 | nil=>exact .nil
 | @cons p q ps qs h t ih =>
  obtain ⟨h1,h2⟩:=h
  rw [List.filter_cons,List.filter_cons]
  by_cases e:p.1=k
  ·have a:¬ decide (p.1≠k)=true:=by simp [e]
   have b:¬ decide (q.1≠k)=true:=by simp [h1.symm.trans e]
   rw [if_neg a,if_neg b];exact ih
  ·have e':¬ q.1=k:=fun z=>e (h1.trans z)
   have a:decide (p.1≠k)=true:=by simp [e]
   have b:decide (q.1≠k)=true:=by simp [e']
   rw [if_pos a,if_pos b];exact .cons ⟨h1,h2⟩ ih
theorem KV.keys {kvs:List (κ×V)}{vs:List (κ×Value)}(r:KV kvs vs):kvs.map (·.1)=vs.map (·.1):=by
 unfold KV at r
 induction r with
 | nil=>rfl
 | cons h t ih=>rw [List.map_cons,List.map_cons,ih,h.1]
theorem KV.length {kvs:List (κ×V)}{vs:List (κ×Value)}(r:KV kvs vs):kvs.length=vs.length:=Paired.length r
end
theorem kV_is {P:Program}{w:World}{k:Key}{u:Value}(r:RelV (kV k) u):(mixKind P w).is k u=true:=by
 cases k with
 | inl i=>obtain ⟨t,e⟩:=(show ∃ t,u=Value.int i t from r);subst e;exact mixKind_int P w i t
 | inr x=>obtain ⟨t,e⟩:=(show ∃ t,u=Value.str x t from r);subst e;exact mixKind_str P w x t
theorem items_are {P:Program}{w:World}:∀ {ks:List Key}{us:List Value},Vals (ks.map kV) us->ItemsAre (mixKind P w) ks us
 | [],_,r=>by rw [List.map_nil] at r;cases r;exact .nil
 | k::ks,_,r=>by
  rw [List.map_cons] at r
  cases r with
  | cons h t=>exact .cons (kV_is h) (items_are t)
abbrev KT (H:Hp):List (List Key×V)->List (List Key×Addr×Value)->Prop:=Paired fun p q=>p.1=q.1/\H q.2.1=some (.tup (p.1.map kV))/\RelV p.2 q.2.2
theorem KT.val {H:Hp}{kvs:List (List Key×V)}{xs:List (List Key×Addr×Value)}(r:KT H kvs xs) (k:List Key):RelO (valV kvs k) ((atKey xs k).map (·.2)):=by
 induction r with
 | nil=>exact True.intro
 | @cons p q ps qs h t ih =>
  obtain ⟨h1,_,h2⟩:=h
  by_cases e:p.1=k
  ·have e':q.1=k:=h1.symm.trans e
   have b:atKey (q::qs) k=some q.2:=by simp [atKey,List.find?_cons,e']
   rw [valV_pos e,b];exact h2
  ·have e':¬ q.1=k:=fun z=>e (h1.trans z)
   have b:atKey (q::qs) k=atKey qs k:=by simp [atKey,List.find?_cons,e']
   rw [valV_neg e,b];exact ih
theorem KT.repl {H:Hp}{kvs:List (List Key×V)}{xs:List (List Key×Addr×Value)}(r:KT H kvs xs) (k:List Key) {y:V}{u:Value}(ry:RelV y u) :
  KT H (kvs.map fun kv=>if kv.1=k then (kv.1,y) else kv) (xs.map (putAt k u)):=by
 induction r with
 | nil=>exact .nil
 | @cons p q ps qs h t ih =>
  rw [List.map_cons,List.map_cons]
  refine .cons ?_ ih
  obtain ⟨h1,h2,h3⟩:=h
  unfold putAt
  by_cases e:p.1=k
  ·rw [if_pos e,if_pos (h1.symm.trans e)];exact ⟨h1,h2,ry⟩
  ·rw [if_neg e,if_neg (fun z=>e (h1.trans z))];exact ⟨h1,h2,h3⟩
theorem KT.put {H:Hp}{kvs:List (List Key×V)}{xs:List (List Key×Addr×Value)}(r:KT H kvs xs) (k:List Key) {b:Addr}{y:V}{u:Value}(hb:H b=some (.tup (k.map kV))) (ry:RelV y u) :
  KT H (putK kvs k y) (storedH xs k b u):=by
 have e:(kvs.any fun kv=>decide (kv.1=k))=(atKey xs k).isSome:=by
  rw [valV_any,(r.val k).isSome_eq,Option.isSome_map]
 unfold putK storedH
 rw [e]
 by_cases q:(atKey xs k).isSome=true
 ·rw [if_pos q,if_pos q];exact r.repl k ry
 ·rw [if_neg q,if_neg q];exact Paired.snoc r ⟨rfl,hb,ry⟩
theorem KT.keeps {H H':Hp}{kvs:List (List Key×V)}{xs:List (List Key×Addr×Value)}(r:KT H kvs xs) (ht:∀ b ys,H b=some (.tup ys)->H' b=some (.tup ys)):KT H' kvs xs :=
 Paired.mapP r fun _ _ z=>⟨z.1,ht _ _ z.2.1,z.2.2⟩
section
variable {P:Program}{w:World}{H:Hp}{h:Heap}{a:Addr}
theorem rd_of {u:HO}(ok:HOk P w H h) (e:Rd H a u):ObjOk P w H h a u:=e.ok ok
theorem dk_rd {kvs:List (Key×V)}(ok:HOk P w H h) (e:Rd H a (.dK kvs)):kvs.length<=sizeLine/\(a == sysModules)=false/\∃ vs,KV kvs vs/\h.DictOf (mixKind P w) a vs :=
 show ObjOk P w H h a (.dK kvs) from rd_of ok e
theorem dk_of {kvs:List (Key×V)}(ok:HOk P w H h) (e:H a=some (.dK kvs)):kvs.length<=sizeLine/\(a == sysModules)=false/\∃ vs,KV kvs vs/\h.DictOf (mixKind P w) a vs:=dk_rd ok (.inl e)
theorem key_of {ks:List Key}(ok:HOk P w H h) (e:H a=some (.tup (ks.map kV))):(tupleKind (mixKind P w)).is h ks a:=by
 obtain ⟨_,its,r,o,h1,h2,n,h3⟩:=(show ObjOk P w H h a (.tup (ks.map kV)) from ok a _ e)
 exact ⟨o,its.toArray,n,h1,h2,h3,by simpa using items_are r⟩
theorem dt_rd {kvs:List (List Key×V)}(ok:HOk P w H h) (e:Rd H a (.dT kvs)):kvs.length<=sizeLine/\(a == sysModules)=false /\
  ∃ xs,KT H kvs xs/\h.DictOfH (tupleKind (mixKind P w)) a xs:=by
 obtain ⟨z,y,xs,r,o,es,ep,h1,h2,h3,h4,h5⟩:=(show ObjOk P w H h a (.dT kvs) from rd_of ok e)
 refine ⟨z,y,xs,r,o,es,ep,h1,h2,h3,h4,fun x hx=>?_,h5⟩
 have all:∀ {l:List (List Key×V)} {m:List (List Key×Addr×Value)},KT H l m->∀ x∈m,(tupleKind (mixKind P w)).is h x.1 x.2.1:=by
  intro l m q
  induction q with
  | nil=>intro x hx;exact nomatch hx
  | @cons p q ps qs hq t ih =>
   intro x hx
   rcases List.mem_cons.mp hx with e|hx
   ·subst e
    exact key_of ok (by rw [<- hq.1];exact hq.2.1)
   ·exact ih x hx
 exact all r x hx
theorem dt_of {kvs:List (List Key×V)}(ok:HOk P w H h) (e:H a=some (.dT kvs)):kvs.length<=sizeLine/\(a == sysModules)=false /\
  ∃ xs,KT H kvs xs/\h.DictOfH (tupleKind (mixKind P w)) a xs:=dt_rd ok (.inl e)
end
def DGet (H:Hp) (a:Addr) (y:V) (r:Option V):Prop :=
 (∃ kvs k,Rd H a (.dK kvs)/\y=kV k/\r=valV kvs k)\/∃ kvs k b,Rd H a (.dT kvs)/\y=.ref b/\H b=some (.tup (k.map kV))/\r=valV kvs k
def DPut (H:Hp) (a:Addr) (y v:V) (H':Hp):Prop :=
 (∃ kvs k,H a=some (.dK kvs)/\y=kV k/\kvs.length<sizeLine/\H'=upd H a (.dK (putK kvs k v))) \/
 ∃ kvs k b,H a=some (.dT kvs)/\y=.ref b/\H b=some (.tup (k.map kV))/\kvs.length<sizeLine/\H'=upd H a (.dT (putK kvs k v))
theorem DGet.k {H:Hp}{a:Addr}{kvs:List (Key×V)}{k:Key}(e:H a=some (.dK kvs)):DGet H a (kV k) (valV kvs k):=.inl ⟨kvs,k,.inl e,rfl,rfl⟩
theorem DGet.t {H:Hp}{a b:Addr}{kvs:List (List Key×V)}{k:List Key}(e:H a=some (.dT kvs)) (eb:H b=some (.tup (k.map kV))):DGet H a (.ref b) (valV kvs k):=.inr ⟨kvs,k,b,.inl e,rfl,eb,rfl⟩
theorem DPut.k {H:Hp}{a:Addr}{kvs:List (Key×V)}{k:Key}{v:V}(e:H a=some (.dK kvs)) (hl:kvs.length<sizeLine):DPut H a (kV k) v (upd H a (.dK (putK kvs k v))):=.inl ⟨kvs,k,e,rfl,hl,rfl⟩
theorem DPut.t {H:Hp}{a b:Addr}{kvs:List (List Key×V)}{k:List Key}{v:V}(e:H a=some (.dT kvs)) (eb:H b=some (.tup (k.map kV))) (hl:kvs.length<sizeLine) :
  DPut H a (.ref b) v (upd H a (.dT (putK kvs k v))):=.inr ⟨kvs,k,b,e,rfl,eb,hl,rfl⟩
section
variable {X:Cx}{pins:List (Addr×Obj)}{σ:St}{H:Hp}{s:Shared}{a:Addr}{y v:V}{u r:Value}{o:Option V}{A:Around}{E:Value->Shared->Prop}
theorem Inv.big (I:Inv X pins σ H s):sysModules<s.heap.objs.size:=by
 have h:mainGlobals<s.heap.objs.size:=(I.mod.glob.keeps I.bk).lt
 exact Nat.lt_trans (by decide) h
theorem d_getItem {Q:Value->Shared->Prop}(hu:A.units+1<cLine) (I:Inv X pins σ H s) (g:DGet H a y (some v)) (ry:RelV y u) (h:∀ w' s',Inv X pins σ H s'->RelV v w'->Q w' s') :
  wpAny (model X.prog X.w) A (getItem (.ref a) u) Q E s:=by
 rcases g with ⟨kvs,k,e,ey,l⟩|⟨kvs,k,b,e,ey,eb,l⟩
 ·subst ey
  obtain ⟨z,hd,vs,rel,dd⟩:=dk_rd I.hok e
  obtain ⟨w',hw,rw'⟩:=RelO.some_of (v:=v) (o:=valueAt vs k) (by rw [l];exact rel.val k)
  exact wpAny_getItem_of (kV_is ry) dd.mapOf hw (h w' _ (I.tok _) rw')
 ·subst ey
  cases (show u=Value.ref b from ry)
  obtain ⟨z,hd,xs,rel,dd⟩:=dt_rd I.hok e
  obtain ⟨w',hw,rw'⟩:=RelO.some_of (v:=v) (o:=(atKey xs k).map (·.2)) (by rw [l];exact rel.val k)
  obtain ⟨p,hp,hp2⟩:=Option.map_eq_some_iff.mp hw
  refine wpAny_getItem_heap (tupleKind_room_in1 hu) (key_of I.hok eb) dd hp ?_
  rw [hp2]
  exact h w' _ (I.tok _) rw'
theorem d_notIn {Q:Value->Shared->Prop}(hu:A.units+1<cLine) (I:Inv X pins σ H s) (g:DGet H a y o) (ry:RelV y u) (h:∀ s',Inv X pins σ H s'->Q (.bool (!o.isSome)) s') :
  wpAny (model X.prog X.w) A (compareOp .NotIn u (.ref a)) Q E s:=by
 rcases g with ⟨kvs,k,e,ey,l⟩|⟨kvs,k,b,e,ey,eb,l⟩
 ·subst ey
  obtain ⟨z,hd,vs,rel,dd⟩:=dk_rd I.hok e
  refine wpAny_notIn_of (kV_is ry) hd dd.mapOf ?_
  rw [<- (rel.val k).isSome_eq,<- l]
  exact h _ (I.tok _)
 ·subst ey
  cases (show u=Value.ref b from ry)
  obtain ⟨z,hd,xs,rel,dd⟩:=dt_rd I.hok e
  refine wpAny_notIn_heap (tupleKind_room_in1 hu) (key_of I.hok eb) hd dd ?_
  have q:=(rel.val k).isSome_eq
  rw [Option.isSome_map] at q
  rw [<- q,<- l]
  exact h _ (I.tok _)
theorem d_write {h':Heap}{t':Nat}{ob:HO}(I:Inv X pins σ H s) (mu:Mut (H a)) (hs:Heap.SameBut a s.heap h') (he:∃ q,h'.get? a=some q) (new:ObjOk X.prog X.w (upd H a ob) h' a ob) :
  Inv X pins σ (upd H a ob) { s with heap:=h',toks:=t' } :=
 I.write (x:=a) (e:=a) mu (.inl rfl) (fun b q hb z=>(hs.2 b hb).trans z) he new
theorem dk_new {P:Program}{w:World}{H':Hp}{h':Heap}{kvs:List (Key×V)}{vs:List (Key×Value)}(z:kvs.length<=sizeLine) (hd:(a == sysModules)=false) (rel:KV kvs vs) (dd:h'.DictOf (mixKind P w) a vs) :
  ObjOk P w H' h' a (.dK kvs):=⟨z,hd,vs,rel,dd⟩
theorem d_setItem {H':Hp}{Q:Unit->Shared->Prop}(hu:A.units+1<cLine) (I:Inv X pins σ H s) (g:DPut H a y v H') (ry:RelV y u) (rv:RelV v r) (h:∀ s',Inv X pins σ H' s'->Q () s') :
  wpAny (model X.prog X.w) A (setItem (.ref a) u r) Q E s:=by
 rcases g with ⟨kvs,k,e,ey,l,eH⟩|⟨kvs,k,b,e,ey,eb,l,eH⟩
 ·subst ey eH
  obtain ⟨z,hd,vs,rel,dd⟩:=dk_of I.hok e
  have hz:vs.length<=sizeLine:=by rw [<- rel.length];exact z
  have hl:(putK kvs k v).length<=sizeLine:=by have:=length_putK kvs k v;omega
  refine wpAny_setItem_pairs (hsz:=hz) (kV_is ry) dd fun h' dd' hs=>h _ ?_
  have he:∃ q,h'.get? a=some q:=let ⟨q,_,_,hq,_⟩:=dd';⟨q,hq⟩
  exact d_write I (by rw [e];exact True.intro) hs he (dk_new hl hd (rel.put k rv) dd')
 ·subst ey eH
  cases (show u=Value.ref b from ry)
  obtain ⟨z,hd,xs,rel,dd⟩:=dt_of I.hok e
  have hz:xs.length<=sizeLine:=by rw [<- Paired.length rel];exact z
  have hl:(putK kvs k v).length<=sizeLine:=by have:=length_putK kvs k v;omega
  refine wpAny_setItem_heap (hsz:=hz) (tupleKind_room_in1 hu) (key_of I.hok eb) dd fun h' dd' hs=>h _ ?_
  obtain ⟨q,es,ep,hq,h2,h3,h4,_,h5⟩:=dd'
  refine d_write I (by rw [e];exact True.intro) hs ⟨q,hq⟩ ⟨hl,hd,_,(rel.put k eb rv).keeps fun c ys ec=>?_,q,es,ep,hq,h2,h3,h4,h5⟩
  rw [upd_ne (ne_of ec e (fun z=>nomatch z))]
  exact ec
end
section
variable {X:Cx}{pins:List (Addr×Obj)}{σ:St}{H:Hp}{s:Shared}{a:Addr}{kvs:List (Key×V)}{k:Key}{u:Value}{A:Around}{E:Value->Shared->Prop}
end
def NoSl (i:Expr):Prop:=∀ ov iv,subscripted i false ov iv=operate [ov,iv] (getItem ov iv)
theorem subD_of {prog:Program}{w:World}{A:Around}{E:Value->Shared->Prop}{s:Shared}{env:Env}{value slice:Expr}{pos:Pos}{T id:String}{Q:Value->Shared->Prop}
  (hl:typeLookup (.type T) "__getitem__" = pure (some (.builtin id))) (hs:NoSl slice)
  (h:wpAny (model prog w) A (eval value env) (fun o s₁=>wpAny (model prog w) A (eval slice env) (fun i s₂=>s₂.TypeIs o T/\wpAny (model prog w) A (getItem o i) Q E s₂) E s₁) E s) :
  wpAny (model prog w) A (eval (.Subscript value slice pos) env) Q E s:=by
 refine Subscript_ (wpAny_mono h (fun o s₁ h₁=>wpAny_mono h₁ (fun i s₂ h₂=>?_) fun _ _ x=>x) fun _ _ x=>x)
 obtain ⟨hT,h₂⟩:=h₂
 unfold subscriptTail
 refine wpAny_bind ?_
 rw [getitemInPython_of_ne hT.not_modules]
 refine wpAny_bind (wpAny_specialOf hT hl ?_)
 have fin:wpAny (model prog w) A (subscripted slice false o i) (fun r s₃=>wpAny (model prog w) A (letTemporaryGo value o r >>= fun _=>pure r) Q E s₃) E s₂:=by
  rw [hs o i]
  exact wpAny_operating (wpAny_mono h₂ (fun r s₃ h₃=>wpAny_bind (wpAny_letTemporaryGo (wpAny_pure h₃))) fun _ _ x=>x)
 first
  | exact wpAny_pure (wpAny_bind fin)
  | exact wpAny_bind (wpAny_pure (wpAny_bind fin))
  | exact wpAny_bind fin
theorem dict_typeIs {X:Cx}{pins:List (Addr×Obj)}{σ:St}{H:Hp}{s:Shared}{a:Addr}{y:V}{o:Option V}(I:Inv X pins σ H s) (g:DGet H a y o):s.TypeIs (.ref a) "dict":=by
 rcases g with ⟨kvs,k,e,_,_⟩|⟨kvs,k,b,e,_,_,_⟩
 ·obtain ⟨_,_,vs,_,dd⟩:=dk_rd I.hok e
  exact dd.typeIs
 ·obtain ⟨_,_,xs,_,dd⟩:=dt_rd I.hok e
  exact dd.typeIs
def tDGet (td ty:TE):TE:=fun σ H Q=>td σ H fun x H1=>ty σ H1 fun y H2=>∃ a v,x=.ref a/\DGet H2 a y (some v)/\Q v H2
def sDPut (td ty tv:TE):TS:=fun D σ H=>tv σ H fun v H1=>td σ H1 fun x H2=>ty σ H2 fun y H3=>∃ a H4,x=.ref a/\DPut H3 a y v H4/\D.nx σ H4
section
variable {X:Cx}{o i e value:Expr}{pos pos' tpos:Pos}{td ty tv:TE}
theorem pe_dget (hu:X.A.units+1<cLine) (ho:PE X o td) (hi:PE X i ty) (hs:NoSl i):PE X (.Subscript o i pos) (tDGet td ty):=by
 intro pins s σ H Q I h
 refine subD_of PySem.F.slot_dict_getitem.lookup hs (thn (ho pins s σ H _ I h) fun u s1 ⟨x,H1,I1,rx,q1⟩=>thn (hi pins s1 σ H1 _ I1 q1) fun iv s2 ⟨y,H2,I2,ry,a,v,ex,g,q2⟩=>?_)
 subst ex
 obtain rfl:u=Value.ref a:=rx
 exact ⟨dict_typeIs I2 g,d_getItem hu I2 g ry fun w' s3 I3 rw'=>⟨v,H2,I3,rw',q2⟩⟩
theorem ps_dput (hu:X.A.units+1<cLine) (ho:PE X o td) (hi:PE X i ty) (hv:PE X value tv) (hs:swapsWith value (some (.Subscript o i pos')) pos.line X.env=pure false) :
  PS X (.Assign [.Subscript o i pos'] value pos) (sDPut td ty tv):=by
 intro pins s σ H D I h
 refine wpAny_Assign_Subscript (thn (hv pins s σ H _ I h) fun r s1 ⟨v,H1,I1,rv,q1⟩=>thn (ho pins s1 σ H1 _ I1 q1) fun u s2 ⟨x,H2,I2,rx,q2⟩=>thn (hi pins s2 σ H2 _ I2 q2) fun iv s3 ⟨y,H3,I3,ry,a,H4,ex,g,q3⟩=>?_) hs
 subst ex
 obtain rfl:u=Value.ref a:=rx
 exact d_setItem hu I3 g ry rv fun s4 I4=>⟨σ,H4,I4,q3⟩
end
theorem dt_empty {P:Program}{w:World}{H:Hp}(h:Heap) (hb:sysModules<h.objs.size):ObjOk P w H (h.push { cls:=.type "dict",data:=.dict #[] }) h.objs.size (.dT []) :=
 ⟨Nat.zero_le _,beq_eq_false_iff_ne.mpr (Ne.symm (Nat.ne_of_lt hb)),[],.nil,_,#[],0,Heap.get?_push_size _ rfl,⟨rfl,rfl,rfl⟩,rfl,rfl,List.nodup_nil⟩
def tDNewT:TE:=fun _ H Q=>∀ p,H p=none->Q (.ref p) (upd H p (.dT []))
section
variable {X:Cx}{pos:Pos}
theorem pe_dnewT:PE X (.Dict [] [] pos) tDNewT:=fun pins s σ H Q I h =>
 wpAny_Dict_empty ⟨.ref s.heap.objs.size,_,I.laid (a:=s.heap.objs.size) (o:=.dT []) (t':=s.toks) (fun _ _ q=>Heap.get?_push_of_some _ q) (Nat.le_refl _) (dt_empty s.heap I.big),rfl,h _ (I.hok.fresh (Nat.le_refl _))⟩
end
structure M1 (X:Cx) (o:Expr) (m:Str) (apos:Pos) (e:Expr) (cpos:Pos):Prop where
 base:attributeBase o m X.env (eval o X.env)=eval o X.env
 few:((backTo cpos (starEach [e] X.env)).all (fun x=>!x.1) && (backToKw cpos (keywordEach [] X.env)).all (fun x=>x.1.isSome)
  && decide (([e]:List Expr).length+([]:List Keyword).length+(if ([]:List Keyword).isEmpty then 0 else 1)<30))=true
 line:(apos.endLine == cpos.line)=true
 trees:backTo cpos (starEach [e] X.env)=[(false,eval e X.env)]
structure M2 (X:Cx) (o:Expr) (m:Str) (apos:Pos) (e f:Expr) (cpos:Pos):Prop where
 base:attributeBase o m X.env (eval o X.env)=eval o X.env
 few:((backTo cpos (starEach [e,f] X.env)).all (fun x=>!x.1) && (backToKw cpos (keywordEach [] X.env)).all (fun x=>x.1.isSome)
  && decide (([e,f]:List Expr).length+([]:List Keyword).length+(if ([]:List Keyword).isEmpty then 0 else 1)<30))=true
 line:(apos.endLine == cpos.line)=true
 trees:backTo cpos (starEach [e,f] X.env)=[(false,eval e X.env),(false,eval f X.env)]
section
variable {X:Cx}{pins:List (Addr×Obj)}{σ:St}{H:Hp}{s:Shared}{a:Addr}{y d:V}{u r:Value}{o:Option V}{A:Around}{E:Value->Shared->Prop}
end
section
variable {X:Cx}{o e f:Expr}{apos cpos:Pos}{td ty tx:TE}
end
section
variable {X:Cx}{pins:List (Addr×Obj)}{σ:St}{H:Hp}{s:Shared}{a:Addr}{kvs:List (Key×V)}{A:Around}{E:Value->Shared->Prop}
end
section
variable {X:Cx}{pins:List (Addr×Obj)}{σ:St}{H:Hp}{s:Shared}{a:Addr}{y:V}{u:Value}{A:Around}{E:Value->Shared->Prop}
end
section
variable {X:Cx}
end
section
variable {κ:Type} [DecidableEq κ]
end
structure Df (K:PySem.W.Frag) (mg:Str->Option Value) (x:Str) (st:Stmt) (ps:List Str) (f:Addr) (fd:FuncData):Prop where
 F:Fun K x x st f fd
 b:Binds K fd ps []
 m:mg x=some (.ref f)
structure Blt (mg:Str->Option Value):Prop where
 len:mg "len" = none
 range:mg "range" = none
 isinstance:mg "isinstance" = none
 int:mg "int" = none
 bool:mg "bool" = none
 list:mg "list" = none
 tuple:mg "tuple" = none
 max:mg "max" = none
 min:mg "min" = none
 dict:mg "dict" = none
 reversed:mg "reversed" = none
 sorted:mg "sorted" = none
 set:mg "set" = none
 str:mg "str" = none
 sum:mg "sum" = none
 enumerate:mg "enumerate" = none
 zip:mg "zip" = none
 all:mg "all" = none
section
variable {X:Cx}{x:Str}{pos p:Pos}
theorem pcall {k:Nat}{st:Stmt}{ps:List Str}{f:Addr}{fd:FuncData}{sp:Sp}{e:Expr}{es:List Expr}{t:TA}(d:Df X.K X.mg x st ps f fd) (G:FnOk X.prog X.w X.K X.mg X.base CX0 k f fd ps sp) (hr:Room k X.A) (ha:PA X (e::es) t)
  (hg:Gl X x:=by rfl) (hdb:(x == ("__debug__":Str))=false:=by decide) (he:starEach (e::es) X.env=(false,eval e X.env)::starEach es X.env:=by rfl) (hpl:(backTo pos (starEach es X.env)).any (·.1)=false:=by rfl) :
  PE X (.Call (.Name x p) (e::es) [] pos) (tCall sp [] E0 t):=pe_call G hr hg d.m d.F.kp d.b .nil pass0 ha hdb he hpl
theorem pty {T:String}(hm:X.mg x=none) (hv:bootBuiltins x=some (.type T)) (hg:Gl X x:=by rfl) (hn:x≠"__name__":=by decide) (hd:(x == ("__debug__":Str))=false:=by decide):PE X (.Name x pos) (tC (.ty T)):=pe_bltn hg hm hv rfl hn hd
end
theorem Same.at {H H':Hp}(e:Same H H') {a:Addr}{o:HO}(h:H a=some o):H' a=some o:=e a o h
theorem small {n:Nat}(h:n<=1000):n<=sizeLine:=Nat.le_of_lt (small1000 h)
theorem Same.over {H0 H:Hp}(e:Same H0 H) {l:Addr}(h:H0 l=none) (o:HO):Same H0 (upd H l o):=fun b u q=>by
 rw [upd_ne (ne_of_none q h)]
 exact e b u q
end L2
namespace L3
open PySem PySem.Spec PyProof.Rows L2
inductive D where
 | non | bl (b:Bool) | int (i:Int) | str (x:Str) | ref (a:Addr) | ty (n:String)
 | tup (xs:List D) | lst (xs:List D) | dic (kvs:List (Key×D)) | dct (kvs:List (List Key×D))
def gTup:Bool:=false
abbrev Zt:=Addr->D->Prop
def At (Z:Zt) (v:V):D->Prop
 | .non=>v=.non
 | .bl b=>v=.bl b
 | .int i=>v=.int i
 | .str x=>v=.str x
 | .ref a=>v=.ref a
 | .ty n=>v=.ty n
 | .tup xs=>∃ p,v=.ref p/\Z p (.tup xs)
 | .lst xs=>∃ p,v=.ref p/\Z p (.lst xs)
 | .dic kvs=>∃ p,v=.ref p/\Z p (.dic kvs)
 | .dct kvs=>∃ p,v=.ref p/\Z p (.dct kvs)
abbrev Ats (Z:Zt):List V->List D->Prop:=Paired (At Z)
def KAt {κ:Type}(Z:Zt) (p:κ×V) (q:κ×D):Prop:=p.1=q.1/\At Z p.2 q.2
abbrev KAts {κ:Type}(Z:Zt):List (κ×V)->List (κ×D)->Prop:=Paired (KAt Z)
def Le (Z Z':Zt):Prop:=∀ p d,Z p d->Z' p d
theorem Le.refl (Z:Zt):Le Z Z:=fun _ _ h=>h
theorem Le.trans {Z Z1 Z2:Zt}(a:Le Z Z1) (b:Le Z1 Z2):Le Z Z2:=fun p d h=>b p d (a p d h)
theorem At.mono {Z Z':Zt}(l:Le Z Z') {v:V}{d:D}(h:At Z v d):At Z' v d:=by
 cases d with
 | tup xs=>obtain ⟨p,e,z⟩:=h;exact ⟨p,e,l _ _ z⟩
 | lst xs=>obtain ⟨p,e,z⟩:=h;exact ⟨p,e,l _ _ z⟩
 | dic xs=>obtain ⟨p,e,z⟩:=h;exact ⟨p,e,l _ _ z⟩
 | dct xs=>obtain ⟨p,e,z⟩:=h;exact ⟨p,e,l _ _ z⟩
 | _=>exact h
theorem Ats.mono {Z Z':Zt}(l:Le Z Z'):∀ {vs:List V}{ds:List D},Ats Z vs ds->Ats Z' vs ds
 | _,_,.nil=>.nil
 | _,_,.cons r t=>.cons (At.mono l r) (Ats.mono l t)
theorem KAts.mono {κ:Type}{Z Z':Zt}(l:Le Z Z'):∀ {vs:List (κ×V)}{ds:List (κ×D)},KAts Z vs ds->KAts Z' vs ds
 | _,_,.nil=>.nil
 | _,_,.cons r t=>.cons ⟨r.1,At.mono l r.2⟩ (KAts.mono l t)
theorem Ats.length {Z:Zt}{vs:List V}{ds:List D}(h:Ats Z vs ds):vs.length=ds.length:=Paired.length h
theorem Ats.get {Z:Zt}:∀ {vs:List V}{ds:List D}{i:Nat}{d:D},Ats Z vs ds->ds[i]? = some d->∃ v,vs[i]? = some v/\At Z v d
 | _,_,_,_,.nil,e=>by simp at e
 | _,_,0,_,.cons r _,e=>by simp at e;subst e;exact ⟨_,rfl,r⟩
 | _,_,i+1,d,.cons _ t,e=>by
  obtain ⟨v,h1,h2⟩:=Ats.get (i:=i) (d:=d) t (by simpa using e)
  exact ⟨v,by simpa using h1,h2⟩
theorem Ats.got {Z:Zt}:∀ {vs:List V}{ds:List D}{i:Nat}{v:V},Ats Z vs ds->vs[i]? = some v->∃ d,ds[i]? = some d/\At Z v d
 | _,_,_,_,.nil,e=>by simp at e
 | _,_,0,_,.cons r _,e=>by simp at e;subst e;exact ⟨_,rfl,r⟩
 | _,_,i+1,d,.cons _ t,e=>by
  obtain ⟨v,h1,h2⟩:=Ats.got (i:=i) (v:=d) t (by simpa using e)
  exact ⟨v,by simpa using h1,h2⟩
theorem Ats.append {Z:Zt}:∀ {xs ys:List V}{us ws:List D},Ats Z xs us->Ats Z ys ws->Ats Z (xs++ys) (us++ws)
 | _,_,_,_,.nil,s=>s
 | _,_,_,_,.cons r t,s=>.cons r (Ats.append t s)
theorem Ats.take {Z:Zt}:∀ {xs:List V}{us:List D}(n:Nat),Ats Z xs us->Ats Z (xs.take n) (us.take n)
 | _,_,0,_=>.nil
 | _,_,_+1,.nil=>.nil
 | _,_,n+1,.cons r t=>.cons r (Ats.take n t)
theorem Ats.drop {Z:Zt}:∀ {xs:List V}{us:List D}(n:Nat),Ats Z xs us->Ats Z (xs.drop n) (us.drop n)
 | _,_,0,r=>r
 | _,_,_+1,.nil=>.nil
 | _,_,n+1,.cons _ t=>Ats.drop n t
theorem Ats.set {Z:Zt}{x:V}{d:D}(r:At Z x d):∀ {xs:List V}{us:List D}(i:Nat),Ats Z xs us->Ats Z (xs.set i x) (us.set i d)
 | _,_,_,.nil=>.nil
 | _,_,0,.cons _ t=>.cons r t
 | _,_,i+1,.cons q t=>.cons q (Ats.set r i t)
inductive MO where
 | lst (xs:List D) | dic (kvs:List (Key×D)) | dct (kvs:List (List Key×D)) | obj (C:Addr) (fs:List (Str×D))
abbrev Mp:=Addr->Option MO
def put (M:Mp) (a:Addr) (o:MO):Mp:=fun b=>if b=a then some o else M b
def del (M:Mp) (a:Addr):Mp:=fun b=>if b=a then none else M b
theorem put_same {M:Mp}{a:Addr}{o:MO}:put M a o a=some o:=by unfold put;rw [if_pos rfl]
theorem put_ne {M:Mp}{a b:Addr}{o:MO}(h:b≠a):put M a o b=M b:=by unfold put;rw [if_neg h]
theorem put_put {M:Mp}{a:Addr}{o u:MO}:put (put M a o) a u=put M a u:=by funext b;unfold put;split<;>rfl
def Sub (M M':Mp):Prop:=∀ a o,M a=some o->M' a=some o
theorem Sub.refl (M:Mp):Sub M M:=fun _ _ h=>h
theorem Sub.trans {M M1 M2:Mp}(a:Sub M M1) (b:Sub M1 M2):Sub M M2:=fun p o h=>b p o (a p o h)
theorem Sub.put {M:Mp}{a:Addr}{o:MO}(h:M a=none):Sub M (put M a o):=fun b u e=>by
 rw [put_ne (fun z=>by rw [z,h] at e;cases e)];exact e
theorem Sub.puts {M M':Mp}{a:Addr}{o:MO}(s:Sub M M') (h:M a=none):Sub M (L3.put M' a o):=fun b u e=>by
 rw [put_ne (fun z=>by rw [z,h] at e;cases e)];exact s b u e
section
variable (K:PySem.W.Frag)
def HB (H:Hp) (Z:Zt) (p:Addr):D->Prop
 | .tup ds=>∃ vs,H p=some (.tup vs)/\Ats Z vs ds
 | .lst ds=>∃ vs,Rd H p (.lst vs)/\Ats Z vs ds
 | .dic kvs=>∃ ks,Rd H p (.dK ks)/\KAts Z ks kvs
 | .dct kvs=>∃ ks,Rd H p (.dT ks)/\KAts Z ks kvs
 | _=>False
def KB (Z:Zt) (p:Addr):D->Prop
 | .tup ds=>gTup=true/\∃ vs,(∃ (o:Obj) (its:Array Value) (n:Nat),K.lookup p=some o/\o.cls=.type "tuple"/\o.data=.seq its n/\its.size<=sizeLine/\Vals vs its.toList)/\Ats Z vs ds
 | .lst ds=>∃ vs,(∃ (o:Obj) (its:Array Value) (n:Nat),K.lookup p=some o/\o.cls=.type "list"/\o.dict=none/\o.data=.seq its n/\its.size<=sizeLine/\Vals vs its.toList)/\Ats Z vs ds
 | _=>False
def MB (H:Hp) (Z:Zt) (p:Addr):MO->Prop
 | .lst ds=>∃ vs,H p=some (.lst vs)/\Ats Z vs ds
 | .dic kvs=>∃ ks,H p=some (.dK ks)/\KAts Z ks kvs
 | .dct kvs=>∃ ks,H p=some (.dT ks)/\KAts Z ks kvs
 | .obj C fs=>∃ dx ks,H p=some (.ins C dx ks)/\KAts Z ks fs
structure HR (H:Hp) (M:Mp) (Z:Zt):Prop where
 z:∀ p d,Z p d->HB H Z p d\/KB K Z p d
 m:∀ p o,M p=some o->(∀ d,Z p d->KB K Z p d)/\MB H Z p o
end
section
variable {K:PySem.W.Frag}{H H':Hp}{M M':Mp}{Z Z':Zt}{p:Addr}{d:D}
theorem HB.mono (l:Le Z Z') (h:HB H Z p d):HB H Z' p d:=by
 cases d with
 | tup ds=>obtain ⟨vs,r,a⟩:=h;exact ⟨vs,r,a.mono l⟩
 | lst ds=>obtain ⟨vs,r,a⟩:=h;exact ⟨vs,r,a.mono l⟩
 | dic ds=>obtain ⟨vs,r,a⟩:=h;exact ⟨vs,r,a.mono l⟩
 | dct ds=>obtain ⟨vs,r,a⟩:=h;exact ⟨vs,r,a.mono l⟩
 | _=>exact h.elim
theorem KB.mono (l:Le Z Z') (h:KB K Z p d):KB K Z' p d:=by
 cases d with
 | tup ds=>obtain ⟨g,vs,r,a⟩:=h;exact ⟨g,vs,r,a.mono l⟩
 | lst ds=>obtain ⟨vs,r,a⟩:=h;exact ⟨vs,r,a.mono l⟩
 | _=>exact h.elim
theorem MB.mono {o:MO}(l:Le Z Z') (h:MB H Z p o):MB H Z' p o:=by
 cases o with
 | lst ds=>obtain ⟨vs,r,a⟩:=h;exact ⟨vs,r,a.mono l⟩
 | dic ds=>obtain ⟨vs,r,a⟩:=h;exact ⟨vs,r,a.mono l⟩
 | dct ds=>obtain ⟨vs,r,a⟩:=h;exact ⟨vs,r,a.mono l⟩
 | obj C fs=>obtain ⟨dx,vs,r,a⟩:=h;exact ⟨dx,vs,r,a.mono l⟩
theorem Rd.at {u:HO}(e:H' p=H p) (h:Rd H p u):Rd H' p u:=by
 rcases h with h|⟨o,h⟩
 ·exact .inl (e.trans h)
 ·exact .inr ⟨o,e.trans h⟩
theorem HB.at (e:H' p=H p) (h:HB H Z p d):HB H' Z p d:=by
 cases d with
 | tup ds=>obtain ⟨vs,r,a⟩:=h;exact ⟨vs,e.trans r,a⟩
 | lst ds=>obtain ⟨vs,r,a⟩:=h;exact ⟨vs,Rd.at e r,a⟩
 | dic ds=>obtain ⟨vs,r,a⟩:=h;exact ⟨vs,Rd.at e r,a⟩
 | dct ds=>obtain ⟨vs,r,a⟩:=h;exact ⟨vs,Rd.at e r,a⟩
 | _=>exact h.elim
theorem MB.at {o:MO}(e:H' p=H p) (h:MB H Z p o):MB H' Z p o:=by
 cases o with
 | lst ds=>obtain ⟨vs,r,a⟩:=h;exact ⟨vs,e.trans r,a⟩
 | dic ds=>obtain ⟨vs,r,a⟩:=h;exact ⟨vs,e.trans r,a⟩
 | dct ds=>obtain ⟨vs,r,a⟩:=h;exact ⟨vs,e.trans r,a⟩
 | obj C fs=>obtain ⟨dx,vs,r,a⟩:=h;exact ⟨dx,vs,e.trans r,a⟩
theorem HB.some (h:HB H Z p d):H p≠none:=fun e=>by
 cases d with
 | tup ds=>obtain ⟨vs,r,a⟩:=h;rw [e] at r;cases r
 | lst ds=>obtain ⟨vs,r | ⟨o,r⟩,a⟩:=h<;>rw [e] at r<;>cases r
 | dic ds=>obtain ⟨vs,r | ⟨o,r⟩,a⟩:=h<;>rw [e] at r<;>cases r
 | dct ds=>obtain ⟨vs,r | ⟨o,r⟩,a⟩:=h<;>rw [e] at r<;>cases r
 | _=>exact h.elim
theorem MB.some {o:MO}(h:MB H Z p o):H p≠none:=fun e=>by
 cases o with
 | lst ds=>obtain ⟨vs,r,a⟩:=h;rw [e] at r;cases r
 | dic ds=>obtain ⟨vs,r,a⟩:=h;rw [e] at r;cases r
 | dct ds=>obtain ⟨vs,r,a⟩:=h;rw [e] at r;cases r
 | obj C fs=>obtain ⟨dx,vs,r,a⟩:=h;rw [e] at r;cases r
theorem HR.fresh (h:HR K H M Z) (e:H p=none):M p=none:=by
 cases q:M p with
 | none=>rfl
 | some o=>exact absurd e (h.m p o q).2.some
theorem HR.sub (h:HR K H M Z) (s:Sub M' M):HR K H M' Z:=⟨h.z,fun p o e=>h.m p o (s p o e)⟩
def ext (Z:Zt) (p:Addr) (d:D):Zt:=fun b u=>Z b u\/(b=p/\u=d)
theorem Le.ext:Le Z (ext Z p d):=fun _ _ h=>.inl h
theorem HR.lay (h:HR K H M Z) (e:H p=none) (o:HO):(∀ b u,Z b u->HB (upd H p o) Z b u\/KB K Z b u)/\∀ b u,M b=some u->(∀ d,Z b d->KB K Z b d)/\MB (upd H p o) Z b u:=by
 refine ⟨fun b u z=>?_,fun b u q=>?_⟩
 ·rcases h.z b u z with k|k
  ·exact .inl (k.at (upd_ne fun q=>k.some (by rw [q];exact e)))
  ·exact .inr k
 ·obtain ⟨k1,k2⟩:=h.m b u q
  exact ⟨k1,k2.at (upd_ne fun q=>k2.some (by rw [q];exact e))⟩
theorem HR.datum (h:HR K H M Z) (e:H p=none) {o:HO}(hb:HB (upd H p o) Z p d):HR K (upd H p o) M (ext Z p d):=by
 obtain ⟨h1,h2⟩:=h.lay e o
 have mn:=h.fresh e
 refine ⟨fun b u z=>?_,fun b u q=>?_⟩
 ·rcases z with z|⟨rfl,rfl⟩
  ·rcases h1 b u z with k|k
   ·exact .inl (k.mono Le.ext)
   ·exact .inr (k.mono Le.ext)
  ·exact .inl (hb.mono Le.ext)
 ·obtain ⟨k1,k2⟩:=h2 b u q
  refine ⟨fun d' z=>?_,k2.mono Le.ext⟩
  rcases z with z|⟨rfl,rfl⟩
  ·exact (k1 d' z).mono Le.ext
  ·rw [mn] at q;cases q
theorem HR.newT (h:HR K H M Z) (e:H p=none) {vs:List V}{ds:List D}(a:Ats Z vs ds):HR K (upd H p (.tup vs)) M (ext Z p (.tup ds)):=h.datum e ⟨vs,upd_same,a⟩
theorem HR.newF (h:HR K H M Z) (e:H p=none) {vs:List V}{ds:List D}(a:Ats Z vs ds):HR K (upd H p (.lst vs)) M (ext Z p (.lst ds)):=h.datum e ⟨vs,.inl upd_same,a⟩
theorem HR.newFD (h:HR K H M Z) (e:H p=none) {vs:List (Key×V)}{ds:List (Key×D)}(a:KAts Z vs ds):HR K (upd H p (.dK vs)) M (ext Z p (.dic ds)):=h.datum e ⟨vs,.inl upd_same,a⟩
theorem at_extT {xs:List D}:At (ext Z p (.tup xs)) (.ref p) (.tup xs):=⟨p,rfl,.inr ⟨rfl,rfl⟩⟩
theorem at_extL {xs:List D}:At (ext Z p (.lst xs)) (.ref p) (.lst xs):=⟨p,rfl,.inr ⟨rfl,rfl⟩⟩
theorem at_extD {xs:List (Key×D)}:At (ext Z p (.dic xs)) (.ref p) (.dic xs):=⟨p,rfl,.inr ⟨rfl,rfl⟩⟩
theorem HR.newM (h:HR K H M Z) (e:H p=none) {o:HO}{u:MO}(hb:MB (upd H p o) Z p u):HR K (upd H p o) (put M p u) Z:=by
 obtain ⟨h1,h2⟩:=h.lay e o
 refine ⟨h1,fun b w q=>?_⟩
 by_cases hbp:b=p
 ·subst hbp
  rw [put_same] at q
  cases q
  refine ⟨fun d z=>?_,hb⟩
  rcases h.z b d z with k|k
  ·exact absurd e k.some
  ·exact k
 ·rw [put_ne hbp] at q
  exact h2 b w q
theorem HR.newL (h:HR K H M Z) (e:H p=none) {vs:List V}{ds:List D}(a:Ats Z vs ds):HR K (upd H p (.lst vs)) (put M p (.lst ds)) Z:=h.newM e ⟨vs,upd_same,a⟩
theorem HR.newD (h:HR K H M Z) (e:H p=none) {vs:List (Key×V)}{ds:List (Key×D)}(a:KAts Z vs ds):HR K (upd H p (.dK vs)) (put M p (.dic ds)) Z:=h.newM e ⟨vs,upd_same,a⟩
theorem HR.newDT (h:HR K H M Z) (e:H p=none) {vs:List (List Key×V)}{ds:List (List Key×D)}(a:KAts Z vs ds):HR K (upd H p (.dT vs)) (put M p (.dct ds)) Z:=h.newM e ⟨vs,upd_same,a⟩
theorem HR.chg (h:HR K H M Z) {u u':MO}{o:HO}(e:M p=some u) (hb:MB (upd H p o) Z p u'):HR K (upd H p o) (put M p u') Z:=by
 obtain ⟨hk,_⟩:=h.m p u e
 refine ⟨fun b d z=>?_,fun b w q=>?_⟩
 ·by_cases hbp:b=p
  ·subst hbp;exact .inr (hk d z)
  ·rcases h.z b d z with k|k
   ·exact .inl (k.at (upd_ne hbp))
   ·exact .inr k
 ·by_cases hbp:b=p
  ·subst hbp
   rw [put_same] at q
   cases q
   exact ⟨hk,hb⟩
  ·rw [put_ne hbp] at q
   obtain ⟨k1,k2⟩:=h.m b w q
   exact ⟨k1,k2.at (upd_ne hbp)⟩
theorem HR.chgL (h:HR K H M Z) {u:MO}(e:M p=some u) {vs:List V}{ds:List D}(a:Ats Z vs ds):HR K (upd H p (.lst vs)) (put M p (.lst ds)) Z:=h.chg e ⟨vs,upd_same,a⟩
theorem HR.chgDT (h:HR K H M Z) {u:MO}(e:M p=some u) {vs:List (List Key×V)}{ds:List (List Key×D)}(a:KAts Z vs ds):HR K (upd H p (.dT vs)) (put M p (.dct ds)) Z:=h.chg e ⟨vs,upd_same,a⟩
theorem HR.rdT (h:HR K H M Z) {v:V}{ds:List D}(a:At Z v (.tup ds)):∃ p vs,v=.ref p/\SqT K H p vs/\Ats Z vs ds:=by
 obtain ⟨p,rfl,z⟩:=a
 rcases h.z p _ z with ⟨vs,r,a⟩|⟨_,vs,r,a⟩
 ·exact ⟨p,vs,rfl,.inl (.inl r),a⟩
 ·exact ⟨p,vs,rfl,.inr r,a⟩
theorem HR.rdK (hg:gTup=false) (h:HR K H M Z) {v:V}{ds:List D}(a:At Z v (.tup ds)):∃ p vs,v=.ref p/\H p=some (.tup vs)/\Ats Z vs ds:=by
 obtain ⟨p,rfl,z⟩:=a
 rcases h.z p _ z with ⟨vs,r,a⟩|⟨g,_⟩
 ·exact ⟨p,vs,rfl,r,a⟩
 ·rw [hg] at g;cases g
theorem HR.rdF (h:HR K H M Z) {v:V}{ds:List D}(a:At Z v (.lst ds)):∃ p vs,v=.ref p/\SqL K H p vs/\Ats Z vs ds:=by
 obtain ⟨p,rfl,z⟩:=a
 rcases h.z p _ z with ⟨vs,r,a⟩|⟨vs,r,a⟩
 ·exact ⟨p,vs,rfl,.inl r,a⟩
 ·exact ⟨p,vs,rfl,.inr r,a⟩
theorem HR.rdM (h:HR K H M Z) {ds:List D}(e:M p=some (.lst ds)):∃ vs,H p=some (.lst vs)/\Ats Z vs ds:=(h.m p _ e).2
theorem HR.rdMT (h:HR K H M Z) {ds:List (List Key×D)}(e:M p=some (.dct ds)):∃ vs,H p=some (.dT vs)/\KAts Z vs ds:=(h.m p _ e).2
theorem HR.rdMO (h:HR K H M Z) {C:Addr}{fs:List (Str×D)}(e:M p=some (.obj C fs)):∃ dx vs,H p=some (.ins C dx vs)/\KAts Z vs fs:=(h.m p _ e).2
theorem HR.rdMD (h:HR K H M Z) {ds:List (Key×D)}(e:M p=some (.dic ds)):∃ vs,H p=some (.dK vs)/\KAts Z vs ds:=(h.m p _ e).2
def lsOf (M:Mp):D->Option (List D)
 | .lst ds=>some ds
 | .ref p=>match M p with
  | some (.lst ds)=>some ds
  | _=>none
 | _=>none
def sqOf (M:Mp):D->Option (List D)
 | .tup ds=>some ds
 | d=>lsOf M d
theorem HR.rdL (h:HR K H M Z) {v:V}{d:D}{ds:List D}(e:lsOf M d=some ds) (a:At Z v d):∃ p vs,v=.ref p/\SqL K H p vs/\Ats Z vs ds:=by
 cases d with
 | lst xs=>cases e;exact h.rdF a
 | ref p =>
  cases (show v=.ref p from a)
  unfold lsOf at e
  simp only at e
  split at e
  ·next q =>
   cases e
   obtain ⟨vs,r,a⟩:=h.rdM q
   exact ⟨p,vs,rfl,SqL.of r,a⟩
  ·cases e
 | _=>cases e
theorem HR.rdS (h:HR K H M Z) {v:V}{d:D}{ds:List D}(e:sqOf M d=some ds) (a:At Z v d):∃ p vs,v=.ref p/\(SqL K H p vs\/SqT K H p vs)/\Ats Z vs ds:=by
 have go:lsOf M d=some ds->∃ p vs,v=.ref p/\(SqL K H p vs\/SqT K H p vs)/\Ats Z vs ds:=fun e=>by
  obtain ⟨p,vs,e1,s,a⟩:=h.rdL e a
  exact ⟨p,vs,e1,.inl s,a⟩
 cases d with
 | tup xs =>
  cases e
  obtain ⟨p,vs,e1,s,a⟩:=h.rdT a
  exact ⟨p,vs,e1,.inr s,a⟩
 | lst xs=>exact go e
 | ref p=>exact go e
 | _=>cases e
end
abbrev St:=L2.St
abbrev St2:=List (Option D)
abbrev VK2:=D->Mp->Prop
abbrev TE2:=St2->Mp->VK2->Prop
abbrev TT2:=St2->Mp->(Bool->Mp->Prop)->Prop
abbrev TA2:=St2->Mp->(List D->Mp->Prop)->Prop
abbrev TO2:=St2->Mp->(Option Int->Mp->Prop)->Prop
structure Ends2 where
 nx:St2->Mp->Prop
 rt:VK2
 bk:St2->Mp->Prop:=fun _ _=>False
 ct:St2->Mp->Prop:=fun _ _=>False
abbrev TS2:=Ends2->St2->Mp->Prop
abbrev R22:=D->D->Mp->VK2->Prop
abbrev Sp2:=List D->Mp->VK2->Prop
def OA (Z:Zt):Option V->Option D->Prop
 | _,none=>True
 | some v,some d=>At Z v d
 | none,some _=>False
abbrev StR (Z:Zt):St->St2->Prop:=Paired (OA Z)
theorem OA.mono {Z Z':Zt}(l:Le Z Z') {v:Option V}{d:Option D}(h:OA Z v d):OA Z' v d:=by
 cases d with
 | none=>cases v<;>exact True.intro
 | some d=>cases v with
  | none=>exact h
  | some v=>exact At.mono l h
theorem StR.mono {Z Z':Zt}(l:Le Z Z'):∀ {σ:St}{τ:St2},StR Z σ τ->StR Z' σ τ
 | _,_,.nil=>.nil
 | _,_,.cons r t=>.cons (OA.mono l r) (StR.mono l t)
theorem StR.set {Z:Zt}{x:V}{d:D}(r:At Z x d):∀ {σ:St}{τ:St2}(i:Nat),StR Z σ τ->StR Z (σ.set i (some x)) (τ.set i (some d))
 | _,_,_,.nil=>.nil
 | _,_,0,.cons _ t=>.cons r t
 | _,_,i+1,.cons q t=>.cons q (StR.set r i t)
theorem StR.get {Z:Zt}:∀ {σ:St}{τ:St2}{i:Nat}{d:D},StR Z σ τ->τ[i]? = some (some d)->∃ v,σ[i]? = some (some v)/\At Z v d
 | _,_,_,_,.nil,e=>by simp at e
 | v::_,_,0,_,.cons r _,e=>by
  simp at e
  subst e
  cases v with
  | none=>exact r.elim
  | some v=>exact ⟨v,rfl,r⟩
 | _,_,i+1,d,.cons _ t,e=>by
  obtain ⟨v,h1,h2⟩:=StR.get (i:=i) (d:=d) t (by simpa using e)
  exact ⟨v,by simpa using h1,h2⟩
def onI (x:D) (k:Int->Prop):Prop:=match x with
 | .int i=>k i
 | _=>False
def onB (x:D) (k:Bool->Prop):Prop:=match x with
 | .bl b=>k b
 | _=>False
def onS (x:D) (k:Str->Prop):Prop:=match x with
 | .str b=>k b
 | _=>False
def onR (x:D) (k:Addr->Prop):Prop:=match x with
 | .ref b=>k b
 | _=>False
def onO {α:Type}(o:Option α) (k:α->Prop):Prop:=match o with
 | some x=>k x
 | none=>False
theorem of_I {x:D}{k:Int->Prop}(h:onI x k):∃ i,x=.int i/\k i:=by
 cases x with
 | int i=>exact ⟨i,rfl,h⟩
 | _=>exact h.elim
theorem of_B {x:D}{k:Bool->Prop}(h:onB x k):∃ i,x=.bl i/\k i:=by
 cases x with
 | bl i=>exact ⟨i,rfl,h⟩
 | _=>exact h.elim
theorem of_S {x:D}{k:Str->Prop}(h:onS x k):∃ i,x=.str i/\k i:=by
 cases x with
 | str i=>exact ⟨i,rfl,h⟩
 | _=>exact h.elim
theorem of_R {x:D}{k:Addr->Prop}(h:onR x k):∃ i,x=.ref i/\k i:=by
 cases x with
 | ref i=>exact ⟨i,rfl,h⟩
 | _=>exact h.elim
theorem of_O {α:Type}{x:Option α}{k:α->Prop}(h:onO x k):∃ i,x=some i/\k i:=by
 cases x with
 | some i=>exact ⟨i,rfl,h⟩
 | none=>exact h.elim
section
variable (K:PySem.W.Frag)
def VKr (Z:Zt) (Q2:VK2) (Q:VK):Prop:=∀ Z' v d H' M',Le Z Z'->HR K H' M' Z'->At Z' v d->Q2 d M'->Q v H'
def lE (t:TE2):TE:=fun σ H Q=>∃ Z τ M Q2,StR Z σ τ/\HR K H M Z/\t τ M Q2/\VKr K Z Q2 Q
def lT (t:TT2):TT:=fun σ H Q=>∃ Z τ M Q2,StR Z σ τ/\HR K H M Z/\t τ M Q2/\∀ Z' b H' M',Le Z Z'->HR K H' M' Z'->Q2 b M'->Q b H'
def lA (t:TA2):TA:=fun σ H Q=>∃ Z τ M Q2,StR Z σ τ/\HR K H M Z/\t τ M Q2/\∀ Z' vs ds H' M',Le Z Z'->HR K H' M' Z'->Ats Z' vs ds->Q2 ds M'->Q vs H'
def lO (t:TO2):TO:=fun σ H Q=>∃ Z τ M Q2,StR Z σ τ/\HR K H M Z/\t τ M Q2/\∀ Z' b H' M',Le Z Z'->HR K H' M' Z'->Q2 b M'->Q b H'
def SKr (Z:Zt) (Q2:St2->Mp->Prop) (Q:St->Hp->Prop):Prop:=∀ Z' σ τ H' M',Le Z Z'->StR Z' σ τ->HR K H' M' Z'->Q2 τ M'->Q σ H'
structure ER (Z:Zt) (D2:Ends2) (D:Ends):Prop where
 nx:SKr K Z D2.nx D.nx
 rt:VKr K Z D2.rt D.rt
 bk:SKr K Z D2.bk D.bk
 ct:SKr K Z D2.ct D.ct
def lS (t:TS2):TS:=fun D σ H=>∃ Z τ M D2,StR Z σ τ/\HR K H M Z/\t D2 τ M/\ER K Z D2 D
def lR (r:R22):R2:=fun x y H Q=>∃ Z dx dy M Q2,HR K H M Z/\At Z x dx/\At Z y dy/\r dx dy M Q2/\VKr K Z Q2 Q
def lC (r:List D->Mp->VK2->Prop):List V->Hp->VK->Prop:=fun xs H Q=>∃ Z ds M Q2,HR K H M Z/\Ats Z xs ds/\r ds M Q2/\VKr K Z Q2 Q
def lU (r:D->Mp->VK2->Prop):V->Hp->VK->Prop:=fun x H Q=>∃ Z d M Q2,HR K H M Z/\At Z x d/\r d M Q2/\VKr K Z Q2 Q
def lSp (sp:Sp2):Sp:=fun vs H Q _=>∃ Z ds M Q2,HR K H M Z/\Ats Z vs ds/\sp ds M Q2/\VKr K Z Q2 Q
end
section
variable {K:PySem.W.Frag}{Z Z' Z1:Zt}
theorem VKr.le {Q2:VK2}{Q:VK}(h:VKr K Z Q2 Q) (l:Le Z Z'):VKr K Z' Q2 Q:=fun Z1 v d H M l1 hr a q=>h Z1 v d H M (l.trans l1) hr a q
theorem SKr.le {Q2:St2->Mp->Prop}{Q:St->Hp->Prop}(h:SKr K Z Q2 Q) (l:Le Z Z'):SKr K Z' Q2 Q:=fun Z1 v d H M l1 hr a q=>h Z1 v d H M (l.trans l1) hr a q
theorem ER.le {D2:Ends2}{D:Ends}(h:ER K Z D2 D) (l:Le Z Z'):ER K Z' D2 D:=⟨h.nx.le l,h.rt.le l,h.bk.le l,h.ct.le l⟩
theorem VKr.dn {Q2:VK2}{Q:VK}(h:VKr K Z Q2 Q):VKr K Z (fun d M=>∃ M0,Sub M0 M/\Q2 d M0) Q:=fun Z1 v d H M l1 hr a ⟨M0,s,q⟩=>h Z1 v d H M0 l1 (hr.sub s) a q
end
@[irreducible] def PE2 (X:Cx) (e:Expr) (t:TE2):Prop:=PE X e (lE X.K t)
unseal PE2
@[irreducible] def PT2 (X:Cx) (e:Expr) (t:TT2):Prop:=PT X e (lT X.K t)
unseal PT2
@[irreducible] def PW2 (X:Cx) (e:Expr) (t:TT2):Prop:=PW X e (lT X.K t)
unseal PW2
@[irreducible] def PA2 (X:Cx) (es:List Expr) (t:TA2):Prop:=PA X es (lA X.K t)
unseal PA2
@[irreducible] def PO2 (X:Cx) (e:Option Expr) (t:TO2):Prop:=PO X e (lO X.K t)
unseal PO2
@[irreducible] def PS2 (X:Cx) (st:Stmt) (t:TS2):Prop:=PS X st (lS X.K t)
unseal PS2
@[irreducible] def PSs2 (X:Cx) (st:List Stmt) (t:TS2):Prop:=PSs X st (lS X.K t)
unseal PSs2
@[irreducible] def OpR2 (X:Cx) (f:Value->Value->Sem Value) (r:R22):Prop:=OpR X f (lR X.K r)
unseal OpR2
@[irreducible] def UnR2 (X:Cx) (f:Value->Sem Value) (r:D->Mp->VK2->Prop):Prop:=UnR X f (lU X.K r)
unseal UnR2
@[irreducible] def CallR2 (X:Cx) (f:Value) (r:List D->Mp->VK2->Prop):Prop:=CallR X f (lC X.K r)
unseal CallR2
@[irreducible] def IxR2 (X:Cx) (r:R22):Prop:=IxR X (lR X.K r)
unseal IxR2
section
variable {X:Cx}
theorem PE.mono {e:Expr}{t t':TE}(h:PE X e t) (m:∀ σ H Q,t' σ H Q->t σ H Q):PE X e t':=fun pins s σ H Q I q=>h pins s σ H Q I (m σ H Q q)
theorem PT.mono {e:Expr}{t t':TT}(h:PT X e t) (m:∀ σ H Q,t' σ H Q->t σ H Q):PT X e t':=fun pins s σ H Q I q=>h pins s σ H Q I (m σ H Q q)
theorem PW.mono {e:Expr}{t t':TT}(h:PW X e t) (m:∀ σ H Q,t' σ H Q->t σ H Q):PW X e t':=fun wh pins s σ H Q I q=>h wh pins s σ H Q I (m σ H Q q)
theorem PA.mono {e:List Expr}{t t':TA}(h:PA X e t) (m:∀ σ H Q,t' σ H Q->t σ H Q):PA X e t':=fun pos pins s σ H Q I q=>h pos pins s σ H Q I (m σ H Q q)
theorem PO.mono {e:Option Expr}{t t':TO}(h:PO X e t) (m:∀ σ H Q,t' σ H Q->t σ H Q):PO X e t':=fun pins s σ H Q I q=>h pins s σ H Q I (m σ H Q q)
theorem PS.mono {e:Stmt}{t t':TS}(h:PS X e t) (m:∀ D σ H,t' D σ H->t D σ H):PS X e t':=fun pins s σ H D I q=>h pins s σ H D I (m D σ H q)
theorem PSs.mono {e:List Stmt}{t t':TS}(h:PSs X e t) (m:∀ D σ H,t' D σ H->t D σ H):PSs X e t':=fun pins s σ H D I q=>h pins s σ H D I (m D σ H q)
theorem OpR.mono {f:Value->Value->Sem Value}{r r':R2}(h:OpR X f r) (m:∀ x y H Q,r' x y H Q->r x y H Q):OpR X f r':=fun pins s σ H x y v u Q I rx ry q=>h pins s σ H x y v u Q I rx ry (m x y H Q q)
theorem UnR.mono {f:Value->Sem Value}{r r':V->Hp->VK->Prop}(h:UnR X f r) (m:∀ x H Q,r' x H Q->r x H Q):UnR X f r':=fun pins s σ H x v Q I rx q=>h pins s σ H x v Q I rx (m x H Q q)
theorem CallR.mono {f:Value}{r r':List V->Hp->VK->Prop}(h:CallR X f r) (m:∀ x H Q,r' x H Q->r x H Q):CallR X f r':=fun pins s σ H x v Q I rx q=>h pins s σ H x v Q I rx (m x H Q q)
theorem IxR.mono {r r':R2}(h:IxR X r) (m:∀ x y H Q,r' x y H Q->r x y H Q):IxR X r':=fun value slice pins s σ H x y v u Q I rx ry q hs=>h value slice pins s σ H x y v u Q I rx ry (m x y H Q q) hs
def uVar (i:Nat):TE2:=fun τ M Q=>onO (τ[i]?).join fun d=>Q d M
def uC (d:D):TE2:=fun _ M Q=>Q d M
theorem qv (i:Nat) {x:Str}{pos:Pos}(hN:X.N[i]? = some x:=by rfl) (hv:Vis X.env.scope x:=by first | exact Or.inl rfl | exact Or.inr (Or.inl rfl) | exact Or.inr (Or.inr rfl)) (hd:(x == ("__debug__":Str))=false:=by decide)
  (hcd:(x == ("__classdict__":Str))=false:=by decide):PE2 X (.Name x pos) (uVar i):=PE.mono (pv i hN hv hd hcd) fun σ H Q ⟨Z,τ,M,Q2,st,hr,h,k⟩=>by
 obtain ⟨d,e,q⟩:=of_O h
 obtain ⟨v,e1,a⟩:=st.get (Option.join_eq_some_iff.mp e)
 exact ⟨v,e1,k Z v d H M (Le.refl _) hr a q⟩
theorem qc {e:Expr}{v:V}{d:D}(h:PE X e (tC v)) (a:∀ Z,At Z v d):PE2 X e (uC d):=PE.mono h fun σ H Q ⟨Z,τ,M,Q2,st,hr,q,k⟩=>k Z v d H M (Le.refl _) hr (a Z) q
theorem qint {i j pos}:PE2 X (.Constant (.int i) j pos) (uC (.int i)):=qc pe_int fun _=>rfl
theorem qbl {b j pos}:PE2 X (.Constant (.bool b) j pos) (uC (.bl b)):=qc pe_bl fun _=>rfl
theorem qstr {x j pos}:PE2 X (.Constant (.str x) j pos) (uC (.str x)):=qc pe_str fun _=>rfl
theorem qty {x:Str}{pos:Pos}{T:String}(hm:X.mg x=none) (hv:bootBuiltins x=some (.type T)) (hg:Gl X x:=by rfl) (hn:x≠"__name__":=by decide) (hd:(x == ("__debug__":Str))=false:=by decide):PE2 X (.Name x pos) (uC (.ty T)):=qc (pty hm hv hg hn hd) fun _=>rfl
variable {a b c e:Expr}{ta tb tc te:TE2}{pos:Pos}
theorem lE.bind {K:PySem.W.Frag}{σ:St}{H:Hp}{Z:Zt}{τ:St2}{M:Mp}{R:VK2}{Q:VK}(st:StR Z σ τ) (hr:HR K H M Z) (h:ta τ M R)
  (k:∀ Z' v d H' M',Le Z Z'->HR K H' M' Z'->At Z' v d->R d M'->Q v H'):lE K ta σ H Q:=⟨Z,τ,M,R,st,hr,h,k⟩
def uOp (r:R22) (ta tb:TE2):TE2:=fun τ M Q=>ta τ M fun x M1=>tb τ M1 fun y M2=>r x y M2 Q
theorem lOp {K:PySem.W.Frag}{r:R22}:∀ σ H Q,lE K (uOp r ta tb) σ H Q->tOp (lR K r) (lE K ta) (lE K tb) σ H Q:=by
 rintro σ H Q ⟨Z,τ,M,Q2,st,hr,h,k⟩
 refine lE.bind st hr h fun Z1 x dx H1 M1 l1 h1 a1 q1=>lE.bind (st.mono l1) h1 q1 fun Z2 y dy H2 M2 l2 h2 a2 q2=>?_
 exact ⟨Z2,dx,dy,M2,Q2,h2,a1.mono l2,a2,q2,k.le (l1.trans l2)⟩
theorem qop {op:Operator}{r:R22}(ho:OpR2 X (binaryOp op) r) (ha:PE2 X a ta) (hb:PE2 X b tb):PE2 X (.BinOp a op b pos) (uOp r ta tb):=PE.mono (pe_op ho ha hb) lOp
theorem qix {r:R22}(hr:IxR2 X r) (ha:PE2 X a ta) (hb:PE2 X b tb) (hs:PlainIx b):PE2 X (.Subscript a b pos) (uOp r ta tb):=PE.mono (pe_ix hr ha hb hs) lOp
def uTest (t:TE2):TT2:=fun τ M Q=>t τ M fun x M1=>onB x fun c=>Q c M1
theorem lTest {K:PySem.W.Frag}{t1:TE}(m:∀ σ H Q,lE K te σ H Q->t1 σ H Q):∀ σ H Q,lT K (uTest te) σ H Q->t1 σ H fun x H1=>∃ k,x=.bl k/\Q k H1:=by
 rintro σ H Q ⟨Z,τ,M,Q2,st,hr,h,k⟩
 refine m _ _ _ (lE.bind st hr h fun Z1 x dx H1 M1 l1 h1 a1 q1=>?_)
 obtain ⟨c,rfl,q⟩:=of_B q1
 exact ⟨c,a1,k Z1 c H1 M1 l1 h1 q⟩
theorem qtcmp {op:CmpOp}{r:R22}(ho:OpR2 X (compareOp op) r) (ha:PE2 X a ta) (hb:PE2 X b tb) (hm:behindInMarks op b=false):PT2 X (.Compare a [op] [b] pos) (uTest (uOp r ta tb)):=PT.mono (pt_cmpR ho ha hb hm) (lTest lOp)
theorem qtval {t:TE2}(h:PE2 X e t) (he:∀ whole,isTrue e X.env whole=(do let v <- whole;standAt e.pos;holding [v] (truthy v)):=by intro _;rfl):PT2 X e (uTest t):=PT.mono (pt_val h he) (lTest fun _ _ _ h=>h)
variable {tA tB tC:TT2}{rest:List Expr}
def uAnd (t u:TT2):TT2:=fun τ M Q=>t τ M fun c M1=>if c=true then u τ M1 Q else Q false M1
def uOr (t u:TT2):TT2:=fun τ M Q=>t τ M fun c M1=>if c=true then Q true M1 else u τ M1 Q
def uNot (t:TT2):TT2:=fun τ M Q=>t τ M fun c M1=>Q (!c) M1
theorem lT.bind {K:PySem.W.Frag}{σ:St}{H:Hp}{Z:Zt}{τ:St2}{M:Mp}{R:Bool->Mp->Prop}{Q:Bool->Hp->Prop}(st:StR Z σ τ) (hr:HR K H M Z) (h:tA τ M R)
  (k:∀ Z' b H' M',Le Z Z'->HR K H' M' Z'->R b M'->Q b H'):lT K tA σ H Q:=⟨Z,τ,M,R,st,hr,h,k⟩
theorem qw_and1 (ha:PT2 X a tA):PW2 X (.BoolOp .And [a] pos) tA:=pw_and1 ha
theorem qw_or1 (ha:PT2 X a tA):PW2 X (.BoolOp .Or [a] pos) tA:=pw_or1 ha
theorem qw_and (ha:PT2 X a tA) (hb:PW2 X (.BoolOp .And (b::rest) pos) tB):PW2 X (.BoolOp .And (a::b::rest) pos) (uAnd tA tB):=PW.mono (pw_and ha hb) (by
 rintro σ H Q ⟨Z,τ,M,Q2,st,hr,h,k⟩
 refine lT.bind st hr h fun Z1 c H1 M1 l1 h1 q1=>?_
 cases c with
 | true=>rw [if_pos rfl] at q1 ⊢;exact lT.bind (st.mono l1) h1 q1 fun Z2 c H2 M2 l2 h2 q2=>k Z2 c H2 M2 (l1.trans l2) h2 q2
 | false=>rw [if_neg Bool.false_ne_true] at q1 ⊢;exact k Z1 false H1 M1 l1 h1 q1)
theorem qw_or (ha:PT2 X a tA) (hb:PW2 X (.BoolOp .Or (b::rest) pos) tB):PW2 X (.BoolOp .Or (a::b::rest) pos) (uOr tA tB):=PW.mono (pw_or ha hb) (by
 rintro σ H Q ⟨Z,τ,M,Q2,st,hr,h,k⟩
 refine lT.bind st hr h fun Z1 c H1 M1 l1 h1 q1=>?_
 cases c with
 | false=>rw [if_neg Bool.false_ne_true] at q1 ⊢;exact lT.bind (st.mono l1) h1 q1 fun Z2 c H2 M2 l2 h2 q2=>k Z2 c H2 M2 (l1.trans l2) h2 q2
 | true=>rw [if_pos rfl] at q1 ⊢;exact k Z1 true H1 M1 l1 h1 q1)
theorem PW2.pt {e:Expr}{t:TT2}(h:PW2 X e t):PT2 X e t:=PW.pt (show PW X e (lT X.K t) from h)
theorem qtnot (ha:PT2 X a tA):PT2 X (.UnaryOp .Not a pos) (uNot tA):=PT.mono (pt_not ha) (by
 rintro σ H Q ⟨Z,τ,M,Q2,st,hr,h,k⟩
 exact lT.bind st hr h fun Z1 c H1 M1 l1 h1 q1=>k Z1 _ H1 M1 l1 h1 q1)
variable {es:List Expr}{t:TA2}
def uNil:TA2:=fun _ M Q=>Q [] M
def uCons (ta:TE2) (tr:TA2):TA2:=fun τ M Q=>ta τ M fun x M1=>tr τ M1 fun xs M2=>Q (x::xs) M2
theorem qN:PA2 X [] uNil:=PA.mono pa_nil fun σ H Q ⟨Z,τ,M,Q2,st,hr,h,k⟩=>k Z [] [] H M (Le.refl _) hr .nil h
theorem qA (ha:PE2 X e te) (hr:PA2 X es t) (hs:starEach (e::es) X.env=(false,eval e X.env)::starEach es X.env:=by rfl):PA2 X (e::es) (uCons te t):=PA.mono (pa_cons ha hr hs) (by
 rintro σ H Q ⟨Z,τ,M,Q2,st,hr,h,k⟩
 refine lE.bind st hr h fun Z1 x dx H1 M1 l1 h1 a1 q1=>⟨Z1,τ,M1,_,st.mono l1,h1,q1,fun Z2 vs ds H2 M2 l2 h2 a2 q2=>?_⟩
 exact k Z2 (x::vs) (dx::ds) H2 M2 (l1.trans l2) h2 (.cons (a1.mono l2) a2) q2)
def uTup (t:TA2):TE2:=fun τ M Q=>t τ M fun xs M1=>xs.length<=sizeLine/\Q (.tup xs) M1
def uLstF (t:TA2):TE2:=fun τ M Q=>t τ M fun xs M1=>xs.length<=sizeLine/\Q (.lst xs) M1
def uLst (t:TA2):TE2:=fun τ M Q=>t τ M fun xs M1=>xs.length<=sizeLine/\∀ p,M1 p=none->Q (.ref p) (put M1 p (.lst xs))
theorem qtup {x1} (h:PA2 X es t):PE2 X (.Tuple es x1 pos) (uTup t):=PE.mono (pe_tup h) (by
 rintro σ H Q ⟨Z,τ,M,Q2,st,hr,h,k⟩
 refine ⟨Z,τ,M,_,st,hr,h,fun Z1 vs ds H1 M1 l1 h1 a1 q1=>⟨by rw [a1.length];exact q1.1,fun p hp=>?_⟩⟩
 exact k _ (.ref p) (.tup ds) _ M1 (l1.trans Le.ext) (h1.newT hp a1) at_extT q1.2)
theorem qlstF (h:PA2 X es t):PE2 X (.List es pos) (uLstF t):=PE.mono (pe_lst h) (by
 rintro σ H Q ⟨Z,τ,M,Q2,st,hr,h,k⟩
 refine ⟨Z,τ,M,_,st,hr,h,fun Z1 vs ds H1 M1 l1 h1 a1 q1=>⟨by rw [a1.length];exact q1.1,fun p hp=>?_⟩⟩
 exact k _ (.ref p) (.lst ds) _ M1 (l1.trans Le.ext) (h1.newF hp a1) at_extL q1.2)
theorem qlst (h:PA2 X es t):PE2 X (.List es pos) (uLst t):=PE.mono (pe_lst h) (by
 rintro σ H Q ⟨Z,τ,M,Q2,st,hr,h,k⟩
 refine ⟨Z,τ,M,_,st,hr,h,fun Z1 vs ds H1 M1 l1 h1 a1 q1=>⟨by rw [a1.length];exact q1.1,fun p hp=>?_⟩⟩
 exact k Z1 (.ref p) (.ref p) _ _ l1 (h1.newL hp a1) rfl (q1.2 p (h1.fresh hp)))
def uCB (r:List D->Mp->VK2->Prop) (t:TA2):TE2:=fun τ M Q=>t τ M fun xs M1=>r xs M1 Q
theorem lCB {K:PySem.W.Frag}{r:List D->Mp->VK2->Prop}:∀ σ H Q,lE K (uCB r t) σ H Q->tCB (lC K r) (lA K t) σ H Q:=by
 rintro σ H Q ⟨Z,τ,M,Q2,st,hr,h,k⟩
 exact ⟨Z,τ,M,_,st,hr,h,fun Z1 vs ds H1 M1 l1 h1 a1 q1=>⟨Z1,ds,M1,Q2,h1,a1,q1,k.le l1⟩⟩
theorem qcallB {x:Str}{p:Pos}{id:String}{r:List D->Mp->VK2->Prop}(hc:CallR2 X (.builtin id) r) (hm:X.mg x=none) (hv:bootBuiltins x=some (.builtin id)) (ha:PA2 X (e::es) t) (hg:Gl X x:=by rfl) (hn:x≠"__name__":=by decide) (hdb:(x == ("__debug__":Str))=false:=by decide)
  (he:starEach (e::es) X.env=(false,eval e X.env)::starEach es X.env:=by rfl) (hpl:(backTo pos (starEach es X.env)).any (·.1)=false:=by rfl):PE2 X (.Call (.Name x p) (e::es) [] pos) (uCB r t):=PE.mono (pe_callB hc hg hm hv ha hn hdb he hpl) lCB
theorem qcallTy {x:Str}{p:Pos}{T:String}{r:List D->Mp->VK2->Prop}(hc:CallR2 X (.type T) r) (hm:X.mg x=none) (hv:bootBuiltins x=some (.type T)) (ha:PA2 X (e::es) t) (hg:Gl X x:=by rfl) (hn:x≠"__name__":=by decide) (hdb:(x == ("__debug__":Str))=false:=by decide)
  (he:starEach (e::es) X.env=(false,eval e X.env)::starEach es X.env:=by rfl) (hpl:(backTo pos (starEach es X.env)).any (·.1)=false:=by rfl):PE2 X (.Call (.Name x p) (e::es) [] pos) (uCB r t):=PE.mono (pe_callTy hc hg hm hv ha hn hdb he hpl) lCB
def uCall (sp:Sp2) (t:TA2):TE2:=fun τ M Q=>t τ M fun xs M1=>sp xs M1 Q
theorem qcall {x:Str}{p:Pos}{k:Nat}{st:Stmt}{ps:List Str}{f:Addr}{fd:FuncData}{sp:Sp2}(d:Df X.K X.mg x st ps f fd) (G:FnOk X.prog X.w X.K X.mg X.base CX0 k f fd ps (lSp X.K sp)) (hr:Room k X.A) (ha:PA2 X (e::es) t)
  (hg:Gl X x:=by rfl) (hdb:(x == ("__debug__":Str))=false:=by decide) (he:starEach (e::es) X.env=(false,eval e X.env)::starEach es X.env:=by rfl) (hpl:(backTo pos (starEach es X.env)).any (·.1)=false:=by rfl) :
  PE2 X (.Call (.Name x p) (e::es) [] pos) (uCall sp t):=PE.mono (pcall d G hr ha hg hdb he hpl) (by
 rintro σ H Q ⟨Z,τ,M,Q2,st,hr,h,k⟩
 refine ⟨Z,τ,M,_,st,hr,h,fun Z1 vs ds H1 M1 l1 h1 a1 q1=>?_⟩
 show lSp X.K sp (vs++[]) H1 Q E0
 rw [List.append_nil]
 exact ⟨Z1,ds,M1,Q2,h1,a1,q1,k.le l1⟩)
def uNoPart:TO2:=fun _ M Q=>Q none M
def uPart (t:TE2):TO2:=fun τ M Q=>t τ M fun x M1=>onI x fun i=>Q (some i) M1
theorem qo_none:PO2 X none uNoPart:=PO.mono po_none fun σ H Q ⟨Z,τ,M,Q2,st,hr,h,k⟩=>k Z none H M (Le.refl _) hr h
theorem qo_some (h:PE2 X e te):PO2 X (some e) (uPart te):=PO.mono (po_some h) (by
 rintro σ H Q ⟨Z,τ,M,Q2,st,hr,h,k⟩
 refine lE.bind st hr h fun Z1 x dx H1 M1 l1 h1 a1 q1=>?_
 obtain ⟨i,rfl,q⟩:=of_I q1
 exact ⟨i,a1,k Z1 (some i) H1 M1 l1 h1 q⟩)
def uSl (r:D->Option Int->Option Int->Mp->VK2->Prop) (te:TE2) (tl th:TO2):TE2:=fun τ M Q=>te τ M fun x M1=>tl τ M1 fun l M2=>th τ M2 fun u M3=>r x l u M3 Q
def lSl (K:PySem.W.Frag) (r:D->Option Int->Option Int->Mp->VK2->Prop):V->Option Int->Option Int->Hp->VK->Prop:=fun x lo hi H Q=>∃ Z d M Q2,HR K H M Z/\At Z x d/\r d lo hi M Q2/\VKr K Z Q2 Q
@[irreducible] def SlR2 (X:Cx) (r:D->Option Int->Option Int->Mp->VK2->Prop):Prop:=SlR X (lSl X.K r)
unseal SlR2
theorem SlR.mono {r r':V->Option Int->Option Int->Hp->VK->Prop}(h:SlR X r) (m:∀ x l u H Q,r' x l u H Q->r x l u H Q):SlR X r':=fun pins s σ H x v vl vu lo hi sl Q I rx hs pl pu q=>h pins s σ H x v vl vu lo hi sl Q I rx hs pl pu (m x lo hi H Q q)
theorem qslice {lo hi:Option Expr}{tl th:TO2}{p2:Pos}{r:D->Option Int->Option Int->Mp->VK2->Prop}(hr:SlR2 X r) (he:PE2 X e te) (hl:PO2 X lo tl) (hu:PO2 X hi th):PE2 X (.Subscript e (.Slice lo hi none p2) pos) (uSl r te tl th):=PE.mono (pe_slice hr he hl hu) (by
 rintro σ H Q ⟨Z,τ,M,Q2,st,hr,h,k⟩
 refine lE.bind st hr h fun Z1 x dx H1 M1 l1 h1 a1 q1=>⟨Z1,τ,M1,_,st.mono l1,h1,q1,fun Z2 lo H2 M2 l2 h2 q2=>⟨Z2,τ,M2,_,st.mono (l1.trans l2),h2,q2,fun Z3 hi H3 M3 l3 h3 q3=>?_⟩⟩
 exact ⟨Z3,dx,M3,Q2,h3,a1.mono (l2.trans l3),q3,k.le (l1.trans (l2.trans l3))⟩)
end
end L3
namespace L3
open PySem PySem.Spec PyProof.Rows L2
unseal PE2 PT2 PW2 PA2 PO2 PS2 PSs2 OpR2 UnR2 CallR2 IxR2 SlR2
section
variable {K:PySem.W.Frag}{Z:Zt}{H:Hp}{M:Mp}{Q2:VK2}{Q:VK}
theorem VKr.v (k:VKr K Z Q2 Q) (hr:HR K H M Z) {v:V}{d:D}(a:At Z v d) (q:Q2 d M):Q v H:=k Z v d H M (Le.refl _) hr a q
theorem VKr.b (k:VKr K Z Q2 Q) (hr:HR K H M Z) {b:Bool}(q:Q2 (.bl b) M):Q (.bl b) H:=k Z (.bl b) (.bl b) H M (Le.refl _) hr rfl q
theorem VKr.i (k:VKr K Z Q2 Q) (hr:HR K H M Z) {b:Int}(q:Q2 (.int b) M):Q (.int b) H:=k Z (.int b) (.int b) H M (Le.refl _) hr rfl q
theorem VKr.s (k:VKr K Z Q2 Q) (hr:HR K H M Z) {b:Str}(q:Q2 (.str b) M):Q (.str b) H:=k Z (.str b) (.str b) H M (Le.refl _) hr rfl q
theorem VKr.n (k:VKr K Z Q2 Q) (hr:HR K H M Z) (q:Q2 .non M):Q .non H:=k Z .non .non H M (Le.refl _) hr rfl q
theorem VKr.t (k:VKr K Z Q2 Q) (hr:HR K H M Z) {vs:List V}{ds:List D}{p:Addr}(hp:H p=none) (a:Ats Z vs ds) (q:Q2 (.tup ds) M):Q (.ref p) (upd H p (.tup vs)):=k _ (.ref p) (.tup ds) _ M Le.ext (hr.newT hp a) at_extT q
theorem VKr.f (k:VKr K Z Q2 Q) (hr:HR K H M Z) {vs:List V}{ds:List D}{p:Addr}(hp:H p=none) (a:Ats Z vs ds) (q:Q2 (.lst ds) M):Q (.ref p) (upd H p (.lst vs)):=k _ (.ref p) (.lst ds) _ M Le.ext (hr.newF hp a) at_extL q
theorem VKr.l (k:VKr K Z Q2 Q) (hr:HR K H M Z) {vs:List V}{ds:List D}{p:Addr}(hp:H p=none) (a:Ats Z vs ds) (q:∀ p,M p=none->Q2 (.ref p) (put M p (.lst ds))):Q (.ref p) (upd H p (.lst vs)):=k Z (.ref p) (.ref p) _ _ (Le.refl _) (hr.newL hp a) rfl (q p (hr.fresh hp))
theorem VKr.fd (k:VKr K Z Q2 Q) (hr:HR K H M Z) {vs:List (Key×V)}{ds:List (Key×D)}{p:Addr}(hp:H p=none) (a:KAts Z vs ds) (q:Q2 (.dic ds) M):Q (.ref p) (upd H p (.dK vs)):=k _ (.ref p) (.dic ds) _ M Le.ext (hr.newFD hp a) at_extD q
theorem VKr.d (k:VKr K Z Q2 Q) (hr:HR K H M Z) {vs:List (Key×V)}{ds:List (Key×D)}{p:Addr}(hp:H p=none) (a:KAts Z vs ds) (q:∀ p,M p=none->Q2 (.ref p) (put M p (.dic ds))):Q (.ref p) (upd H p (.dK vs)):=k Z (.ref p) (.ref p) _ _ (Le.refl _) (hr.newD hp a) rfl (q p (hr.fresh hp))
end
section
variable {X:Cx}
def sI (C:Int->Int->Prop) (g:Int->Int->D):R22:=fun x y M Q=>onI x fun i=>onI y fun j=>C i j/\Q (g i j) M
def sI0 (g:Int->Int->D):R22:=fun x y M Q=>onI x fun i=>onI y fun j=>Q (g i j) M
theorem o2 {f:Value->Value->Sem Value}{C:Int->Int->Prop}{g:Int->Int->V}{g2:Int->Int->D}(h:OpR X f (rI C g)) (hg:∀ i j Z,At Z (g i j) (g2 i j)):OpR2 X f (sI C g2):=OpR.mono h (by
 rintro x y H Q ⟨Z,dx,dy,M,Q2,hr,ax,ay,h,k⟩
 obtain ⟨i,rfl,h1⟩:=of_I h
 obtain ⟨j,rfl,c,q⟩:=of_I h1
 exact ⟨i,j,ax,ay,c,k Z _ _ H M (Le.refl _) hr (hg i j Z) q⟩)
theorem o20 {f:Value->Value->Sem Value}{g:Int->Int->V}{g2:Int->Int->D}(h:OpR X f (rI0 g)) (hg:∀ i j Z,At Z (g i j) (g2 i j)):OpR2 X f (sI0 g2):=OpR.mono h (by
 rintro x y H Q ⟨Z,dx,dy,M,Q2,hr,ax,ay,h,k⟩
 obtain ⟨i,rfl,h1⟩:=of_I h
 obtain ⟨j,rfl,q⟩:=of_I h1
 exact ⟨i,j,ax,ay,k Z _ _ H M (Le.refl _) hr (hg i j Z) q⟩)
theorem o_add:OpR2 X (binaryOp .Add) (sI0 fun i j=>.int (i+j)):=o20 op_add fun _ _ _=>rfl
theorem o_mul:OpR2 X (binaryOp .Mult) (sI CMul fun i j=>.int (i*j)):=o2 op_mul fun _ _ _=>rfl
theorem o_fdiv:OpR2 X (binaryOp .FloorDiv) (sI CDiv fun i j=>.int (i / j)):=o2 op_fdiv fun _ _ _=>rfl
theorem o_mod:OpR2 X (binaryOp .Mod) (sI (fun _ j=>0<j) fun i j=>.int (i%j)):=o2 op_mod fun _ _ _=>rfl
theorem o_lt:OpR2 X (compareOp .Lt) (sI0 fun i j=>.bl (decide (i<j))):=o20 op_lt fun _ _ _=>rfl
theorem o_le:OpR2 X (compareOp .LtE) (sI0 fun i j=>.bl (decide (i<=j))):=o20 op_le fun _ _ _=>rfl
def sU (g:Int->D):D->Mp->VK2->Prop:=fun x M Q=>onI x fun i=>Q (g i) M
theorem u2 {f:Value->Sem Value}{g:Int->V}{g2:Int->D}(h:UnR X f (rU g)) (hg:∀ i Z,At Z (g i) (g2 i)):UnR2 X f (sU g2):=UnR.mono h (by
 rintro x H Q ⟨Z,dx,M,Q2,hr,ax,h,k⟩
 obtain ⟨i,rfl,q⟩:=of_I h
 exact ⟨i,ax,k Z _ _ H M (Le.refl _) hr (hg i Z) q⟩)
def flatD:D->Bool
 | .non=>true
 | .bl _=>true
 | .int _=>true
 | .str _=>true
 | _=>false
def eqF:D->D->Bool
 | .non,.non=>true
 | .bl a,.bl b=>a == b
 | .bl a,.int b=>(if a then 1 else 0) == b
 | .int a,.bl b=>a == (if b then 1 else 0)
 | .int a,.int b=>decide (a=b)
 | .str a,.str b=>decide (a=b)
 | _,_=>false
def flat2 (x y:D):Bool:=match x,y with
 | .non,.non=>true | .non,.int _=>true | .int _,.non=>true | .non,.bl _=>true | .bl _,.non=>true | .non,.str _=>true | .str _,.non=>true
 | .int _,.int _=>true | .bl _,.bl _=>true | .str _,.str _=>true
 | .int _,.str _=>true | .str _,.int _=>true | .bl _,.str _=>true | .str _,.bl _=>true
 | _,_=>false
def sEq (neg:Bool):R22:=fun x y M Q=>flat2 x y=true/\Q (.bl (if neg then !eqF x y else eqF x y)) M
theorem flat2_scal {Z:Zt}{x y:V}{dx dy:D}(ax:At Z x dx) (ay:At Z y dy) (h:flat2 dx dy=true):scal x y=true/\decide (x=y)=eqF dx dy:=by
 cases dx<;>cases dy<;>first
  | exact absurd h Bool.false_ne_true
  | (subst ax;subst ay;refine ⟨rfl,?_⟩;simp [eqF,Bool.beq_eq_decide_eq])
theorem o_eq:OpR2 X (compareOp .Eq) (sEq false):=OpR.mono op_eq (by
 rintro x y H Q ⟨Z,dx,dy,M,Q2,hr,ax,ay,⟨f,q⟩,k⟩
 obtain ⟨h1,h2⟩:=flat2_scal ax ay f
 exact ⟨h1,by rw [h2];exact k.b hr q⟩)
theorem o_ne:OpR2 X (compareOp .NotEq) (sEq true):=OpR.mono op_ne (by
 rintro x y H Q ⟨Z,dx,dy,M,Q2,hr,ax,ay,⟨f,q⟩,k⟩
 obtain ⟨h1,h2⟩:=flat2_scal ax ay f
 exact ⟨h1,by rw [h2];exact k.b hr q⟩)
def tyD (M:Mp):D->Option String
 | .non=>some "NoneType"
 | .bl _=>some "bool"
 | .int _=>some "int"
 | .str _=>some "str"
 | .tup _=>some "tuple"
 | .lst _=>some "list"
 | .dic _=>some "dict"
 | .dct _=>some "dict"
 | .ref p=>match M p with
  | some (.lst _)=>some "list"
  | some (.dic _)=>some "dict"
  | some (.dct _)=>some "dict"
  | _=>none
 | .ty _=>none
def isiD (t c:String):Option Bool:=if t=c then some true else if t = "bool"/\c = "int" then some true else if (t = "int"\/t = "str"\/t = "list"\/t = "tuple"\/t = "dict"\/t = "NoneType")/\(c = "bool"\/c = "int"\/c = "str"\/c = "list"\/c = "tuple"\/c = "dict") then some false else none
theorem isiD_ok (K:PySem.W.Frag) {t c:String}{b:Bool}(h:isiD t c=some b):PySem.W.kitOne K (.type t) (.type c)=some b:=by
 unfold isiD at h
 split at h
 ·next e=>subst e;cases h;exact isi_same K t
 ·split at h
  ·next e=>obtain ⟨rfl,rfl⟩:=e;cases h;kernel_rfl
  ·split at h
   ·next n1 n2 e =>
    cases h
    obtain ⟨e1,e2⟩:=e
    rcases e1 with rfl|rfl|rfl|rfl|rfl|rfl<;>rcases e2 with rfl|rfl|rfl|rfl|rfl|rfl<;>first
     | exact absurd rfl n1
     | kernel_rfl
   ·cases h
def sIsi (c:String):List D->Mp->VK2->Prop:=fun xs M Q=>match xs with
 | [x,.ty c']=>c'=c/\onO (tyD M x) fun t=>onO (isiD t c) fun b=>Q (.bl b) M
 | _=>False
theorem isi_go {pins:List (Addr×Obj)}{σ:St}{H:Hp}{s:Shared}{A:Around}{E:Value->Shared->Prop}{Q:Value->Shared->Prop}{c:Value}{b:Bool}{M:Mp}{Z:Zt}{x:V}{d:D}{u:Value}{t:String}(I:Inv X pins σ H s) (hr:HR X.K H M Z) (a:At Z x d) (rx:RelV x u) (ty:tyD M d=some t)
  (e:PySem.W.kitOne X.K (.type t) c=some b) (h:∀ tk,Q (.bool b) { s with toks:=tk }):wpAny (model X.prog X.w) A (call (.builtin "isinstance") [u,c]) Q E s:=by
 have dicC:∀ {p:Addr} {ks:List (Key×V)},Rd H p (.dK ks)->PySem.W.kitOne X.K (.type "dict") c=some b->wpAny (model X.prog X.w) A (call (.builtin "isinstance") [.ref p,c]) Q E s:=fun hp e=>by
  obtain ⟨_,_,vs,_,o,es,ep,h1,h2,_⟩:=dk_rd I.hok hp
  exact PySem.W.kia_one PySem.W.kitx_dict I.kIn ⟨o,h1,h2.1⟩ e (fun z=>nomatch z) h
 have dctC:∀ {p:Addr} {ks:List (List Key×V)},Rd H p (.dT ks)->PySem.W.kitOne X.K (.type "dict") c=some b->wpAny (model X.prog X.w) A (call (.builtin "isinstance") [.ref p,c]) Q E s:=fun hp e=>by
  obtain ⟨_,_,vs,_,o,es,ep,h1,h2,_⟩:=dt_rd I.hok hp
  exact PySem.W.kia_one PySem.W.kitx_dict I.kIn ⟨o,h1,h2.1⟩ e (fun z=>nomatch z) h
 have lisC:∀ {p:Addr} {vs:List V},SqL X.K H p vs->PySem.W.kitOne X.K (.type "list") c=some b->wpAny (model X.prog X.w) A (call (.builtin "isinstance") [.ref p,c]) Q E s:=fun hs e=>by
  obtain ⟨its,_,p,_⟩:=I.list hs
  obtain ⟨o,h1,h2,_⟩:=p.isList
  exact PySem.W.kia_one PySem.W.kitx_list I.kIn ⟨o,h1,h2⟩ e (fun z=>nomatch z) h
 cases d with
 | non=>cases ty;exact isinst_ok I rx (by cases (show x=V.non from a);exact TyOf.non) e h
 | bl y=>cases ty;exact isinst_ok I rx (by cases (show x=V.bl y from a);exact TyOf.bl _) e h
 | int y=>cases ty;exact isinst_ok I rx (by cases (show x=V.int y from a);exact TyOf.int _) e h
 | str y=>cases ty;exact isinst_ok I rx (by cases (show x=V.str y from a);exact TyOf.str _) e h
 | tup ds =>
  cases ty
  obtain ⟨p,vs,rfl,hs,_⟩:=hr.rdT a
  cases (show u=Value.ref p from rx)
  obtain ⟨its,_,⟨o,h1,h2,_⟩,_⟩:=I.tuple hs
  exact PySem.W.kia_one PySem.W.kitx_tuple I.kIn ⟨o,h1,h2⟩ e (fun z=>nomatch z) h
 | lst ds =>
  cases ty
  obtain ⟨p,vs,rfl,hs,_⟩:=hr.rdF a
  cases (show u=Value.ref p from rx)
  exact lisC hs e
 | dic ds =>
  cases ty
  obtain ⟨p,rfl,z⟩:=a
  cases (show u=Value.ref p from rx)
  rcases hr.z p _ z with ⟨vs,r,_⟩|k
  ·exact dicC r e
  ·exact k.elim
 | dct ds =>
  cases ty
  obtain ⟨p,rfl,z⟩:=a
  cases (show u=Value.ref p from rx)
  rcases hr.z p _ z with ⟨vs,r,_⟩|k
  ·exact dctC r e
  ·exact k.elim
 | ref p =>
  cases (show x=.ref p from a)
  cases (show u=Value.ref p from rx)
  unfold tyD at ty
  simp only at ty
  split at ty
  ·next q =>
   cases ty
   obtain ⟨vs,r,_⟩:=hr.rdM q
   exact lisC (SqL.of r) e
  ·next q =>
   cases ty
   obtain ⟨vs,r,_⟩:=hr.rdMD q
   exact dicC (.inl r) e
  ·next q =>
   cases ty
   obtain ⟨vs,r,_⟩:=hr.rdMT q
   exact dctC (.inl r) e
  ·cases ty
 | ty n=>cases ty
theorem c_isi (c:String):CallR2 X (.builtin "isinstance") (sIsi c):=by
 intro pins s σ H xs us Q I r h
 obtain ⟨Z,ds,M,Q2,hr,a,h,k⟩:=h
 match ds,a,h with
 | [x,.ty c'],a,h =>
  obtain ⟨rfl,h⟩:=h
  obtain ⟨t,ht,h⟩:=of_O h
  obtain ⟨b,hb,q⟩:=of_O h
  cases a with
  | cons a1 a2 =>
   cases a2 with
   | cons a2 a3 =>
    cases a3
    obtain ⟨u,w',rfl,r1,r2⟩:=vals2 r
    cases (show _=V.ty c' from a2)
    cases (show w'=Value.type c' from r2)
    exact isi_go I hr a1 r1 ht (isiD_ok _ hb) fun tk=>⟨.bl b,H,I.tok tk,rfl,k.b hr q⟩
inductive Cs:List Expr->List D->Prop where
 | nil:Cs [] []
 | int {i j pos es ds} (h:Cs es ds):Cs (.Constant (.int i) j pos::es) (.int i::ds)
 | str {i j pos es ds} (h:Cs es ds):Cs (.Constant (.str i) j pos::es) (.str i::ds)
def uCs (ds:List D):TA2:=fun _ M Q=>Q ds M
theorem qa_cs {es:List Expr}{ds:List D}(h:Cs es ds):PA2 X es (uCs ds):=by
 induction h with
 | nil=>exact PA.mono (qN (X:=X)) fun σ H Q ⟨Z,τ,M,Q2,st,hr,h,k⟩=>⟨Z,τ,M,Q2,st,hr,h,k⟩
 | int h ih=>exact PA.mono (qA (qint (X:=X)) ih rfl) fun σ H Q ⟨Z,τ,M,Q2,st,hr,h,k⟩=>⟨Z,τ,M,Q2,st,hr,h,k⟩
 | str h ih=>exact PA.mono (qA (qstr (X:=X)) ih rfl) fun σ H Q ⟨Z,τ,M,Q2,st,hr,h,k⟩=>⟨Z,τ,M,Q2,st,hr,h,k⟩
theorem ats_at {Z:Zt}{vs:List V}{ds:List D}(a:Ats Z vs ds) {i:Int}{d:D}(h:atI ds i=some d):∃ v,atI vs i=some v/\At Z v d:=by
 unfold atI at h ⊢
 rw [a.length]
 cases e:ixN ds.length i with
 | none=>rw [e] at h;cases h
 | some j =>
  rw [e] at h
  exact a.get h
def sIxT:R22:=fun x y M Q=>match x with
 | .tup xs=>onI y fun i=>onO (atI xs i) fun v=>Q v M
 | _=>False
def sIxL:R22:=fun x y M Q=>onO (lsOf M x) fun xs=>onI y fun i=>onO (atI xs i) fun v=>Q v M
theorem i_tup:IxR2 X sIxT:=IxR.mono ix_tup (by
 rintro x y H Q ⟨Z,dx,dy,M,Q2,hr,ax,ay,h,k⟩
 cases dx with
 | tup xs =>
  obtain ⟨i,rfl,h1⟩:=of_I h
  obtain ⟨v,e,q⟩:=of_O h1
  obtain ⟨p,vs,rfl,hs,a⟩:=hr.rdT ax
  obtain ⟨v',e',a'⟩:=ats_at a e
  exact ⟨p,vs,i,v',rfl,ay,hs,e',k.v hr a' q⟩
 | _=>exact h.elim)
theorem i_list:IxR2 X sIxL:=IxR.mono ix_list (by
 rintro x y H Q ⟨Z,dx,dy,M,Q2,hr,ax,ay,h,k⟩
 obtain ⟨xs,e0,h0⟩:=of_O h
 obtain ⟨i,rfl,h1⟩:=of_I h0
 obtain ⟨v,e,q⟩:=of_O h1
 obtain ⟨p,vs,rfl,hs,a⟩:=hr.rdL e0 ax
 obtain ⟨v',e',a'⟩:=ats_at a e
 exact ⟨p,vs,i,v',rfl,ay,hs,e',k.v hr a' q⟩)
def on1 (xs:List D) (k:D->Prop):Prop:=match xs with
 | [x]=>k x
 | _=>False
def on2 (xs:List D) (k:D->D->Prop):Prop:=match xs with
 | [x,y]=>k x y
 | _=>False
theorem of_1 {xs:List D}{k:D->Prop}(h:on1 xs k):∃ x,xs=[x]/\k x:=by
 match xs,h with
 | [x],h=>exact ⟨x,rfl,h⟩
theorem of_2 {xs:List D}{k:D->D->Prop}(h:on2 xs k):∃ x y,xs=[x,y]/\k x y:=by
 match xs,h with
 | [x,y],h=>exact ⟨x,y,rfl,h⟩
theorem ats1 {Z:Zt}{vs:List V}{d:D}(a:Ats Z vs [d]):∃ v,vs=[v]/\At Z v d:=by
 cases a with
 | cons a1 a2=>cases a2;exact ⟨_,rfl,a1⟩
theorem ats2 {Z:Zt}{vs:List V}{d e:D}(a:Ats Z vs [d,e]):∃ v w,vs=[v,w]/\At Z v d/\At Z w e:=by
 cases a with
 | cons a1 a2 =>
  obtain ⟨w,rfl,a3⟩:=ats1 a2
  exact ⟨_,w,rfl,a1,a3⟩
theorem c_len:CallR2 X (.builtin "len") (fun xs M Q=>on1 xs fun x=>onO (sqOf M x) fun ys=>Q (.int ys.length) M):=CallR.mono call_len_seq (by
 rintro xs H Q ⟨Z,ds,M,Q2,hr,a,h,k⟩
 obtain ⟨x,rfl,h1⟩:=of_1 h
 obtain ⟨ys,e,q⟩:=of_O h1
 obtain ⟨v,rfl,a1⟩:=ats1 a
 obtain ⟨p,vs,rfl,hs,a2⟩:=hr.rdS e a1
 exact ⟨p,vs,rfl,hs,by rw [a2.length];exact k.i hr q⟩)
theorem c_listF:CallR2 X (.type "list") (fun xs M Q=>on1 xs fun x=>onO (sqOf M x) fun ys=>Q (.lst ys) M):=CallR.mono call_list_of (by
 rintro xs H Q ⟨Z,ds,M,Q2,hr,a,h,k⟩
 obtain ⟨x,rfl,h1⟩:=of_1 h
 obtain ⟨ys,e,q⟩:=of_O h1
 obtain ⟨v,rfl,a1⟩:=ats1 a
 obtain ⟨p,vs,rfl,hs,a2⟩:=hr.rdS e a1
 exact ⟨p,vs,rfl,hs,fun l hl=>k.f hr hl a2 q⟩)
theorem c_max (hc:X.calm=true):CallR2 X (.builtin "max") (fun xs M Q=>on2 xs fun x y=>onI x fun i=>onI y fun j=>Q (.int (if j > i then j else i)) M):=CallR.mono (call_max2 hc) (by
 rintro xs H Q ⟨Z,ds,M,Q2,hr,a,h,k⟩
 obtain ⟨x,y,rfl,h1⟩:=of_2 h
 obtain ⟨i,rfl,h2⟩:=of_I h1
 obtain ⟨j,rfl,q⟩:=of_I h2
 obtain ⟨v,w,rfl,a1,a2⟩:=ats2 a
 cases (show v=V.int i from a1)
 cases (show w=V.int j from a2)
 exact ⟨i,j,rfl,k.i hr q⟩)
theorem c_min (hc:X.calm=true):CallR2 X (.builtin "min") (fun xs M Q=>on2 xs fun x y=>onI x fun i=>onI y fun j=>Q (.int (if j<i then j else i)) M):=CallR.mono (call_min2 hc) (by
 rintro xs H Q ⟨Z,ds,M,Q2,hr,a,h,k⟩
 obtain ⟨x,y,rfl,h1⟩:=of_2 h
 obtain ⟨i,rfl,h2⟩:=of_I h1
 obtain ⟨j,rfl,q⟩:=of_I h2
 obtain ⟨v,w,rfl,a1,a2⟩:=ats2 a
 cases (show v=V.int i from a1)
 cases (show w=V.int j from a2)
 exact ⟨i,j,rfl,k.i hr q⟩)
def cutD (xs:List D) (lo hi:Option Int):List D:=(xs.drop (HT.sIx xs.length 0 lo)).take (HT.sIx xs.length xs.length hi-HT.sIx xs.length 0 lo)
theorem Ats.cut {Z:Zt}{vs:List V}{ds:List D}(a:Ats Z vs ds) (lo hi:Option Int):Ats Z (cutV vs lo hi) (cutD ds lo hi):=by
 unfold cutV cutD
 rw [a.length]
 exact (a.drop _).take _
def sSlF:D->Option Int->Option Int->Mp->VK2->Prop:=fun x lo hi M Q=>onO (lsOf M x) fun xs=>Q (.lst (cutD xs lo hi)) M
theorem s_listF:SlR2 X sSlF:=SlR.mono sl_list (by
 rintro x lo hi H Q ⟨Z,d,M,Q2,hr,a,h,k⟩
 obtain ⟨xs,e,q⟩:=of_O h
 obtain ⟨p,vs,rfl,hs,a2⟩:=hr.rdL e a
 exact ⟨p,vs,rfl,hs,fun l hl=>k.f hr hl (a2.cut lo hi) q⟩)
end
section
variable {X:Cx}{st:Stmt}{rest:List Stmt}{t u:TS2}{e:Expr}{te:TE2}{pos:Pos}
def uNext:TS2:=fun D τ M=>D.nx τ M
def uSeq (t u:TS2):TS2:=fun D τ M=>t { D with nx:=u D } τ M
def uCut (t u:TS2):TS2:=fun D τ M=>∃ N:St2->Mp->Prop,t { D with nx:=N } τ M/\∀ τ' M',N τ' M'->u D τ' M'
theorem lS.nx {K:PySem.W.Frag}{Z:Zt}{σ:St}{τ:St2}{H:Hp}{M:Mp}{D2:Ends2}{D:Ends}(er:ER K Z D2 D) (st:StR Z σ τ) (hr:HR K H M Z) (h:D2.nx τ M):D.nx σ H:=er.nx Z σ τ H M (Le.refl _) st hr h
theorem qE:PSs2 X [] uNext:=PSs.mono pss_nil fun D σ H ⟨Z,τ,M,D2,st,hr,h,er⟩=>lS.nx er st hr h
theorem qC (h1:PS2 X st t) (h2:PSs2 X rest u):PSs2 X (st::rest) (uSeq t u):=PSs.mono (pss_cons h1 h2) (by
 rintro D σ H ⟨Z,τ,M,D2,st,hr,h,er⟩
 exact ⟨Z,τ,M,{ D2 with nx:=u D2 },st,hr,h,⟨fun Z1 σ1 τ1 H1 M1 l1 s1 h1 q1=>⟨Z1,τ1,M1,D2,s1,h1,q1,er.le l1⟩,er.rt,er.bk,er.ct⟩⟩)
theorem qss_cut (h1:PS2 X st t) (h2:PSs2 X rest u):PSs2 X (st::rest) (uCut t u):=PSs.mono (pss_cons h1 h2) (by
 rintro D σ H ⟨Z,τ,M,D2,st,hr,⟨N,h,hN⟩,er⟩
 exact ⟨Z,τ,M,{ D2 with nx:=N },st,hr,h,⟨fun Z1 σ1 τ1 H1 M1 l1 s1 h1 q1=>⟨Z1,τ1,M1,D2,s1,h1,hN τ1 M1 q1,er.le l1⟩,er.rt,er.bk,er.ct⟩⟩)
theorem qO (h1:PS2 X st t):PSs2 X [st] t:=pss_one h1
def uDrop (te:TE2):TS2:=fun D τ M=>te τ M fun _ M1=>D.nx τ M1
theorem qs_expr (he:PE2 X e te) (hs:swapsWith e none pos.line X.env=pure false:=by rfl):PS2 X (.Expr e pos) (uDrop te):=PS.mono (ps_expr he hs) (by
 rintro D σ H ⟨Z,τ,M,D2,st,hr,h,er⟩
 exact lE.bind st hr h fun Z1 x dx H1 M1 l1 h1 a1 q1=>lS.nx (er.le l1) (st.mono l1) h1 q1)
def uRet (te:TE2):TS2:=fun D τ M=>te τ M D.rt
theorem qs_ret (he:PE2 X e te):PS2 X (.Return (some e) pos) (uRet te):=PS.mono (ps_ret he) (by
 rintro D σ H ⟨Z,τ,M,D2,st,hr,h,er⟩
 exact ⟨Z,τ,M,D2.rt,st,hr,h,er.rt⟩)
def uIfS (c:TT2) (t u:TS2):TS2:=fun D τ M=>c τ M fun b M1=>if b=true then t D τ M1 else u D τ M1
theorem qs_if {c:Expr}{a b:List Stmt}{tc:TT2}(hc:PT2 X c tc) (ha:PSs2 X a t) (hb:PSs2 X b u):PS2 X (.If c a b pos) (uIfS tc t u):=PS.mono (ps_if hc ha hb) (by
 rintro D σ H ⟨Z,τ,M,D2,st,hr,h,er⟩
 refine lT.bind st hr h fun Z1 c H1 M1 l1 h1 q1=>?_
 cases c with
 | true=>rw [if_pos rfl] at q1 ⊢;exact ⟨Z1,τ,M1,D2,st.mono l1,h1,q1,er.le l1⟩
 | false=>rw [if_neg Bool.false_ne_true] at q1 ⊢;exact ⟨Z1,τ,M1,D2,st.mono l1,h1,q1,er.le l1⟩)
abbrev TG2:=D->St2->(St2->Prop)->Prop
def lG (K:PySem.W.Frag) (g:TG2):TG:=fun v σ H Q=>∃ Z τ M d Q2,StR Z σ τ/\HR K H M Z/\At Z v d/\g d τ (fun τ'=>Q2 τ' M)/\SKr K Z Q2 Q
@[irreducible] def PG2 (X:Cx) (tg:Expr) (g:TG2):Prop:=PG X tg (lG X.K g)
unseal PG2
theorem PG.mono {tg:Expr}{t t':TG}(h:PG X tg t) (m:∀ v σ H Q,t' v σ H Q->t v σ H Q):PG X tg t':=fun pins s σ H v u Q I r q=>h pins s σ H v u Q I r (m v σ H Q q)
def hName (i:Nat):TG2:=fun d τ k=>k (τ.set i (some d))
theorem qg_name {i:Nat}{x:Str}(hN:X.N.Nodup) (hi:X.N[i]? = some x) (hx:Loc X.env.scope x) (hf:X.fn x=true\/X.env.scope.names.lookup x=some .local:=by first | exact .inl rfl | exact .inr rfl | assumption):PG2 X (.Name x pos) (hName i):=PG.mono (pg_name hN hi hx hf) (by
 rintro v σ H Q ⟨Z,τ,M,d,Q2,st,hr,a,h,k⟩
 exact k Z _ _ H M (Le.refl _) (st.set a i) hr h)
def uSet (i:Nat) (te:TE2):TS2:=fun D τ M=>te τ M fun x M1=>D.nx (τ.set i (some x)) M1
theorem lSet {K:PySem.W.Frag}{i:Nat}:∀ D σ H,lS K (uSet i te) D σ H->tAsg (lE K te) (gName i) D σ H:=by
 rintro D σ H ⟨Z,τ,M,D2,st,hr,h,er⟩
 exact lE.bind st hr h fun Z1 x dx H1 M1 l1 h1 a1 q1=>lS.nx (er.le l1) ((st.mono l1).set a1 i) h1 q1
theorem qs_set {i:Nat}{x:Str}{pos':Pos}(hN:X.N.Nodup) (hi:X.N[i]? = some x) (hx:Loc X.env.scope x) (he:PE2 X e te) (hs:swapsWith e (some (.Name x pos')) pos.line X.env=pure false:=by rfl) (hf:X.fn x=true\/X.env.scope.names.lookup x=some .local:=by first | exact .inl rfl | exact .inr rfl | assumption) :
  PS2 X (.Assign [.Name x pos'] e pos) (uSet i te):=PS.mono (ps_set hN hi hx he hs hf) lSet
def JOk (K:PySem.W.Frag) (J:It) (xs:List D) (S:Mp->Prop) (Z:Zt):Prop:=∀ i H M Z',Le Z Z'->HR K H M Z'->S M ->
 (∀ d,xs[i]? = some d->J.go i H/\∀ x H',J.yld i H x H'->∃ Z2,Le Z' Z2/\HR K H' M Z2/\At Z2 x d)/\(xs.length<=i->J.stop i H)
abbrev TI2:=St2->Mp->(List D->(Mp->Prop)->Mp->Prop)->Prop
def lI (K:PySem.W.Frag) (t:TI2):TI:=fun σ H R=>∃ Z τ M R2,StR Z σ τ/\HR K H M Z/\t τ M R2/\∀ Z' J xs S H' M',Le Z Z'->HR K H' M' Z'->JOk K J xs S Z'->R2 xs S M'->R J H'
@[irreducible] def PI2 (X:Cx) (tg iter:Expr) (t:TI2):Prop:=PI X tg iter (lI X.K t)
unseal PI2
theorem PI.mono {tg iter:Expr}{t t':TI}(h:PI X tg iter t) (m:∀ σ H R,t' σ H R->t σ H R):PI X tg iter t':=fun pins s σ H R I q=>h pins s σ H R I (m σ H R q)
def wList (te:TE2):TI2:=fun τ M R=>te τ M fun x M1=>onO (lsOf M1 x) fun xs=>R xs (fun M=>lsOf M x=some xs) M1
theorem qi_list {tg l:Expr}{tl:TE2}(hl:PE2 X l tl):PI2 X tg l (wList tl):=PI.mono (pi_list hl) (by
 rintro σ H R ⟨Z,τ,M,R2,st,hr,h,k⟩
 refine lE.bind st hr h fun Z1 v d H1 M1 l1 h1 a1 q1=>?_
 obtain ⟨xs,e,q⟩:=of_O q1
 obtain ⟨p,vs,rfl,hs,a2⟩:=h1.rdL e a1
 refine ⟨p,rfl,⟨vs,hs⟩,k Z1 _ xs _ H1 M1 l1 h1 (fun i H M Z' l hr s=>?_) q⟩
 obtain ⟨p',ws,e2,hs2,a3⟩:=hr.rdL s (a1.mono l)
 cases e2
 refine ⟨fun d hd=>?_,fun hi=>⟨ws,hs2,by rw [a3.length];exact hi⟩⟩
 obtain ⟨v,hv,av⟩:=a3.get hd
 refine ⟨⟨ws,v,hs2,hv⟩,fun x H' y=>?_⟩
 obtain ⟨rfl,y⟩:=y
 have:=y ws hs2
 rw [hv] at this
 cases this
 exact ⟨Z',Le.refl _,hr,av⟩)
def rngD (lo:Int) (n:Nat):List D:=(List.range n).map fun k=>.int (lo+(k:Nat))
theorem rng_get {lo:Int}{n i:Nat}{d:D}(h:(rngD lo n)[i]? = some d):i<n/\d=.int (lo+(i:Nat)):=by
 unfold rngD at h
 rw [List.getElem?_map] at h
 by_cases hi:i<n
 ·rw [List.getElem?_range hi] at h
  exact ⟨hi,(Option.some.inj h).symm⟩
 ·rw [List.getElem?_eq_none_iff.mpr (by rw [List.length_range];omega)] at h
  cases h
theorem rng_len (lo:Int) (n:Nat):(rngD lo n).length=n:=by unfold rngD;rw [List.length_map,List.length_range]
theorem jok_range {K:PySem.W.Frag}{Z:Zt}(lo:Int) (n:Nat):JOk K (Itr lo n) (rngD lo n) (fun _=>True) Z:=fun i H M Z' l hr s=>by
 refine ⟨fun d hd=>?_,fun hi=>by rw [rng_len] at hi;exact hi⟩
 obtain ⟨hi,rfl⟩:=rng_get hd
 refine ⟨hi,fun x H' y=>?_⟩
 obtain ⟨rfl,rfl⟩:=y
 exact ⟨Z',Le.refl _,hr,rfl⟩
def wRng1 (t:TA2):TI2:=fun τ M R=>t τ M fun xs M1=>on1 xs fun x=>onI x fun j=>(-(2^62)<=j/\j<2^62)/\R (rngD 0 j.toNat) (fun _=>True) M1
def wRng2 (t:TA2):TI2:=fun τ M R=>t τ M fun xs M1=>on2 xs fun x y=>onI x fun i=>onI y fun j=>(-(2^62)<=i/\i<2^62/\-(2^62)<=j/\j<2^62)/\R (rngD i (j-i).toNat) (fun _=>True) M1
theorem qi_range1 {tg a:Expr}{ta:TA2}{p pos:Pos}(hm:X.mg "range" = none) (ha:PA2 X [a] ta) (hg:Gl X "range":=by rfl) (hs:starEach [a] X.env=[(false,eval a X.env)]:=by rfl) :
  PI2 X tg (.Call (.Name "range" p) [a] [] pos) (wRng1 ta):=PI.mono (pi_range1 hg hm ha hs) (by
 rintro σ H R ⟨Z,τ,M,R2,st,hr,h,k⟩
 refine ⟨Z,τ,M,_,st,hr,h,fun Z1 vs ds H1 M1 l1 h1 a1 q1=>?_⟩
 obtain ⟨x,rfl,q⟩:=of_1 q1
 obtain ⟨j,rfl,⟨b1,b2⟩,q⟩:=of_I q
 obtain ⟨v,rfl,a2⟩:=ats1 a1
 cases (show v=V.int j from a2)
 exact ⟨j,rfl,b1,b2,k Z1 _ _ _ H1 M1 l1 h1 (jok_range _ _) q⟩)
def Loop (xs:List D) (S:Mp->Prop) (g:TG2) (tb:TS2) (D:Ends2) (τ:St2) (M:Mp):Prop:=∃ Pv:Nat->St2->Mp->Prop,Pv 0 τ M/\(∀ k τ M,Pv k τ M->S M) /\
 (∀ k x τ M,xs[k]? = some x->Pv k τ M->g x τ fun τ'=>tb { D with nx:=Pv (k+1),ct:=Pv (k+1),bk:=D.nx } τ' M)/\∀ τ M,Pv xs.length τ M->D.nx τ M
def uFor (ti:TI2) (g:TG2) (tb:TS2):TS2:=fun D τ M=>ti τ M fun xs S M1=>Loop xs S g tb D τ M1
theorem qs_for {tg iter:Expr}{body:List Stmt}{wi:TI2}{g:TG2}{tb:TS2}(hp:PassesOwn (model X.prog X.w) X.A X.env X.xe) (hc:X.calm=true) (hi:PI2 X tg iter wi) (hg:PG2 X tg g) (hb:PSs2 X body tb)
  (hs:∀ x,foldedSetIterable iter X.env x=pure x:=by intro _;rfl):PS2 X (.For tg iter body [] pos) (uFor wi g tb):=PS.mono (ps_for hp hc hi hg hb hs) (by
 rintro D σ H ⟨Z,τ,M,D2,st,hr,h,er⟩
 refine ⟨Z,τ,M,_,st,hr,h,fun Z1 J xs S H1 M1 l1 h1 jk ⟨Pv,p0,stay,turn,done⟩=>?_⟩
 refine ⟨fun i m σ H=>m=xs.length-i/\i<=xs.length/\∃ Z2 τ2 M2,Le Z1 Z2/\StR Z2 σ τ2/\HR X.K H M2 Z2/\Pv i τ2 M2,⟨xs.length,by simp,Nat.zero_le _,Z1,τ,M1,Le.refl _,st.mono l1,h1,p0⟩,?_⟩
 rintro i m σ2 H2 ⟨rfl,hi,Z2,τ2,M2,l2,s2,h2,p2⟩
 obtain ⟨go,stop⟩:=jk i H2 M2 Z2 l2 h2 (stay i τ2 M2 p2)
 by_cases hlt:i<xs.length
 ·obtain ⟨g1,g2⟩:=go _ (List.getElem?_eq_getElem hlt)
  refine .inr ⟨g1,fun σ' H'=>∃ Z3 τ3 M3,Le Z1 Z3/\StR Z3 σ' τ3/\HR X.K H' M3 Z3/\Pv (i+1) τ3 M3,fun σ' H' n=>⟨xs.length-(i+1),by omega,rfl,hlt,n⟩,fun x H' y=>?_⟩
  obtain ⟨Z5,l5,h5,a⟩:=g2 x H' y
  have tk:=turn i _ τ2 M2 (List.getElem?_eq_getElem hlt) p2
  have l2:=l2.trans l5
  refine ⟨Z5,τ2,M2,_,fun τ' M'=>tb { D2 with nx:=Pv (i+1),ct:=Pv (i+1),bk:=D2.nx } τ' M',s2.mono l5,h5,a,tk,fun Z3 σ3 τ3 H3 M3 l3 s3 h3 q3=>?_⟩
  have k:SKr X.K Z3 (Pv (i+1)) fun σ' H'=>∃ Z3 τ3 M3,Le Z1 Z3/\StR Z3 σ' τ3/\HR X.K H' M3 Z3/\Pv (i+1) τ3 M3:=fun Z4 σ4 τ4 H4 M4 l4 s4 h4 q4=>⟨Z4,τ4,M4,l2.trans (l3.trans l4),s4,h4,q4⟩
  have er3:=er.le (l1.trans (l2.trans l3))
  exact ⟨Z3,τ3,M3,_,s3,h3,q3,⟨k,er3.rt,er3.nx,k⟩⟩
 ·have e:i=xs.length:=by omega
  subst e
  exact .inl ⟨stop (Nat.le_refl _),lS.nx (er.le (l1.trans l2)) s2 h2 (done τ2 M2 p2)⟩)
end
end L3
namespace L3
open PySem PySem.Spec PyProof.Rows L2
unseal PE2 PT2 PW2 PA2 PO2 PS2 PSs2 OpR2 UnR2 CallR2 IxR2 SlR2 PG2 PI2
section
variable {X:Cx}{e:Expr}{te:TE2}{pos:Pos}
theorem qi_range2 {tg a b:Expr}{ta:TA2}{p pos:Pos}(hm:X.mg "range" = none) (ha:PA2 X [a,b] ta) (hg:Gl X "range":=by rfl) (hs:starEach [a,b] X.env=[(false,eval a X.env),(false,eval b X.env)]:=by rfl) (hs2:starEach [b] X.env=[(false,eval b X.env)]:=by rfl) :
  PI2 X tg (.Call (.Name "range" p) [a,b] [] pos) (wRng2 ta):=PI.mono (pi_range2 hg hm ha hs hs2) (by
 rintro σ H R ⟨Z,τ,M,R2,st,hr,h,k⟩
 refine ⟨Z,τ,M,_,st,hr,h,fun Z1 vs ds H1 M1 l1 h1 a1 q1=>?_⟩
 obtain ⟨x,y,rfl,q⟩:=of_2 q1
 obtain ⟨i,rfl,q2⟩:=of_I q
 obtain ⟨j,rfl,b,q3⟩:=of_I q2
 obtain ⟨v,w,rfl,a2,a3⟩:=ats2 a1
 cases (show v=V.int i from a2)
 cases (show w=V.int j from a3)
 exact ⟨i,j,rfl,b,k Z1 _ _ _ H1 M1 l1 h1 (jok_range _ _) q3⟩)
def cap2 (τ:St2) (caps:List (Str×Nat)) (v:Option D):St2:=v::caps.map fun c=>(τ[c.2]?).join
theorem StR.join {Z:Zt}{σ:St}{τ:St2}(h:StR Z σ τ) (i:Nat):OA Z (σ[i]?).join (τ[i]?).join:=by
 cases e:(τ[i]?).join with
 | none=>cases (σ[i]?).join<;>exact True.intro
 | some d =>
  obtain ⟨v,h1,h2⟩:=h.get (Option.join_eq_some_iff.mp e)
  rw [h1]
  exact h2
def uTrue:TT2:=fun _ M Q=>Q true M
def Comp (xs:List D) (S:Mp->Prop) (caps:List (Str×Nat)) (tt:TT2) (te:TE2) (τ:St2) (M:Mp) (Q:List D->Mp->Prop):Prop:=xs.length<=sizeLine/\∃ W:Nat->List D->Mp->Prop,W 0 [] M/\(∀ i ys M,W i ys M->S M/\ys.length<=i) /\
 (∀ i x ys M,xs[i]? = some x->W i ys M->tt (cap2 τ caps (some x)) M fun b M2=>if b=true then te (cap2 τ caps (some x)) M2 fun y M3=>W (i+1) (ys++[y]) M3 else W (i+1) ys M2)/\∀ ys M,W xs.length ys M->Q ys M
variable {scope:Scope}{x:Str}{px:Pos}{caps:List (Str×Nat)}{elt iter c:Expr}{tt:TT2}{wi:TI2}
section
variable {i:Nat}{y:Str}{py spos:Pos}
variable (hN:X.N.Nodup) (hi0:X.N[i]? = some y) (hy:X.env.scope.names.lookup y=some .local) (B:BlkOk X scope x caps) (hc:X.calm=true) (hi:PI2 X (.Name x px) iter wi) (he:∀ cl C fp pn s H,PE2 (blk X scope cl C (x::caps.map (·.1)) fp pn s H) elt te)
end
def lM (K:PySem.W.Frag) (r:D->List D->Mp->VK2->Prop):V->List V->Hp->VK->Prop:=fun x xs H Q=>∃ Z d ds M Q2,HR K H M Z/\At Z x d/\Ats Z xs ds/\r d ds M Q2/\VKr K Z Q2 Q
@[irreducible] def MtR2 (X:Cx) (id:String) (r:D->List D->Mp->VK2->Prop):Prop:=MtR X id (lM X.K r)
unseal MtR2
theorem MtR.mono {id:String}{r r':V->List V->Hp->VK->Prop}(h:MtR X id r) (m:∀ x xs H Q,r' x xs H Q->r x xs H Q):MtR X id r':=fun pins s σ H x xs v us Q I rx r q=>h pins s σ H x xs v us Q I rx r (m x xs H Q q)
def uBM (T:String) (r:D->List D->Mp->VK2->Prop) (to:TE2) (t:TA2):TE2:=fun τ M Q=>to τ M fun x M1=>tyD M1 x=some T/\t τ M1 fun xs M2=>r x xs M2 Q
theorem tyD_tyV {K:PySem.W.Frag}{H:Hp}{M:Mp}{Z:Zt}{T:String}{v:V}{d:D}(hr:HR K H M Z) (a:At Z v d) (h:tyD M d=some T) (hT:T = "list"\/T = "int"\/T = "str"):tyV K T v H:=by
 cases d with
 | int i=>cases h;cases (show v=V.int i from a);rfl
 | str i=>cases h;cases (show v=V.str i from a);rfl
 | lst ds =>
  cases h
  obtain ⟨p,vs,rfl,hs,_⟩:=hr.rdF a
  exact .inl ⟨rfl,vs,hs⟩
 | dic ds=>cases h;rcases hT with h | h | h<;>exact absurd h (by decide)
 | dct ds=>cases h;rcases hT with h | h | h<;>exact absurd h (by decide)
 | ref p =>
  cases (show v=.ref p from a)
  unfold tyD at h
  simp only at h
  split at h
  ·next q =>
   cases h
   obtain ⟨vs,r,_⟩:=hr.rdM q
   exact .inl ⟨rfl,vs,SqL.of r⟩
  ·next q =>
   cases h
   rcases hT with h|h|h<;>exact absurd h (by decide)
  ·next q =>
   cases h
   rcases hT with h|h|h<;>exact absurd h (by decide)
  ·cases h
 | non=>cases h;rcases hT with h | h | h<;>exact absurd h (by decide)
 | bl _=>cases h;rcases hT with h | h | h<;>exact absurd h (by decide)
 | tup _=>cases h;rcases hT with h | h | h<;>exact absurd h (by decide)
 | ty _=>cases h
theorem qbm {T id:String}{name:Str}{r:D->List D->Mp->VK2->Prop}{o e:Expr}{es:List Expr}{to:TE2}{t:TA2}{apos cpos:Pos}(pa:PlainAttrs T) (slot:Slot T name id) (hty:typeOf (.builtin id)=pure (.type "method_descriptor")) (hm:MtR2 X id r) (ho:PE2 X o to) (ha:PA2 X (e::es) t)
  (hT:T = "list"\/T = "int"\/T = "str":=by decide)
  (hbase:attributeBase o name X.env (eval o X.env)=eval o X.env:=by rfl)
  (hfew:((backTo cpos (starEach (e::es) X.env)).all (fun x=>!x.1) && (backToKw cpos (keywordEach [] X.env)).all (fun x=>x.1.isSome)
   && decide ((e::es).length+([]:List Keyword).length+(if ([]:List Keyword).isEmpty then 0 else 1)<30))=true:=by rfl)
  (hline:(apos.endLine == cpos.line)=true:=by rfl) (hs:starEach (e::es) X.env=(false,eval e X.env)::starEach es X.env:=by rfl) (hplain:(backTo cpos (starEach es X.env)).any (·.1)=false:=by rfl) :
  PE2 X (.Call (.Attribute o name apos) (e::es) [] cpos) (uBM T r to t):=PE.mono (pe_bm pa slot hty hm ho ha hbase hfew hline hs hplain) (by
 rintro σ H Q ⟨Z,τ,M,Q2,st,hr,h,k⟩
 refine lE.bind st hr h fun Z1 x dx H1 M1 l1 h1 a1 q1=>⟨tyD_tyV h1 a1 q1.1 hT,Z1,τ,M1,_,st.mono l1,h1,q1.2,fun Z2 vs ds H2 M2 l2 h2 a2 q2=>?_⟩
 exact ⟨Z2,dx,ds,M2,Q2,h2,a1.mono l2,a2,q2,k.le (l1.trans l2)⟩)
def sAppend:D->List D->Mp->VK2->Prop:=fun x xs M Q=>onR x fun p=>on1 xs fun y=>match M p with
 | some (.lst ys)=>ys.length<sizeLine/\Q .non (put M p (.lst (ys++[y])))
 | _=>False
theorem m_append:MtR2 X "list.append" sAppend:=MtR.mono mt_append (by
 rintro x xs H Q ⟨Z,d,ds,M,Q2,hr,a,as,h,k⟩
 obtain ⟨p,rfl,h1⟩:=of_R h
 obtain ⟨y,rfl,h2⟩:=of_1 h1
 cases (show x=V.ref p from a)
 obtain ⟨v,rfl,av⟩:=ats1 as
 split at h2
 ·next ys e =>
  obtain ⟨hl,q⟩:=h2
  obtain ⟨vs,r,a2⟩:=hr.rdM e
  refine ⟨p,vs,v,rfl,rfl,r,by rw [a2.length];exact hl,?_⟩
  exact k Z .non .non _ _ (Le.refl _) (hr.chgL e (a2.append (.cons av .nil))) rfl q
 ·exact h2.elim)
def Dn (Q:VK2):VK2:=fun d M=>∃ M0,Sub M0 M/\Q d M0
theorem Dn.of {Q:VK2}{d:D}{M:Mp}(h:Q d M):Dn Q d M:=⟨M,Sub.refl _,h⟩
def start2 (N:List Str) (ds:List D):St2:=ds.map some++List.replicate (N.length-ds.length) none
def startL:List Str->List D->St2
 | [],_=>[]
 | _::N,[]=>none::startL N []
 | _::N,d::ds=>some d::startL N ds
theorem startL_eq:∀ {N:List Str}{ds:List D},ds.length<=N.length->startL N ds=start2 N ds
 | [],[],_=>rfl
 | [],d::ds,h=>by simp at h
 | n::N,[],_=>by
  unfold startL
  rw [startL_eq (Nat.zero_le _)]
  simp [start2,List.replicate_succ]
 | n::N,d::ds,h=>by
  unfold startL
  rw [startL_eq (by simpa using h)]
  simp [start2]
theorem start_rel {Z:Zt}{N:List Str}{vs:List V}{ds:List D}(a:Ats Z vs ds):StR Z (L2.start N vs) (start2 N ds):=by
 unfold L2.start start2
 rw [a.length]
 have tail:∀ n,StR Z (List.replicate n none) (List.replicate n none):=fun n=>by
  induction n with
  | zero=>exact .nil
  | succ n ih=>exact .cons True.intro ih
 generalize N.length-ds.length=n
 induction a with
 | nil=>exact tail n
 | cons r _ ih=>exact .cons r ih
end
section
variable {P:Program}{w:World}{K:PySem.W.Frag}{mg:Str->Option Value}{base:Heap}
theorem Fun.ok2 {x qual:Str}{st:Stmt}{f:Addr}{fd:FuncData}{N ps:List Str}{k:Nat}{sp:Sp2}(F:Fun K x qual st f fd) (S:FnScope N ps (dfS st)) (len:∀ ds M Q,sp ds M Q->ds.length=ps.length)
  (hbody:∀ (cdv:Value) (A:Around) (outer:List Env) (s:Shared) (H:Hp) (E:XK) (ds:List D) (M:Mp) (Q:VK2),Room k (A.deeper (envOfC qual (dfS st) s.heap.objs.size f cdv))->sp ds M Q ->
   ∃ t:TS2,PSs2 (cxOf CX0 P w K mg base N qual (dfS st) f cdv A outer s H E).nox (dfB st) t/\t { nx:=fun _ M'=>Dn Q .non M',rt:=Dn Q } (startL N ds) M):FnOk P w K mg base CX0 (k+1) f fd ps (lSp K sp):=by
 refine F.ok S (fun vs H Q E h=>?_) fun cdv A outer s H vs Q E hr h=>?_
 ·obtain ⟨Z,ds,M,Q2,_,a,h,_⟩:=h
  rw [a.length]
  exact len ds M Q2 h
 ·obtain ⟨Z,ds,M,Q2,hR,a,h,k'⟩:=h
  obtain ⟨t,ht,q⟩:=hbody cdv A outer s H E ds M Q2 hr h
  have hpl:ps.length<=N.length:=by have:=congrArg List.length S.pre;rw [List.length_take] at this;omega
  rw [startL_eq (by rw [len ds M Q2 h];exact hpl)] at q
  refine ⟨_,ht,Z,start2 N ds,M,_,start_rel a,hR,q,?_⟩
  refine ⟨fun Z1 σ τ H1 M1 l1 s1 h1 q1=>?_,k'.dn,fun _ _ _ _ _ _ _ _ q=>q.elim,fun _ _ _ _ _ _ _ _ q=>q.elim⟩
  exact (k'.dn.le l1).n h1 q1
def spLaw2:Sp2:=fun ds M Q=>∃ ns:List Int,ds=[.lst (ns.map D.int)]/\ns.length<=63/\∀ M',Q (.bl true) M'
theorem ats_ints (Z:Zt) (ns:List Int):Ats Z (ns.map V.int) (ns.map D.int):=by
 induction ns with
 | nil=>exact .nil
 | cons n r ih=>exact .cons rfl ih
theorem law_in {K:PySem.W.Frag}{H:Hp}{a:Addr}{ns:List Int}{E:XK}(hl:ns.length<=63) (hS:SqL K H a (ns.map V.int)):lSp K spLaw2 [.ref a] H (fun v _=>v=.bl true) E:=by
 refine ⟨fun b d=>b=a/\d=.lst (ns.map D.int),[.lst (ns.map D.int)],fun _=>none,fun d _=>d=.bl true,⟨fun p d z=>?_,fun p o e=>nomatch e⟩,.cons ⟨a,rfl,rfl,rfl⟩ .nil,⟨ns,rfl,hl,fun _=>rfl⟩,fun Z' v d H' M' _ _ at' q=>?_⟩
 ·obtain ⟨rfl,rfl⟩:=z
  rcases hS with r|r
  ·exact .inl ⟨_,r,ats_ints _ ns⟩
  ·exact .inr ⟨_,r,ats_ints _ ns⟩
 ·subst q
  exact at'
theorem walk2 {l:PySem.W.OpenLaw}{k:Nat}{q:Program}{loose:List Str}{XP:(Str->Option Value)->Heap->Prop}{YP:World->Heap->Prop}{d:DefRec}{K:Params->PySem.W.Frag}(hn:l.most=some 63) (hdf:d.params.defaults=[]) (hr:Room k callerA)
  (hY:∀ (w:World) (h:Heap),YP w h->(K w.params).In h)
  (F:∀ (w:World) (mg:Str->Option Value) (fa:Addr) (h:Heap),(K w.params).In h->h.Ns mainGlobals mg->mg d.name=some (.ref fa) ->
   ∃ fd:FuncData,(∀ (s:Shared) (u:Value),BindsTo s fd ⟨[u],[]⟩ [("script",u)])/\∀ base:Heap,(K w.params).In base->base.Ns mainGlobals mg->FnOk l.prog w (K w.params) mg base CX0 k fa fd ["script"] (lSp (K w.params) spLaw2)) :
  PySem.W.WalkO q loose XP YP l.row.toRowW d [] (fun f vs=>PySem.call f vs) :=
 L2.walk_of (n:=63) (k:=k) (x:="script") (CX:=fun _=>CX0) (sp:=fun w=>lSp (K w.params) spLaw2) hn (by decide) hdf hr hY F (fun _ _ a ns hl _ hS=>law_in hl hS) fun _ _ _ _ _ z=>z
end
end L3
namespace L3
open PySem PySem.Spec PyProof.Rows L2
unseal PE2 PT2 PW2 PA2 PO2 PS2 PSs2 OpR2 UnR2 CallR2 IxR2 SlR2 PG2 PI2 MtR2
section
variable {X:Cx}
def cmpL (f:D->D->Option Bool):List D->List D->Option Bool
 | [],[]=>some true
 | [],_::_=>some false
 | _::_,[]=>some false
 | x::xs,y::ys=>match f x y,cmpL f xs ys with
  | some a,some b=>some (a && b)
  | _,_=>none
def cmpD (M:Mp):Nat->D->D->Option Bool
 | 0,x,y=>if flatD x && flatD y then some (eqF x y) else none
 | n+1,x,y=>if flatD x && flatD y then some (eqF x y) else match x,y with
  | .tup xs,.tup ys=>cmpL (cmpD M n) xs ys
  | x,y=>match lsOf M x,lsOf M y with
   | some xs,some ys=>cmpL (cmpD M n) xs ys
   | _,_=>none
theorem eqF_V {Z:Zt}{x y:V}{d e:D}(ax:At Z x d) (ay:At Z y e) (f1:flatD d=true) (f2:flatD e=true):flatV x=true/\flatV y=true/\eqV x y=eqF d e:=by
 cases d<;>first
  | exact absurd f1 Bool.false_ne_true
  | (cases e<;>first
    | exact absurd f2 Bool.false_ne_true
    | (subst ax;subst ay;refine ⟨rfl,rfl,?_⟩;simp [eqV,eqF,Bool.beq_eq_decide_eq]))
theorem cmpL_all {f:D->D->Option Bool}:∀ {xs ys:List D}{b:Bool},cmpL f xs ys=some b->∃ e:Nat->Bool,(∀ (j:Nat) x y,xs[j]? = some x->ys[j]? = some y->f x y=some (e j)) /\
  ((List.range (min xs.length ys.length)).all e && xs.length == ys.length)=b
 | [],[],b,h=>⟨fun _=>true,fun j x y h=>by simp at h,by cases h;rfl⟩
 | [],y::ys,b,h=>⟨fun _=>true,fun j x y h=>by simp at h,by cases h;simp⟩
 | x::xs,[],b,h=>⟨fun _=>true,fun j x y _ h=>by simp at h,by cases h;simp⟩
 | x::xs,y::ys,b,h=>by
  unfold cmpL at h
  split at h
  ·next a c ha hc =>
   cases h
   obtain ⟨e,he,hb⟩:=cmpL_all hc
   refine ⟨fun j=>match j with | 0=>a | j+1=>e j,fun j x' y' h1 h2=>?_,?_⟩
   ·cases j with
    | zero =>
     have e1:x=x':=by simpa using h1
     have e2:y=y':=by simpa using h2
     rw [<- e1,<- e2]
     exact ha
    | succ j=>exact he j x' y' (by simpa using h1) (by simpa using h2)
   ·rw [List.length_cons,List.length_cons,Nat.succ_min_succ,List.range_succ_eq_map,List.all_cons,List.all_map,<- hb]
    have:((fun j=>match j with | 0=>a | j+1=>e j) ∘ Nat.succ:Nat->Bool)=e:=rfl
    rw [this,Bool.and_assoc]
    congr 2
    simp
  ·cases h
theorem nth_of {us:List Value}{vs:List V}{ds:List D}{Z:Zt}(r:Vals vs us) (a:Ats Z vs ds) (j:Nat) (h:j<us.toArray.size):∃ v d,vs[j]? = some v/\ds[j]? = some d/\At Z v d/\RelV v us.toArray[j]:=by
 have l1:=r.length
 have k1:j<vs.length:=by rw [l1];simpa using h
 have e:=List.getElem?_eq_getElem k1
 obtain ⟨u,e1,q1⟩:=r.get e
 obtain ⟨d,e2,q2⟩:=a.got e
 have z1:us.toArray[j]=u:=by
  obtain ⟨_,z⟩:=List.getElem?_eq_some_iff.mp e1
  simpa using z
 exact ⟨_,d,e,e2,q2,by rw [z1];exact q1⟩
theorem same_vs {A:Around}{s:Shared}{p:Addr}{k:Bool}(h:k=true):SeqAt.EqAt A s (.ref p) (.ref p) k:=by rw [h];exact SeqAt.EqAt.same _
theorem cmp_refl {pins:List (Addr×Obj)}{σ:St}{H:Hp}{s:Shared}{M:Mp}{Z:Zt}(I:Inv X pins σ H s) (hr:HR X.K H M Z):∀ (n:Nat) {v:V}{x y:D}{b:Bool},At Z v x->At Z v y->cmpD M n x y=some b->b=true:=by
 have flat:∀ {v:V} {x y:D},At Z v x->At Z v y->flatD x=true->flatD y=true->eqF x y=true:=fun {v x y} ax ay f1 f2=>by
  cases x<;>first
   | exact absurd f1 Bool.false_ne_true
   | (cases y<;>first
     | exact absurd f2 Bool.false_ne_true
     | (rw [show v=_ from ax] at ay;cases ay<;>simp [eqF]))
 intro n
 induction n with
 | zero =>
  intro v x y b ax ay h
  unfold cmpD at h
  split at h
  ·next f =>
   rw [Bool.and_eq_true] at f
   cases h
   exact flat ax ay f.1 f.2
  ·cases h
 | succ n ih =>
  intro v x y b ax ay h
  unfold cmpD at h
  split at h
  ·next f =>
   rw [Bool.and_eq_true] at f
   cases h
   exact flat ax ay f.1 f.2
  ·have lists:∀ {vs:List V} {xs ys:List D},Ats Z vs xs->Ats Z vs ys->cmpL (cmpD M n) xs ys=some b->b=true:=fun {vs xs ys} a1 a2 hc=>by
    obtain ⟨e,he,hb⟩:=cmpL_all hc
    have l1:=a1.length
    have l2:=a2.length
    rw [<- hb,Bool.and_eq_true]
    refine ⟨List.all_eq_true.mpr fun j hj=>?_,by simp;omega⟩
    have hj':j<min xs.length ys.length:=List.mem_range.mp hj
    have k1:j<xs.length:=by omega
    have k2:j<ys.length:=by omega
    obtain ⟨v1,e1,q1⟩:=a1.get (List.getElem?_eq_getElem k1)
    obtain ⟨v2,e2,q2⟩:=a2.get (List.getElem?_eq_getElem k2)
    rw [e1] at e2
    cases e2
    exact ih q1 q2 (he j _ _ (List.getElem?_eq_getElem k1) (List.getElem?_eq_getElem k2))
   split at h
   ·obtain ⟨p,vs,rfl,hs,a1⟩:=hr.rdT ax
    obtain ⟨p',ws,e,hs',a2⟩:=hr.rdT ay
    cases e
    rw [I.tuple_inj hs' hs] at a2
    exact lists a1 a2 h
   ·split at h
    ·next e1 e2 =>
     obtain ⟨p,vs,rfl,hs,a1⟩:=hr.rdL e1 ax
     obtain ⟨p',ws,e,hs',a2⟩:=hr.rdL e2 ay
     cases e
     rw [I.list_inj hs' hs] at a2
     exact lists a1 a2 h
    ·cases h
theorem cmp_at {pins:List (Addr×Obj)}{σ:St}{H:Hp}{s:Shared}{M:Mp}{Z:Zt}(I:Inv X pins σ H s) (hr:HR X.K H M Z):∀ (n:Nat) {A:Around}{v w:V}{x y:D}{u u':Value}{b:Bool},At Z v x->At Z w y->RelV v u->RelV w u'->A.units+n<cLine->cmpD M n x y=some b->SeqAt.EqAt A s u u' b:=by
 have flat:∀ {A:Around} {v w:V} {x y:D} {u u':Value},At Z v x->At Z w y->RelV v u->RelV w u'->flatD x=true->flatD y=true->SeqAt.EqAt A s u u' (eqF x y):=fun {A v w x y u u'} ax ay rx ry f1 f2=>by
  obtain ⟨k1,k2,k3⟩:=eqF_V ax ay f1 f2
  rw [<- k3]
  exact eqAt_V rx ry k1 k2
 intro n
 induction n with
 | zero =>
  intro A v w x y u u' b ax ay rx ry hu h
  unfold cmpD at h
  split at h
  ·next f =>
   rw [Bool.and_eq_true] at f
   cases h
   exact flat ax ay rx ry f.1 f.2
  ·cases h
 | succ n ih =>
  intro A v w x y u u' b ax ay rx ry hu h
  have h0:=h
  unfold cmpD at h
  split at h
  ·next f =>
   rw [Bool.and_eq_true] at f
   cases h
   exact flat ax ay rx ry f.1 f.2
  ·have hu1:A.in1.units+n<cLine:=by show A.units+1+n<cLine;omega
   have hu0:A.units<cLine:=by omega
   have items:∀ {vs ws:List V} {xs ys:List D} {its its2:List Value} {e:Nat->Bool},Vals vs its->Vals ws its2->Ats Z vs xs->Ats Z ws ys->(∀ (j:Nat) x y,xs[j]? = some x->ys[j]? = some y->cmpD M n x y=some (e j)) ->
     ∀ j (h1:j<its.toArray.size) (h2:j<its2.toArray.size),SeqAt.EqAt A.in1 s its.toArray[j] its2.toArray[j] (e j):=fun {vs ws xs ys its its2 e} r1 r2 a1 a2 he j h1 h2=>by
    obtain ⟨v1,d1,_,e1,q1,z1⟩:=nth_of r1 a1 j h1
    obtain ⟨v2,d2,_,e2,q2,z2⟩:=nth_of r2 a2 j h2
    exact ih q1 q2 z1 z2 hu1 (he j d1 d2 e1 e2)
   split at h
   ·obtain ⟨p,vs,rfl,hs,a1⟩:=hr.rdT ax
    obtain ⟨p',ws,rfl,hs',a2⟩:=hr.rdT ay
    cases (show u=Value.ref p from rx)
    cases (show u'=Value.ref p' from ry)
    obtain ⟨its,r1,t1,_⟩:=I.tuple hs
    obtain ⟨its2,r2,t2,_⟩:=I.tuple hs'
    obtain ⟨e,he,hb⟩:=cmpL_all h
    by_cases hp:p=p'
    ·subst hp
     exact same_vs (cmp_refl I hr _ ax ay h0)
    ·have l1:=a1.length
     have l2:=a2.length
     have m1:=r1.length
     have m2:=r2.length
     have z:=SeqAt.EqAt.of_refs hp (SeqAt.RcAt.tuples (e:=e) t1 t2 hu0 (items r1 r2 a1 a2 he))
     rw [show its.toArray.size=(_:List D).length by simp;rw [<- m1,l1],show its2.toArray.size=(_:List D).length by simp;rw [<- m2,l2],hb] at z
     exact z
   ·split at h
    ·next xs ys e1 e2 =>
     obtain ⟨p,vs,rfl,hs,a1⟩:=hr.rdL e1 ax
     obtain ⟨p',ws,rfl,hs',a2⟩:=hr.rdL e2 ay
     cases (show u=Value.ref p from rx)
     cases (show u'=Value.ref p' from ry)
     obtain ⟨its,r1,t1,_⟩:=I.list hs
     obtain ⟨its2,r2,t2,_⟩:=I.list hs'
     obtain ⟨e,he,hb⟩:=cmpL_all h
     by_cases hp:p=p'
     ·subst hp
      exact same_vs (cmp_refl I hr _ ax ay h0)
     ·have l1:=a1.length
      have l2:=a2.length
      have m1:=r1.length
      have m2:=r2.length
      have s1:its.toArray.size=xs.length:=by simp;omega
      have s2:its2.toArray.size=ys.length:=by simp;omega
      by_cases hl:xs.length=ys.length
      ·have z:=SeqAt.EqAt.of_refs hp (SeqAt.RcAt.lists (e:=e) t1.isList t2.isList (by omega) hu0 (items r1 r2 a1 a2 he))
       rw [s1] at z
       rw [<- hb,hl,Nat.min_self]
       rw [hl] at z
       simpa using z
      ·have z:=SeqAt.EqAt.of_refs hp (SeqAt.RcAt.lists_lengths t1.isList t2.isList (by rw [s1,s2];simpa using hl) hu0)
       rw [<- hb,show (xs.length == ys.length)=false by simpa using hl,Bool.and_false]
       exact z
    ·cases h
def sEqS (neg:Bool):R22:=fun x y M Q=>match x,y with
 | .tup xs,.tup ys=>onO (cmpL (cmpD M 40) xs ys) fun b=>Q (.bl (if neg then !b else b)) M
 | x,y=>onO (lsOf M x) fun xs=>onO (lsOf M y) fun ys=>onO (cmpL (cmpD M 40) xs ys) fun b=>Q (.bl (if neg then !b else b)) M
theorem eqS_items {pins:List (Addr×Obj)}{σ:St}{H:Hp}{s:Shared}{M:Mp}{Z:Zt}{A:Around}(I:Inv X pins σ H s) (hr:HR X.K H M Z) (hu:A.units+41<cLine) {vs ws:List V}{xs ys:List D}{its its2:List Value}{e:Nat->Bool}(r1:Vals vs its) (r2:Vals ws its2) (a1:Ats Z vs xs) (a2:Ats Z ws ys)
  (he:∀ (j:Nat) x y,xs[j]? = some x->ys[j]? = some y->cmpD M 40 x y=some (e j)):∀ j (h1:j<its.toArray.size) (h2:j<its2.toArray.size),SeqAt.EqAt A.in1 s its.toArray[j] its2.toArray[j] (e j):=fun j h1 h2=>by
 obtain ⟨v1,d1,_,e1,q1,z1⟩:=nth_of r1 a1 j h1
 obtain ⟨v2,d2,_,e2,q2,z2⟩:=nth_of r2 a2 j h2
 exact cmp_at I hr 40 q1 q2 z1 z2 (by show A.units+1+40<cLine;omega) (he j d1 d2 e1 e2)
theorem eqS_split {M:Mp}{neg:Bool}{Q:VK2}{x y:D}(h:sEqS neg x y M Q):∃ xs ys b,cmpL (cmpD M 40) xs ys=some b/\Q (.bl (if neg then !b else b)) M/\((x=.tup xs/\y=.tup ys)\/(lsOf M x=some xs/\lsOf M y=some ys)):=by
 unfold sEqS at h
 split at h
 ·obtain ⟨b,e,q⟩:=of_O h
  exact ⟨_,_,b,e,q,.inl ⟨rfl,rfl⟩⟩
 ·obtain ⟨xs,e1,h1⟩:=of_O h
  obtain ⟨ys,e2,h2⟩:=of_O h1
  obtain ⟨b,e,q⟩:=of_O h2
  exact ⟨_,_,b,e,q,.inr ⟨e1,e2⟩⟩
theorem o_neS (hu:X.A.units+41<cLine):OpR2 X (compareOp .NotEq) (sEqS true):=by
 intro pins s σ H x y v u Q I rx ry h
 obtain ⟨Z,dx,dy,M,Q2,hr,ax,ay,h,k⟩:=h
 obtain ⟨xs,ys,b,hc,q,h|h⟩:=eqS_split h
 ·obtain ⟨rfl,rfl⟩:=h
  obtain ⟨p,vs,rfl,hs,a1⟩:=hr.rdT ax
  obtain ⟨p',ws,rfl,hs',a2⟩:=hr.rdT ay
  cases (show v=Value.ref p from rx)
  cases (show u=Value.ref p' from ry)
  obtain ⟨its,r1,t1,_⟩:=I.tuple hs
  obtain ⟨its2,r2,t2,_⟩:=I.tuple hs'
  obtain ⟨e,he,hb⟩:=cmpL_all hc
  have l1:=a1.length
  have l2:=a2.length
  have m1:=r1.length
  have m2:=r2.length
  refine SeqAt.RcNeAt.tuples (e:=e) t1 t2 (by omega) (eqS_items I hr hu r1 r2 a1 a2 he) _ _ _ _ ⟨.bl (!b),H,I,?_,k.b hr q⟩
  rw [show its.toArray.size=xs.length by simp;omega,show its2.toArray.size=ys.length by simp;omega,hb]
  rfl
 ·obtain ⟨e1,e2⟩:=h
  obtain ⟨p,vs,rfl,hs,a1⟩:=hr.rdL e1 ax
  obtain ⟨p',ws,rfl,hs',a2⟩:=hr.rdL e2 ay
  cases (show v=Value.ref p from rx)
  cases (show u=Value.ref p' from ry)
  obtain ⟨its,r1,t1,_⟩:=I.list hs
  obtain ⟨its2,r2,t2,_⟩:=I.list hs'
  obtain ⟨e,he,hb⟩:=cmpL_all hc
  have l1:=a1.length
  have l2:=a2.length
  have m1:=r1.length
  have m2:=r2.length
  have s1:its.toArray.size=xs.length:=by simp;omega
  have s2:its2.toArray.size=ys.length:=by simp;omega
  by_cases hl:xs.length=ys.length
  ·refine SeqAt.RcNeAt.lists (e:=e) t1.isList t2.isList (by omega) (by omega) (eqS_items I hr hu r1 r2 a1 a2 he) _ _ _ _ ⟨.bl (!b),H,I,?_,k.b hr q⟩
   rw [s1,<- hb,hl,Nat.min_self]
   simp [L2.RelV]
  ·refine SeqAt.RcNeAt.lists_lengths t1.isList t2.isList (by rw [s1,s2];simpa using hl) (by omega) _ _ _ _ ⟨.bl (!b),H,I,?_,k.b hr q⟩
   rw [<- hb,show (xs.length == ys.length)=false by simpa using hl,Bool.and_false]
   rfl
def sIn (neg:Bool):R22:=fun x y M Q=>onO (sqOf M y) fun ys=>ys.all flatD=true/\flatD x=true/\Q (.bl (if neg then !(ys.any fun z=>eqF z x) else ys.any fun z=>eqF z x)) M
theorem flat_of {Z:Zt}{v:V}{d:D}(a:At Z v d) (f:flatD d=true):flatV v=true:=by
 cases d<;>first
  | exact absurd f Bool.false_ne_true
  | (subst a;rfl)
theorem flats_of {Z:Zt}{x:V}{dx:D}(ax:At Z x dx) (fx:flatD dx=true):∀ {vs:List V}{ds:List D},Ats Z vs ds->ds.all flatD=true->vs.all flatV=true/\inV x vs=ds.any fun z=>eqF z dx
 | _,_,.nil,_=>⟨rfl,rfl⟩
 | v::vs,d::ds,.cons a t,f=>by
  rw [List.all_cons,Bool.and_eq_true] at f
  obtain ⟨h1,h2⟩:=flats_of ax fx t f.2
  obtain ⟨k1,k2,k3⟩:=eqF_V a ax f.1 fx
  refine ⟨by rw [List.all_cons,k1,h1];rfl,?_⟩
  show (eqV v x || inV x vs)=(eqF d dx || _)
  rw [k3,h2]
theorem o_notin:OpR2 X (compareOp .NotIn) (sIn true):=OpR.mono op_notIn_seq (by
 rintro x y H Q ⟨Z,dx,dy,M,Q2,hr,ax,ay,h,k⟩
 obtain ⟨ys,e,f,fx,q⟩:=of_O h
 obtain ⟨p,vs,rfl,hs,a⟩:=hr.rdS e ay
 obtain ⟨h1,h2⟩:=flats_of ax fx a f
 exact ⟨p,vs,rfl,hs,flat_of ax fx,h1,by rw [h2];exact k.b hr q⟩)
end
def kD:Key->D
 | .inl i=>.int i
 | .inr z=>.str z
theorem kD_kV {Z:Zt}{v:V}{k:Key}(a:At Z v (kD k)):v=kV k:=by cases k<;>exact a
theorem At.key (Z:Zt) (k:Key):At Z (kV k) (kD k):=by cases k<;>rfl
def valD (kvs:List (Key×D)) (k:Key):Option D:=(kvs.find? fun kv=>decide (kv.1=k)).map (·.2)
def putD (kvs:List (Key×D)) (k:Key) (v:D):List (Key×D):=if kvs.any (fun kv=>decide (kv.1=k)) then kvs.map fun kv=>if kv.1=k then (kv.1,v) else kv else kvs++[(k,v)]
section
variable {K:PySem.W.Frag}{H:Hp}{M:Mp}{Z:Zt}
theorem KAts.length {vs:List (Key×V)}{ds:List (Key×D)}(h:KAts Z vs ds):vs.length=ds.length:=Paired.length h
theorem KAts.val {k:Key}:∀ {vs:List (Key×V)}{ds:List (Key×D)},KAts Z vs ds->(valD ds k=none/\valV vs k=none)\/∃ d v,valD ds k=some d/\valV vs k=some v/\At Z v d
 | _,_,.nil=>.inl ⟨rfl,rfl⟩
 | (k1,v)::vs,(k2,d)::ds,.cons r t=>by
  obtain ⟨e,a⟩:=r
  have e':k1=k2:=e
  subst e'
  by_cases hk:k1=k
  ·exact .inr ⟨d,v,by simp [valD,List.find?_cons,hk],by simp [valV,List.find?_cons,hk],a⟩
  ·have h1:valD ((k1,d)::ds) k=valD ds k:=by simp [valD,List.find?_cons,hk]
   have h2:valV ((k1,v)::vs) k=valV vs k:=by simp [valV,List.find?_cons,hk]
   rw [h1,h2]
   exact KAts.val t
theorem KAts.isSome {k:Key}{vs:List (Key×V)}{ds:List (Key×D)}(h:KAts Z vs ds):(valV vs k).isSome=(valD ds k).isSome:=by
 rcases h.val (k:=k) with ⟨e1,e2⟩|⟨d,v,e1,e2,_⟩<;>rw [e1,e2]<;>rfl
theorem KAts.any {k:Key}:∀ {vs:List (Key×V)}{ds:List (Key×D)},KAts Z vs ds->(vs.any fun kv=>decide (kv.1=k))=ds.any fun kv=>decide (kv.1=k)
 | _,_,.nil=>rfl
 | (k1,v)::vs,(k2,d)::ds,.cons r t=>by
  have e':k1=k2:=r.1
  rw [List.any_cons,List.any_cons,KAts.any t,e']
theorem KAts.append:∀ {xs ys:List (Key×V)}{us ws:List (Key×D)},KAts Z xs us->KAts Z ys ws->KAts Z (xs++ys) (us++ws)
 | _,_,_,_,.nil,s=>s
 | _,_,_,_,.cons r t,s=>.cons r (KAts.append t s)
theorem KAts.repl {k:Key}{v:V}{d:D}(a:At Z v d):∀ {vs:List (Key×V)}{ds:List (Key×D)},KAts Z vs ds->KAts Z (vs.map fun kv=>if kv.1=k then (kv.1,v) else kv) (ds.map fun kv=>if kv.1=k then (kv.1,d) else kv)
 | _,_,.nil=>.nil
 | (k1,v1)::vs,(k2,d1)::ds,.cons r t=>by
  have e':k1=k2:=r.1
  subst e'
  rw [List.map_cons,List.map_cons]
  refine .cons ?_ (KAts.repl a t)
  by_cases h:k1=k
  ·rw [if_pos h,if_pos h];exact ⟨rfl,a⟩
  ·rw [if_neg h,if_neg h];exact r
theorem KAts.put {k:Key}{v:V}{d:D}(a:At Z v d) {vs:List (Key×V)}{ds:List (Key×D)}(h:KAts Z vs ds):KAts Z (putK vs k v) (putD ds k d):=by
 unfold putK putD
 rw [h.any]
 split
 ·exact h.repl a
 ·exact h.append (.cons ⟨rfl,a⟩ .nil)
theorem KAts.keys:∀ {vs:List (Key×V)}{ds:List (Key×D)},KAts Z vs ds->Ats Z (vs.map fun p=>kV p.1) (ds.map fun p=>kD p.1)
 | _,_,.nil=>.nil
 | (k1,v1)::vs,(k2,d1)::ds,.cons r t=>by
  have e':k1=k2:=r.1
  subst e'
  exact .cons (At.key Z k1) (KAts.keys t)
end
section
variable {X:Cx}{pos:Pos}
variable {o i value:Expr}{td ty tv:TE2}{pos':Pos}
def sSlS:D->Option Int->Option Int->Mp->VK2->Prop:=fun x lo hi M Q=>onS x fun z=>z.length<=sizeLine/\Q (.str (PySem.Txt.slice z lo hi)) M
theorem s_str:SlR2 X sSlS:=by
 intro pins s σ H x v vl vu lo hi sl Q I rx hs pl pu h
 obtain ⟨Z,d,M,Q2,hr,a,h,k⟩:=h
 obtain ⟨z,rfl,hz,q⟩:=of_S h
 cases (show x=V.str z from a)
 obtain ⟨t,rfl⟩:=rx
 have fin:∀ t' tk,EP X pins σ Q (.str (PySem.Txt.slice z lo hi) t') { s with toks:=tk }:=fun t' tk=>⟨.str _,H,I.tok tk,⟨_,rfl⟩,k.s hr q⟩
 have hl:=Nat.le_trans (PySem.Txt.slice_le z lo hi) hz
 refine ⟨"str",_,PySem.F.slot_str_getitem.lookup,typeIs_str _ _ _,?_⟩
 cases pl with
 | none=>cases pu with
  | none=>exact wpAny_getItem_str_slice (l:=none) (u:=none) (st:=none) hs rfl (post_val_or_str ⟨hl,fin⟩)
  | int j uj=>exact wpAny_getItem_str_slice (l:=none) (u:=some (j,uj)) (st:=none) hs rfl (post_val_or_str ⟨hl,fin⟩)
 | int i ui=>cases pu with
  | none=>exact wpAny_getItem_str_slice (l:=some (i,ui)) (u:=none) (st:=none) hs rfl (post_val_or_str ⟨hl,fin⟩)
  | int j uj=>exact wpAny_getItem_str_slice (l:=some (i,ui)) (u:=some (j,uj)) (st:=none) hs rfl (post_val_or_str ⟨hl,fin⟩)
end
section
variable (P:Program) (w:World)
end
section
variable {P:Program}{w:World}
open AutoSeq1 (wpAny_loadPart')
open MeetsSeq MeetsSeq2 MeetsSeq3 SeqRoads2
end
section
variable {X:Cx}{pins:List (Addr×Obj)}{σ:St}{H:Hp}{s:Shared}{M:Mp}{Z:Zt}{A:Around}
end
section
variable {X:Cx}
end
end L3
namespace L2
open PySem PySem.Spec PyProof.Rows L3
section
variable {X:Cx}{pins:List (Addr×Obj)}{σ:St}{H:Hp}{s:Shared}{scope:Scope}{x:Str}{ns:List Str}{tes:List Expr}{tk:Nat}{px pos:Pos}{caps:List (Str×Nat)}{elt iter:Expr}{ifs:List Expr}{tt:TT}{te:TE}
end
structure ZipAt (z TI TO i1 i2 a b:Addr) (i:Nat) (h:Heap):Prop where
 n1:TI≠z
 n2:TO≠z
 n3:i1≠z
 n4:i2≠z
 n5:TI≠TO
 n6:TI≠i1
 n7:TI≠i2
 n8:TO≠i1
 n9:TO≠i2
 n10:i1≠i2
 hz:IsZip h z TI TO .none
 ht:IsPair h TI (.ref i1) (.ref i2)
 ho:∃ u v,IsPair h TO u v
 h1:h.IsListIter i1 a i
 h2:h.IsListIter i2 b i
theorem ZipAt.apart {z TI TO i1 i2 a b:Addr}{i:Nat}{h:Heap}{us vs:Array Value}(t:ZipAt z TI TO i1 i2 a b i h) (ha:h.IsList a us) (hb:h.IsList b vs):ZipApart z TI TO i1 i2 a b:=by
 obtain ⟨u,v,ho⟩:=t.ho
 obtain ⟨o1,e1,c1,_⟩:=t.h1
 obtain ⟨o2,e2,c2,_⟩:=t.h2
 have key:∀ {l:Addr} {ws:Array Value},h.IsList l ws->l≠z/\l≠TO/\l≠i1/\l≠i2:=fun {l ws} ⟨o,e,c,_⟩=>by
  refine ⟨fun q=>?_,fun q=>?_,fun q=>?_,fun q=>?_⟩
  ·rw [q,t.hz] at e;cases e;exact absurd c (by simp)
  ·rw [q,ho] at e;cases e;exact absurd c (by simp)
  ·rw [q,e1] at e;cases e;rw [c1] at c;exact absurd c (by simp)
  ·rw [q,e2] at e;cases e;rw [c2] at c;exact absurd c (by simp)
 obtain ⟨a1,a2,a3,a4⟩:=key ha
 obtain ⟨b1,b2,b3,b4⟩:=key hb
 exact ⟨t.n1,t.n2,t.n3,t.n4,t.n5,t.n6,t.n7,t.n8,t.n9,t.n10,a1,a2,a3,a4,b1,b2,b3,b4⟩
end L2
namespace L3
open PySem PySem.Spec PyProof.Rows L2
unseal PE2 PT2 PW2 PA2 PO2 PS2 PSs2 OpR2 UnR2 CallR2 IxR2 SlR2 PG2 PI2 MtR2
section
variable {X:Cx}{e:Expr}{te:TE2}{pos:Pos}
def zipD (xs ys:List D):List D:=(xs.zip ys).map fun p=>.tup [p.1,p.2]
def capT (τ:St2) (caps:List (Str×Nat)) (ds:List D):St2:=ds.map some++caps.map fun c=>(τ[c.2]?).join
theorem StR.capT {Z:Zt}{σ:St}{τ:St2}(h:StR Z σ τ) (caps:List (Str×Nat)):∀ {us:List V}{ds:List D},Ats Z us ds->StR Z (capN σ caps (us.map some)) (capT τ caps ds)
 | [],[],.nil=>by
  unfold capN L3.capT
  rw [List.map_nil,List.map_nil,List.nil_append,List.nil_append]
  induction caps with
  | nil=>exact .nil
  | cons c r ih=>exact .cons (h.join c.2) ih
 | _::_,_::_,.cons a r=>.cons a (StR.capT h caps r)
def CompT (n:Nat) (xs:List D) (S:Mp->Prop) (caps:List (Str×Nat)) (tt:TT2) (te:TE2) (τ:St2) (M:Mp) (Q:List D->Mp->Prop):Prop:=xs.length<=sizeLine/\∃ W:Nat->List D->Mp->Prop,W 0 [] M/\(∀ i ys M,W i ys M->S M/\ys.length<=i) /\
 (∀ i x ys M,xs[i]? = some x->W i ys M->∃ us,x=.tup us/\us.length=n/\tt (capT τ caps us) M fun b M2=>if b=true then te (capT τ caps us) M2 fun y M3=>W (i+1) (ys++[y]) M3 else W (i+1) ys M2)/\∀ ys M,W xs.length ys M->Q ys M
theorem Comp.pure {xs:List D}{S:Mp->Prop}{caps:List (Str×Nat)}{te:TE2}{τ:St2}{M:Mp}{Q:List D->Mp->Prop}(f:D->D) (hz:xs.length<=sizeLine) (hS:S M) (h:∀ x∈xs,∀ R:VK2,R (f x) M->te (cap2 τ caps (some x)) M R) (q:Q (xs.map f) M):Comp xs S caps uTrue te τ M Q:=by
 refine ⟨hz,fun i ys M'=>M'=M/\ys=(xs.take i).map f,⟨rfl,rfl⟩,?_,?_,?_⟩
 ·rintro i ys M' ⟨rfl,rfl⟩
  exact ⟨hS,by rw [List.length_map,List.length_take];omega⟩
 ·rintro i x ys M' hx ⟨rfl,rfl⟩
  unfold uTrue
  dsimp only
  rw [if_pos rfl]
  exact h x (List.mem_of_getElem? hx) _ ⟨rfl,by rw [List.take_add_one,hx,List.map_append];rfl⟩
 ·rintro ys M' ⟨rfl,rfl⟩
  rw [List.take_length]
  exact q
theorem Comp.ints {bs:List Int}{S:Mp->Prop}{caps:List (Str×Nat)}{te:TE2}{τ:St2}{M:Mp}{Q:List D->Mp->Prop}(f:Int->Int) (hz:bs.length<=sizeLine) (hS:S M) (h:∀ b∈bs,∀ R:VK2,R (.int (f b)) M->te (cap2 τ caps (some (.int b))) M R) (q:Q ((bs.map f).map D.int) M):Comp (bs.map D.int) S caps uTrue te τ M Q:=by
 refine Comp.pure (fun d=>match d with | .int b=>.int (f b) | d=>d) (by rw [List.length_map];exact hz) hS (fun x hx R r=>?_) ?_
 ·obtain ⟨b,hb,rfl⟩:=List.mem_map.mp hx
  exact h b hb R r
 ·rw [List.map_map] at q ⊢
  exact q
theorem zipD_ints (as bs:List Int):zipD (as.map D.int) (bs.map D.int)=(as.zip bs).map fun p=>.tup [.int p.1,.int p.2]:=by
 unfold zipD
 rw [List.zip_map,List.map_map]
 rfl
theorem zip_ints (f:Int->Int->Int):∀ as bs:List Int,((as.zip bs).map fun p=>D.int (f p.1 p.2))=(as.zipWith f bs).map D.int
 | [],_=>rfl
 | _::_,[]=>rfl
 | a::as,b::bs=>by
  show D.int (f a b)::(as.zip bs).map _=D.int (f a b)::(as.zipWith f bs).map D.int
  rw [zip_ints f as bs]
theorem CompT.ints {as bs:List Int}{S:Mp->Prop}{caps:List (Str×Nat)}{te:TE2}{τ:St2}{M:Mp}{Q:List D->Mp->Prop}(f:Int->Int->Int) (hz:as.length<=sizeLine) (hS:S M) (h:∀ a b,(a,b)∈as.zip bs->∀ R:VK2,R (.int (f a b)) M->te (capT τ caps [.int a,.int b]) M R) (q:Q ((as.zipWith f bs).map D.int) M):CompT 2 (zipD (as.map D.int) (bs.map D.int)) S caps uTrue te τ M Q:=by
 rw [zipD_ints]
 refine ⟨by rw [List.length_map,List.length_zip];omega,fun i ys M'=>M'=M/\ys=((as.zip bs).take i).map fun p=>D.int (f p.1 p.2),⟨rfl,rfl⟩,?_,?_,?_⟩
 ·rintro i ys M' ⟨rfl,rfl⟩
  exact ⟨hS,by rw [List.length_map,List.length_take];omega⟩
 ·rintro i x ys M' hx ⟨rfl,rfl⟩
  rw [List.getElem?_map] at hx
  cases e:(as.zip bs)[i]? with
  | none=>rw [e] at hx;cases hx
  | some p =>
   rw [e] at hx
   refine ⟨_,(Option.some.inj hx).symm,rfl,?_⟩
   unfold uTrue
   dsimp only
   rw [if_pos rfl]
   exact h p.1 p.2 (List.mem_of_getElem? e) _ ⟨rfl,by rw [List.take_add_one,e,List.map_append];rfl⟩
 ·rintro ys M' ⟨rfl,rfl⟩
  rw [List.length_map,List.take_length]
  rw [zip_ints f as bs]
  exact q
end
end L3
namespace L2
open PySem PySem.Spec PyProof.Rows L3
end L2
namespace L3
open PySem PySem.Spec PyProof.Rows L2
unseal PE2 PT2 PW2 PA2 PO2 PS2 PSs2 OpR2 UnR2 CallR2 IxR2 SlR2 PG2 PI2 MtR2
section
variable {X:Cx}{e:Expr}{te:TE2}{pos:Pos}
theorem Comp.of {α:Type}{ks:List α}{g f:α->D}{S:Mp->Prop}{caps:List (Str×Nat)}{te:TE2}{τ:St2}{M:Mp}{Q:List D->Mp->Prop}(hz:ks.length<=sizeLine) (hS:S M) (h:∀ k∈ks,∀ R:VK2,R (f k) M->te (cap2 τ caps (some (g k))) M R) (q:Q (ks.map f) M):Comp (ks.map g) S caps uTrue te τ M Q:=by
 refine ⟨by rw [List.length_map];exact hz,fun i ys M'=>M'=M/\ys=(ks.take i).map f,⟨rfl,rfl⟩,?_,?_,?_⟩
 ·rintro i ys M' ⟨rfl,rfl⟩
  exact ⟨hS,by rw [List.length_map,List.length_take];omega⟩
 ·rintro i x ys M' hx ⟨rfl,rfl⟩
  rw [List.getElem?_map] at hx
  cases e:ks[i]? with
  | none=>rw [e] at hx;cases hx
  | some k =>
   rw [e] at hx
   cases hx
   unfold uTrue
   dsimp only
   rw [if_pos rfl]
   exact h k (List.mem_of_getElem? e) _ ⟨rfl,by rw [List.take_add_one,e,List.map_append];rfl⟩
 ·rintro ys M' ⟨rfl,rfl⟩
  rw [List.length_map,List.take_length]
  exact q
end
end L3
namespace L2
open PySem PySem.Spec PyProof.Rows L3
end L2
namespace L3
open PySem PySem.Spec PyProof.Rows L2
unseal PE2 PT2 PW2 PA2 PO2 PS2 PSs2 OpR2 UnR2 CallR2 IxR2 SlR2 PG2 PI2 MtR2
end L3
namespace L2
open PySem PySem.Spec PyProof.Rows L3
theorem stored {s:Heap}{a:Addr}{o:Obj}{es es1:Array (Int×Value)}{ep:Nat}{t t2:SetTable}(ho:s.get? a=some o) (hex:o.ExactSet) (hd:o.data=Data.set es ep t) :
  ∃ o',(s.update a (Obj.putSet es1 t2)).get? a=some o'/\o'.ExactSet/\o'.data=Data.set es1 (ep+1) t2:=by
 have e:=putSet_of es1 t2 hd
 refine ⟨_,Heap.get?_update_self _ ho ?_,?_,?_⟩
 ·rw [e]
  obtain ⟨h1,h2,h3⟩:=hex
  simp [Obj.isFreed,h1]
 ·rw [e]
  exact hex
 ·rw [e]
theorem set_new_led {prog:Program}{w:World}{A:Around}{E:Value->Shared->Prop}{s:Shared}(a:Value) {Q₁:Value->Shared->Prop}
  (h:Q₁ (.ref s.heap.objs.size) { s with heap:=s.heap.push { cls:=.type "set",dict:=none,data:=.set #[] 0 (.fresh 0 0 (!(w.params.followText "set-order"))) } }) :
  codeAny (model prog w) A (.call (.builtin "set.__new__") ⟨[.type "set",a],[]⟩) (wants Q₁ E) s:=by
 refine codeAny_of_tree ?_
 show wpAny _ A.in1 (do checkBuiltinCall "set.__new__" ⟨[.type "set",a],[]⟩;again (.builtin "set.__new__" ⟨[.type "set",a],[]⟩)) _ _ s
 refine wpAny_bind (wpAny_of_eq (PySem.F.newCall_set_1 a) (wpAny_pure ⟨plainId_quiet F.plain_set_new _,codeAny_builtin F.entry_set_new ?_⟩))
 rw [Around.under_plainId F.plain_set_new _]
 unfold Builtin.«set.__new__» Builtin.Frozenset.newClass
 have hsub:=sub_set_self
 obtain ⟨hp,g,d,tk,os⟩:=s
 dsimp only
 wp_walk
 refine wpAny_askSetting (wpAny_pure ?_)
 dsimp only
 simp only [newObj]
 refine wpAny_bind (wpAny_alloc (wpAny_pure ?_))
 exact wpAny_pure h
section
variable {prog:Program}{w:World}{A:Around}{R:Result->Shared->Prop}{I:Addr}{fp wr:List Addr}{G:Array GenState->Array GenState->Prop}{n:Nat}{P:Nat->Value->Prop}{St:Nat->Shared->Prop}
end
theorem callTypeW {prog:Program}{w:World}{A:Around}{E:Value->Shared->Prop}{s:Shared}{T newId initId:String}{args:List Value}{Q Q₁:Value->Shared->Prop}(ft:TypeCalled T newId initId) (hct:checkTypeCall T ⟨args,[]⟩=pure ())
  (hnew:codeAny (model prog w) A.in1 (.call (.builtin newId) ⟨.type T::args,[]⟩) (wants Q₁ E) s)
  (hini:∀ obj s₁,Q₁ obj s₁->s₁.TypeIs obj T/\codeAny (model prog w) A.in1 (.call (.builtin initId) ⟨obj::args,[]⟩) (wants (fun r s₂=>r=.none/\Q obj s₂) E) s₁) :
  wpAny (model prog w) A (call (.type T) args) Q E s:=by
 have f1:=ft.notType
 have f2:=ft.canCreate
 have f3:=ft.made
 have f4:=ft.sub
 have f5:=ft.init.lookup
 obtain ⟨c,tl,f6⟩:=ft.mro
 refine wpAny_call (codeAny_of_tree ?_)
 show wpAny _ _ (callAny (.type T) _) _ _ _
 refine wpAny_pure ⟨Code.quiet_builtin _ (by decide +kernel),codeAny_builtin F.entry_type_call ?_⟩
 rw [Around.under_plain (weight_type_call_type T args []) rfl]
 repeat (any_goals (first | assumption | wp_step))
 refine codeAny_mono hnew fun r s₁ hr=>?_
 match r,hr with
 | .error e,hr=>exact hr
 | .ok (.ret obj),hr =>
  obtain ⟨hT,hi⟩:=hini _ _ hr
  have f7:=ft.init.bind obj
  repeat (any_goals (first | assumption | wp_step))
  refine codeAny_mono hi fun r₂ s₂ hr₂=>?_
  match r₂,hr₂ with
  | .error e,hr₂=>exact hr₂
  | .ok (.ret _),⟨rfl,hq⟩=>repeat (any_goals (first | assumption | wp_step))
def SIt (w:World) (h:Heap) (I S p i:Nat) (ord:List Value):Prop :=
  ∃ (o so:Obj) (first:Value) (es:Array (Int×Value)) (ep:Nat) (t:SetTable),h.get? I=some o/\o.cls=Value.type "set_iterator"/\o.data=Data.fields #[first,.int i 0,.ref S,.int es.size 0,.int ep 0]/\h.get? S=some so/\so.data=Data.set es ep t/\t.fits es.size=true/\ord.length=es.size /\
    ((∃ (po:Obj) (js:List Nat) (c:Nat),first=Value.ref p/\h.get? p=some po/\po.data=Data.seq (js.map fun j:Nat=>Value.int j 0).toArray c/\ord.map some=js.map fun j=>es[j]?.map (·.2))
   \/(∃ sl tk,first=Value.int sl tk/\w.params.followText "set-order" = true/\ord=(pickOrder (w.params.setOrder S ep) es).toList.map (·.2))
   \/(∃ sl:Nat,first=Value.int sl 0/\w.params.followText "set-order" = false/\t.led=true/\es.size<=1/\ord=es.toList.map (·.2)/\(i=0->sl=0)/\(i≠0->∀ j,t.place[0]? = some j->sl=j+1)))
theorem SIt.typeIs {w:World}{s:Shared}{I S p i:Nat}{ord:List Value}(h:SIt w s.heap I S p i ord):s.TypeIs (.ref I) "set_iterator":=by
 obtain ⟨o,so,first,es,ep,t,ho,hc,-⟩:=h
 exact ⟨o,ho,hc⟩
theorem SIt.kept {w:World}{h h':Heap}{I S p i:Nat}{ord:List Value}(x:SIt w h I S p i ord) (e:∀ b∈[I,S,p],∀ o,h.get? b=some o->h'.get? b=some o):SIt w h' I S p i ord:=by
 obtain ⟨o,so,first,es,ep,t,ho,hc,hd,hso,hsd,hf,hl,m⟩:=x
 refine ⟨o,so,first,es,ep,t,e I (by simp) _ ho,hc,hd,e S (by simp) _ hso,hsd,hf,hl,?_⟩
 rcases m with ⟨po,js,c,m1,m2,m3⟩|m|m
 ·exact .inl ⟨po,js,c,m1,e p (by simp) _ m2,m3⟩
 ·exact .inr (.inl m)
 ·exact .inr (.inr m)
section
variable {X:Cx}
end
section
variable {X:Cx}
unseal PE2
unseal MtR2
end
end L2
namespace L3
open PySem PySem.Spec PyProof.Rows L2
section
variable {X:Cx}{pins:List (Addr×Obj)}{σ:St}{H:Hp}{s:Shared}{a b:Addr}{kvs ms:List (Key×V)}{A:Around}{E:Value->Shared->Prop}
end
section
variable {X:Cx}
unseal MtR2
unseal PE2 PA2
end
end L3
namespace PySem
open Sem (wp)
section
variable {prog:Program}{w:World}{K:Type} [DecidableEq K] {knd:KeyKind prog w K}{A:Around}{E:Value->Shared->Prop}{s:Shared}
def ItmAt (knd:KeyKind prog w K) (h:Heap) (kvs:List (K×Value)) (j:Nat) (v:Value):Prop:=∃ (a:Addr) (key:Value) (k:K) (x:Value),v=.ref a/\kvs[j]? = some (k,x)/\knd.is k key=true/\h.get? a=some { cls:=.type "tuple",data:=.seq #[key,x] }
theorem ItmAt.at {h h':Heap}{kvs:List (K×Value)}{j:Nat}{v:Value}(x:ItmAt knd h kvs j v) (e:∀ a,v=.ref a->∀ o,h.get? a=some o->h'.get? a=some o):ItmAt knd h' kvs j v:=by
 obtain ⟨a,key,k,x,rfl,h1,h2,h3⟩:=x
 exact ⟨a,key,k,x,rfl,h1,h2,e a rfl _ h3⟩
end
end PySem
namespace L2
open PySem PySem.Spec PyProof.Rows L3
section
variable {X:Cx}
end
end L2
namespace L3
open PySem PySem.Spec PyProof.Rows L2
section
variable {X:Cx}
unseal PE2
unseal PSs2
section
variable {te:TE2}{pos:Pos}
unseal PI2
end
end
end L3
namespace PySem
open Sem (wp)
section
variable {prog:Program}{w:World}{A:Around}{E:Value->Shared->Prop}{s:Shared}{a:Addr}
end
section
variable {prog:Program}{w:World}{K:Type} [DecidableEq K] {knd:KeyKind prog w K}{A:Around}{E:Value->Shared->Prop}
end
end PySem
namespace L3
open PySem PySem.Spec PyProof.Rows L2
section
variable {X:Cx}
unseal CallR2
end
end L3
namespace L2
open PySem PySem.Spec PyProof.Rows L3
section
variable {X:Cx}
end
end L2
namespace L3
open PySem PySem.Spec PyProof.Rows L2
section
variable {X:Cx}
unseal MtR2 OpR2
end
end L3
namespace L3
open PySem PySem.Spec PyProof.Rows L2
unseal OpR2
end L3
namespace L3
open PySem PySem.Spec PyProof.Rows L2
unseal OpR2
unseal PE2
end L3
namespace L3
open PySem PySem.Spec PyProof.Rows L2
theorem hu45 {A:Around}{k:Nat}(hr:Room k A):A.units+45<cLine:=Nat.lt_of_le_of_lt (Nat.add_le_add_left (by decide:45<=64) _) hr.units
theorem hu41 {A:Around}{k:Nat}(hr:Room k A):A.units+41<cLine:=Nat.lt_of_le_of_lt (Nat.add_le_add_left (by decide:41<=64) _) hr.units
def on3 (xs:List D) (k:D->D->D->Prop):Prop:=match xs with
 | [x,y,z]=>k x y z
 | _=>False
def on4 (xs:List D) (k:D->D->D->D->Prop):Prop:=match xs with
 | [x,y,z,w]=>k x y z w
 | _=>False
theorem of_3 {xs:List D}{k:D->D->D->Prop}(h:on3 xs k):∃ x y z,xs=[x,y,z]/\k x y z:=by
 match xs,h with
 | [x,y,z],h=>exact ⟨x,y,z,rfl,h⟩
theorem of_4 {xs:List D}{k:D->D->D->D->Prop}(h:on4 xs k):∃ x y z w,xs=[x,y,z,w]/\k x y z w:=by
 match xs,h with
 | [x,y,z,w],h=>exact ⟨x,y,z,w,rfl,h⟩
theorem r_on3 {x y z:D}{k:D->D->D->Prop}:on3 [x,y,z] k=k x y z:=rfl
theorem r_on4 {x y z w:D}{k:D->D->D->D->Prop}:on4 [x,y,z,w] k=k x y z w:=rfl
section
variable {τ:St2}{M:Mp}{Q:VK2}{QT:Bool->Mp->Prop}{QA:List D->Mp->Prop}{QO:Option Int->Mp->Prop}{E:Ends2}{d:D}{te ta tb tc:TE2}{tt t1 t2:TT2}{tA:TA2}{s1 s2:TS2}{o:Option D}
theorem r_v0:uVar 0 (some d::τ) M Q=Q d M:=rfl
theorem r_s0:uSet 0 te E (o::τ) M=te (o::τ) M fun x M1=>E.nx (some x::τ) M1:=rfl
theorem r_n0 {k:St2->Prop}:hName 0 d (o::τ) k=k (some d::τ):=rfl
theorem r_v1 {a0:Option D}:uVar 1 (a0::some d::τ) M Q=Q d M:=rfl
theorem r_s1 {a0:Option D}:uSet 1 te E (a0::o::τ) M=te (a0::o::τ) M fun x M1=>E.nx (a0::some x::τ) M1:=rfl
theorem r_n1 {a0:Option D}{k:St2->Prop}:hName 1 d (a0::o::τ) k=k (a0::some d::τ):=rfl
theorem r_v2 {a0 a1:Option D}:uVar 2 (a0::a1::some d::τ) M Q=Q d M:=rfl
theorem r_s2 {a0 a1:Option D}:uSet 2 te E (a0::a1::o::τ) M=te (a0::a1::o::τ) M fun x M1=>E.nx (a0::a1::some x::τ) M1:=rfl
theorem r_n2 {a0 a1:Option D}{k:St2->Prop}:hName 2 d (a0::a1::o::τ) k=k (a0::a1::some d::τ):=rfl
theorem r_v3 {a0 a1 a2:Option D}:uVar 3 (a0::a1::a2::some d::τ) M Q=Q d M:=rfl
theorem r_s3 {a0 a1 a2:Option D}:uSet 3 te E (a0::a1::a2::o::τ) M=te (a0::a1::a2::o::τ) M fun x M1=>E.nx (a0::a1::a2::some x::τ) M1:=rfl
theorem r_n3 {a0 a1 a2:Option D}{k:St2->Prop}:hName 3 d (a0::a1::a2::o::τ) k=k (a0::a1::a2::some d::τ):=rfl
theorem r_v4 {a0 a1 a2 a3:Option D}:uVar 4 (a0::a1::a2::a3::some d::τ) M Q=Q d M:=rfl
theorem r_s4 {a0 a1 a2 a3:Option D}:uSet 4 te E (a0::a1::a2::a3::o::τ) M=te (a0::a1::a2::a3::o::τ) M fun x M1=>E.nx (a0::a1::a2::a3::some x::τ) M1:=rfl
theorem r_n4 {a0 a1 a2 a3:Option D}{k:St2->Prop}:hName 4 d (a0::a1::a2::a3::o::τ) k=k (a0::a1::a2::a3::some d::τ):=rfl
theorem r_v5 {a0 a1 a2 a3 a4:Option D}:uVar 5 (a0::a1::a2::a3::a4::some d::τ) M Q=Q d M:=rfl
theorem r_s5 {a0 a1 a2 a3 a4:Option D}:uSet 5 te E (a0::a1::a2::a3::a4::o::τ) M=te (a0::a1::a2::a3::a4::o::τ) M fun x M1=>E.nx (a0::a1::a2::a3::a4::some x::τ) M1:=rfl
theorem r_n5 {a0 a1 a2 a3 a4:Option D}{k:St2->Prop}:hName 5 d (a0::a1::a2::a3::a4::o::τ) k=k (a0::a1::a2::a3::a4::some d::τ):=rfl
theorem r_v6 {a0 a1 a2 a3 a4 a5:Option D}:uVar 6 (a0::a1::a2::a3::a4::a5::some d::τ) M Q=Q d M:=rfl
theorem r_s6 {a0 a1 a2 a3 a4 a5:Option D}:uSet 6 te E (a0::a1::a2::a3::a4::a5::o::τ) M=te (a0::a1::a2::a3::a4::a5::o::τ) M fun x M1=>E.nx (a0::a1::a2::a3::a4::a5::some x::τ) M1:=rfl
theorem r_n6 {a0 a1 a2 a3 a4 a5:Option D}{k:St2->Prop}:hName 6 d (a0::a1::a2::a3::a4::a5::o::τ) k=k (a0::a1::a2::a3::a4::a5::some d::τ):=rfl
theorem r_v7 {a0 a1 a2 a3 a4 a5 a6:Option D}:uVar 7 (a0::a1::a2::a3::a4::a5::a6::some d::τ) M Q=Q d M:=rfl
theorem r_s7 {a0 a1 a2 a3 a4 a5 a6:Option D}:uSet 7 te E (a0::a1::a2::a3::a4::a5::a6::o::τ) M=te (a0::a1::a2::a3::a4::a5::a6::o::τ) M fun x M1=>E.nx (a0::a1::a2::a3::a4::a5::a6::some x::τ) M1:=rfl
theorem r_n7 {a0 a1 a2 a3 a4 a5 a6:Option D}{k:St2->Prop}:hName 7 d (a0::a1::a2::a3::a4::a5::a6::o::τ) k=k (a0::a1::a2::a3::a4::a5::a6::some d::τ):=rfl
theorem r_v8 {a0 a1 a2 a3 a4 a5 a6 a7:Option D}:uVar 8 (a0::a1::a2::a3::a4::a5::a6::a7::some d::τ) M Q=Q d M:=rfl
theorem r_s8 {a0 a1 a2 a3 a4 a5 a6 a7:Option D}:uSet 8 te E (a0::a1::a2::a3::a4::a5::a6::a7::o::τ) M=te (a0::a1::a2::a3::a4::a5::a6::a7::o::τ) M fun x M1=>E.nx (a0::a1::a2::a3::a4::a5::a6::a7::some x::τ) M1:=rfl
theorem r_n8 {a0 a1 a2 a3 a4 a5 a6 a7:Option D}{k:St2->Prop}:hName 8 d (a0::a1::a2::a3::a4::a5::a6::a7::o::τ) k=k (a0::a1::a2::a3::a4::a5::a6::a7::some d::τ):=rfl
theorem r_v9 {a0 a1 a2 a3 a4 a5 a6 a7 a8:Option D}:uVar 9 (a0::a1::a2::a3::a4::a5::a6::a7::a8::some d::τ) M Q=Q d M:=rfl
theorem r_s9 {a0 a1 a2 a3 a4 a5 a6 a7 a8:Option D}:uSet 9 te E (a0::a1::a2::a3::a4::a5::a6::a7::a8::o::τ) M=te (a0::a1::a2::a3::a4::a5::a6::a7::a8::o::τ) M fun x M1=>E.nx (a0::a1::a2::a3::a4::a5::a6::a7::a8::some x::τ) M1:=rfl
theorem r_n9 {a0 a1 a2 a3 a4 a5 a6 a7 a8:Option D}{k:St2->Prop}:hName 9 d (a0::a1::a2::a3::a4::a5::a6::a7::a8::o::τ) k=k (a0::a1::a2::a3::a4::a5::a6::a7::a8::some d::τ):=rfl
theorem r_v10 {a0 a1 a2 a3 a4 a5 a6 a7 a8 a9:Option D}:uVar 10 (a0::a1::a2::a3::a4::a5::a6::a7::a8::a9::some d::τ) M Q=Q d M:=rfl
theorem r_s10 {a0 a1 a2 a3 a4 a5 a6 a7 a8 a9:Option D}:uSet 10 te E (a0::a1::a2::a3::a4::a5::a6::a7::a8::a9::o::τ) M=te (a0::a1::a2::a3::a4::a5::a6::a7::a8::a9::o::τ) M fun x M1=>E.nx (a0::a1::a2::a3::a4::a5::a6::a7::a8::a9::some x::τ) M1:=rfl
theorem r_n10 {a0 a1 a2 a3 a4 a5 a6 a7 a8 a9:Option D}{k:St2->Prop}:hName 10 d (a0::a1::a2::a3::a4::a5::a6::a7::a8::a9::o::τ) k=k (a0::a1::a2::a3::a4::a5::a6::a7::a8::a9::some d::τ):=rfl
theorem r_v11 {a0 a1 a2 a3 a4 a5 a6 a7 a8 a9 a10:Option D}:uVar 11 (a0::a1::a2::a3::a4::a5::a6::a7::a8::a9::a10::some d::τ) M Q=Q d M:=rfl
theorem r_s11 {a0 a1 a2 a3 a4 a5 a6 a7 a8 a9 a10:Option D}:uSet 11 te E (a0::a1::a2::a3::a4::a5::a6::a7::a8::a9::a10::o::τ) M=te (a0::a1::a2::a3::a4::a5::a6::a7::a8::a9::a10::o::τ) M fun x M1=>E.nx (a0::a1::a2::a3::a4::a5::a6::a7::a8::a9::a10::some x::τ) M1:=rfl
theorem r_n11 {a0 a1 a2 a3 a4 a5 a6 a7 a8 a9 a10:Option D}{k:St2->Prop}:hName 11 d (a0::a1::a2::a3::a4::a5::a6::a7::a8::a9::a10::o::τ) k=k (a0::a1::a2::a3::a4::a5::a6::a7::a8::a9::a10::some d::τ):=rfl
theorem r_v12 {a0 a1 a2 a3 a4 a5 a6 a7 a8 a9 a10 a11:Option D}:uVar 12 (a0::a1::a2::a3::a4::a5::a6::a7::a8::a9::a10::a11::some d::τ) M Q=Q d M:=rfl
theorem r_s12 {a0 a1 a2 a3 a4 a5 a6 a7 a8 a9 a10 a11:Option D}:uSet 12 te E (a0::a1::a2::a3::a4::a5::a6::a7::a8::a9::a10::a11::o::τ) M=te (a0::a1::a2::a3::a4::a5::a6::a7::a8::a9::a10::a11::o::τ) M fun x M1=>E.nx (a0::a1::a2::a3::a4::a5::a6::a7::a8::a9::a10::a11::some x::τ) M1:=rfl
theorem r_n12 {a0 a1 a2 a3 a4 a5 a6 a7 a8 a9 a10 a11:Option D}{k:St2->Prop}:hName 12 d (a0::a1::a2::a3::a4::a5::a6::a7::a8::a9::a10::a11::o::τ) k=k (a0::a1::a2::a3::a4::a5::a6::a7::a8::a9::a10::a11::some d::τ):=rfl
theorem r_v13 {a0 a1 a2 a3 a4 a5 a6 a7 a8 a9 a10 a11 a12:Option D}:uVar 13 (a0::a1::a2::a3::a4::a5::a6::a7::a8::a9::a10::a11::a12::some d::τ) M Q=Q d M:=rfl
theorem r_s13 {a0 a1 a2 a3 a4 a5 a6 a7 a8 a9 a10 a11 a12:Option D}:uSet 13 te E (a0::a1::a2::a3::a4::a5::a6::a7::a8::a9::a10::a11::a12::o::τ) M=te (a0::a1::a2::a3::a4::a5::a6::a7::a8::a9::a10::a11::a12::o::τ) M fun x M1=>E.nx (a0::a1::a2::a3::a4::a5::a6::a7::a8::a9::a10::a11::a12::some x::τ) M1:=rfl
theorem r_n13 {a0 a1 a2 a3 a4 a5 a6 a7 a8 a9 a10 a11 a12:Option D}{k:St2->Prop}:hName 13 d (a0::a1::a2::a3::a4::a5::a6::a7::a8::a9::a10::a11::a12::o::τ) k=k (a0::a1::a2::a3::a4::a5::a6::a7::a8::a9::a10::a11::a12::some d::τ):=rfl
theorem r_v14 {a0 a1 a2 a3 a4 a5 a6 a7 a8 a9 a10 a11 a12 a13:Option D}:uVar 14 (a0::a1::a2::a3::a4::a5::a6::a7::a8::a9::a10::a11::a12::a13::some d::τ) M Q=Q d M:=rfl
theorem r_s14 {a0 a1 a2 a3 a4 a5 a6 a7 a8 a9 a10 a11 a12 a13:Option D}:uSet 14 te E (a0::a1::a2::a3::a4::a5::a6::a7::a8::a9::a10::a11::a12::a13::o::τ) M=te (a0::a1::a2::a3::a4::a5::a6::a7::a8::a9::a10::a11::a12::a13::o::τ) M fun x M1=>E.nx (a0::a1::a2::a3::a4::a5::a6::a7::a8::a9::a10::a11::a12::a13::some x::τ) M1:=rfl
theorem r_n14 {a0 a1 a2 a3 a4 a5 a6 a7 a8 a9 a10 a11 a12 a13:Option D}{k:St2->Prop}:hName 14 d (a0::a1::a2::a3::a4::a5::a6::a7::a8::a9::a10::a11::a12::a13::o::τ) k=k (a0::a1::a2::a3::a4::a5::a6::a7::a8::a9::a10::a11::a12::a13::some d::τ):=rfl
theorem r_v15 {a0 a1 a2 a3 a4 a5 a6 a7 a8 a9 a10 a11 a12 a13 a14:Option D}:uVar 15 (a0::a1::a2::a3::a4::a5::a6::a7::a8::a9::a10::a11::a12::a13::a14::some d::τ) M Q=Q d M:=rfl
theorem r_s15 {a0 a1 a2 a3 a4 a5 a6 a7 a8 a9 a10 a11 a12 a13 a14:Option D}:uSet 15 te E (a0::a1::a2::a3::a4::a5::a6::a7::a8::a9::a10::a11::a12::a13::a14::o::τ) M=te (a0::a1::a2::a3::a4::a5::a6::a7::a8::a9::a10::a11::a12::a13::a14::o::τ) M fun x M1=>E.nx (a0::a1::a2::a3::a4::a5::a6::a7::a8::a9::a10::a11::a12::a13::a14::some x::τ) M1:=rfl
theorem r_n15 {a0 a1 a2 a3 a4 a5 a6 a7 a8 a9 a10 a11 a12 a13 a14:Option D}{k:St2->Prop}:hName 15 d (a0::a1::a2::a3::a4::a5::a6::a7::a8::a9::a10::a11::a12::a13::a14::o::τ) k=k (a0::a1::a2::a3::a4::a5::a6::a7::a8::a9::a10::a11::a12::a13::a14::some d::τ):=rfl
theorem r_c:uC d τ M Q=Q d M:=rfl
theorem r_op {r:R22}:uOp r ta tb τ M Q=ta τ M fun x M1=>tb τ M1 fun y M2=>r x y M2 Q:=rfl
theorem r_test:uTest te τ M QT=te τ M fun x M1=>onB x fun c=>QT c M1:=rfl
theorem r_and:uAnd t1 t2 τ M QT=t1 τ M fun c M1=>if c=true then t2 τ M1 QT else QT false M1:=rfl
theorem r_or:uOr t1 t2 τ M QT=t1 τ M fun c M1=>if c=true then QT true M1 else t2 τ M1 QT:=rfl
theorem r_not:uNot t1 τ M QT=t1 τ M fun c M1=>QT (!c) M1:=rfl
theorem r_cs {ds:List D}:uCs ds τ M QA=QA ds M:=rfl
theorem r_nil:uNil τ M QA=QA [] M:=rfl
theorem r_cons:uCons te tA τ M QA=te τ M fun x M1=>tA τ M1 fun xs M2=>QA (x::xs) M2:=rfl
theorem r_tup:uTup tA τ M Q=tA τ M fun xs M1=>xs.length<=sizeLine/\Q (.tup xs) M1:=rfl
theorem r_lstF:uLstF tA τ M Q=tA τ M fun xs M1=>xs.length<=sizeLine/\Q (.lst xs) M1:=rfl
theorem r_lst:uLst tA τ M Q=tA τ M fun xs M1=>xs.length<=sizeLine/\∀ p,M1 p=none->Q (.ref p) (put M1 p (.lst xs)):=rfl
theorem r_cb {r:List D->Mp->VK2->Prop}:uCB r tA τ M Q=tA τ M fun xs M1=>r xs M1 Q:=rfl
theorem r_call {sp:Sp2}:uCall sp tA τ M Q=tA τ M fun xs M1=>sp xs M1 Q:=rfl
theorem r_nopart:uNoPart τ M QO=QO none M:=rfl
theorem r_part:uPart te τ M QO=te τ M fun x M1=>onI x fun i=>QO (some i) M1:=rfl
theorem r_sl {r:D->Option Int->Option Int->Mp->VK2->Prop}{tl th:TO2}:uSl r te tl th τ M Q=te τ M fun x M1=>tl τ M1 fun l M2=>th τ M2 fun u M3=>r x l u M3 Q:=rfl
theorem r_next:uNext E τ M=E.nx τ M:=rfl
theorem r_seq:uSeq s1 s2 E τ M=s1 { E with nx:=s2 E } τ M:=rfl
theorem r_drop:uDrop te E τ M=te τ M fun _ M1=>E.nx τ M1:=rfl
theorem r_ret:uRet te E τ M=te τ M E.rt:=rfl
theorem r_ifS:uIfS tt s1 s2 E τ M=tt τ M fun b M1=>if b=true then s1 E τ M1 else s2 E τ M1:=rfl
theorem r_for {ti:TI2}{g:TG2}:uFor ti g s1 E τ M=ti τ M fun xs S M1=>Loop xs S g s1 E τ M1:=rfl
theorem r_wlist {R:List D->(Mp->Prop)->Mp->Prop}:wList te τ M R=te τ M fun x M1=>onO (lsOf M1 x) fun xs=>R xs (fun M=>lsOf M x=some xs) M1:=rfl
theorem r_wrng1 {R:List D->(Mp->Prop)->Mp->Prop}:wRng1 tA τ M R=tA τ M fun xs M1=>on1 xs fun x=>onI x fun j=>(-(2^62)<=j/\j<2^62)/\R (rngD 0 j.toNat) (fun _=>True) M1:=rfl
theorem r_wrng2 {R:List D->(Mp->Prop)->Mp->Prop}:wRng2 tA τ M R=tA τ M fun xs M1=>on2 xs fun x y=>onI x fun i=>onI y fun j=>(-(2^62)<=i/\i<2^62/\-(2^62)<=j/\j<2^62)/\R (rngD i (j-i).toNat) (fun _=>True) M1:=rfl
theorem r_bm {T:String}{r:D->List D->Mp->VK2->Prop}:uBM T r te tA τ M Q=te τ M fun x M1=>tyD M1 x=some T/\tA τ M1 fun xs M2=>r x xs M2 Q:=rfl
theorem r_true:uTrue τ M QT=QT true M:=rfl
end
section
variable {M:Mp}{Q:VK2}{x y:D}{i j:Int}{b:Bool}{z:Str}{p:Addr}{xs ys:List D}
theorem r_onI {k:Int->Prop}:onI (.int i) k=k i:=rfl
theorem r_onB {k:Bool->Prop}:onB (.bl b) k=k b:=rfl
theorem r_onS {k:Str->Prop}:onS (.str z) k=k z:=rfl
theorem r_onR {k:Addr->Prop}:onR (.ref p) k=k p:=rfl
theorem r_onO {α:Type}{a:α}{k:α->Prop}:onO (some a) k=k a:=rfl
theorem r_slS {l u:Option Int}:sSlS x l u M Q=onS x fun z=>z.length<=sizeLine/\Q (.str (PySem.Txt.slice z l u)) M:=rfl
theorem r_on1 {k:D->Prop}:on1 [x] k=k x:=rfl
theorem r_on2 {k:D->D->Prop}:on2 [x,y] k=k x y:=rfl
theorem r_sI {C:Int->Int->Prop}{g:Int->Int->D}:sI C g (.int i) (.int j) M Q=(C i j/\Q (g i j) M):=rfl
theorem r_sI0 {g:Int->Int->D}:sI0 g (.int i) (.int j) M Q=Q (g i j) M:=rfl
theorem r_sU {g:Int->D}:sU g (.int i) M Q=Q (g i) M:=rfl
theorem r_eqI:sEq false (.int i) (.int j) M Q=(true=true/\Q (.bl (decide (i=j))) M):=rfl
theorem r_neI:sEq true (.int i) (.int j) M Q=(true=true/\Q (.bl (!decide (i=j))) M):=rfl
theorem r_eqS {z':Str}:sEq false (.str z) (.str z') M Q=(true=true/\Q (.bl (decide (z=z'))) M):=rfl
theorem r_neS {z':Str}:sEq true (.str z) (.str z') M Q=(true=true/\Q (.bl (!decide (z=z'))) M):=rfl
theorem r_eqB {b':Bool}:sEq false (.bl b) (.bl b') M Q=(true=true/\Q (.bl (b == b')) M):=rfl
theorem r_neB {b':Bool}:sEq true (.bl b) (.bl b') M Q=(true=true/\Q (.bl (!(b == b'))) M):=rfl
theorem r_isi {c c':String}:sIsi c [x,.ty c'] M Q=(c'=c/\onO (tyD M x) fun t=>onO (isiD t c) fun b=>Q (.bl b) M):=rfl
theorem r_ixT:sIxT (.tup xs) (.int i) M Q=onO (atI xs i) fun v=>Q v M:=rfl
theorem r_ixL:sIxL x y M Q=onO (lsOf M x) fun xs=>onI y fun i=>onO (atI xs i) fun v=>Q v M:=rfl
theorem r_slF {l u:Option Int}:sSlF x l u M Q=onO (lsOf M x) fun xs=>Q (.lst (cutD xs l u)) M:=rfl
theorem r_eqTT {n:Bool}:sEqS n (.tup xs) (.tup ys) M Q=onO (cmpL (cmpD M 40) xs ys) fun b=>Q (.bl (if n then !b else b)) M:=rfl
theorem r_eqLL {n:Bool}:sEqS n (.lst xs) (.lst ys) M Q=onO (cmpL (cmpD M 40) xs ys) fun b=>Q (.bl (if n then !b else b)) M:=rfl
theorem r_eqRx {n:Bool}:sEqS n (.ref p) y M Q=onO (lsOf M (.ref p)) fun xs=>onO (lsOf M y) fun ys=>onO (cmpL (cmpD M 40) xs ys) fun b=>Q (.bl (if n then !b else b)) M:=rfl
theorem r_eqLx {n:Bool}:sEqS n (.lst xs) y M Q=onO (lsOf M y) fun ys=>onO (cmpL (cmpD M 40) xs ys) fun b=>Q (.bl (if n then !b else b)) M:=rfl
theorem r_flint:flatD (.int i)=true:=rfl
theorem r_flstr:flatD (.str z)=true:=rfl
theorem r_flbl:flatD (.bl b)=true:=rfl
theorem r_flnon:flatD .non=true:=rfl
theorem r_eqFi:eqF (.int i) (.int j)=decide (i=j):=rfl
theorem r_eqFs {z':Str}:eqF (.str z) (.str z')=decide (z=z'):=rfl
theorem r_in {n:Bool}:sIn n x y M Q=onO (sqOf M y) fun ys=>ys.all flatD=true/\flatD x=true/\Q (.bl (if n then !(ys.any fun z=>eqF z x) else ys.any fun z=>eqF z x)) M:=rfl
theorem r_lsL:lsOf M (.lst xs)=some xs:=rfl
theorem r_sqL:sqOf M (.lst xs)=some xs:=rfl
theorem r_sqT:sqOf M (.tup xs)=some xs:=rfl
theorem r_lsP:lsOf (put M p (.lst xs)) (.ref p)=some xs:=by simp [lsOf,put_same]
theorem r_sqP:sqOf (put M p (.lst xs)) (.ref p)=some xs:=by simp [sqOf,lsOf,put_same]
theorem r_tybool:tyD M (.bl b)=some "bool":=rfl
theorem r_tyint:tyD M (.int i)=some "int":=rfl
theorem r_tystr:tyD M (.str z)=some "str":=rfl
theorem r_tytuple:tyD M (.tup xs)=some "tuple":=rfl
theorem r_tylist:tyD M (.lst xs)=some "list":=rfl
theorem r_tynon:tyD M .non=some "NoneType":=rfl
theorem r_typ:tyD (put M p (.lst xs)) (.ref p)=some "list":=by simp [tyD,put_same]
theorem r_is_int_int:isiD "int" "int" = some true:=by decide +kernel
theorem r_is_int_bool:isiD "int" "bool" = some false:=by decide +kernel
theorem r_is_int_str:isiD "int" "str" = some false:=by decide +kernel
theorem r_is_int_list:isiD "int" "list" = some false:=by decide +kernel
theorem r_is_int_tuple:isiD "int" "tuple" = some false:=by decide +kernel
theorem r_is_int_dict:isiD "int" "dict" = some false:=by decide +kernel
theorem r_is_bool_int:isiD "bool" "int" = some true:=by decide +kernel
theorem r_is_bool_bool:isiD "bool" "bool" = some true:=by decide +kernel
theorem r_is_str_int:isiD "str" "int" = some false:=by decide +kernel
theorem r_is_str_bool:isiD "str" "bool" = some false:=by decide +kernel
theorem r_is_str_str:isiD "str" "str" = some true:=by decide +kernel
theorem r_is_str_list:isiD "str" "list" = some false:=by decide +kernel
theorem r_is_str_tuple:isiD "str" "tuple" = some false:=by decide +kernel
theorem r_is_str_dict:isiD "str" "dict" = some false:=by decide +kernel
theorem r_is_list_int:isiD "list" "int" = some false:=by decide +kernel
theorem r_is_list_bool:isiD "list" "bool" = some false:=by decide +kernel
theorem r_is_list_str:isiD "list" "str" = some false:=by decide +kernel
theorem r_is_list_list:isiD "list" "list" = some true:=by decide +kernel
theorem r_is_list_tuple:isiD "list" "tuple" = some false:=by decide +kernel
theorem r_is_list_dict:isiD "list" "dict" = some false:=by decide +kernel
theorem r_is_tuple_int:isiD "tuple" "int" = some false:=by decide +kernel
theorem r_is_tuple_bool:isiD "tuple" "bool" = some false:=by decide +kernel
theorem r_is_tuple_str:isiD "tuple" "str" = some false:=by decide +kernel
theorem r_is_tuple_list:isiD "tuple" "list" = some false:=by decide +kernel
theorem r_is_tuple_tuple:isiD "tuple" "tuple" = some true:=by decide +kernel
theorem r_is_tuple_dict:isiD "tuple" "dict" = some false:=by decide +kernel
theorem r_is_dict_int:isiD "dict" "int" = some false:=by decide +kernel
theorem r_is_dict_bool:isiD "dict" "bool" = some false:=by decide +kernel
theorem r_is_dict_str:isiD "dict" "str" = some false:=by decide +kernel
theorem r_is_dict_list:isiD "dict" "list" = some false:=by decide +kernel
theorem r_is_dict_tuple:isiD "dict" "tuple" = some false:=by decide +kernel
theorem r_is_dict_dict:isiD "dict" "dict" = some true:=by decide +kernel
theorem r_is_NoneType_int:isiD "NoneType" "int" = some false:=by decide +kernel
theorem r_is_NoneType_bool:isiD "NoneType" "bool" = some false:=by decide +kernel
theorem r_is_NoneType_str:isiD "NoneType" "str" = some false:=by decide +kernel
theorem r_is_NoneType_list:isiD "NoneType" "list" = some false:=by decide +kernel
theorem r_is_NoneType_tuple:isiD "NoneType" "tuple" = some false:=by decide +kernel
theorem r_is_NoneType_dict:isiD "NoneType" "dict" = some false:=by decide +kernel
theorem at0 {α:Type}{x:α}{xs:List α}:atI (x::xs) 0=some x:=atI_nat (j:=0) rfl
theorem at1 {α:Type}{x y:α}{xs:List α}:atI (x::y::xs) 1=some y:=atI_nat (j:=1) rfl
theorem at2 {α:Type}{x y z:α}{xs:List α}:atI (x::y::z::xs) 2=some z:=atI_nat (j:=2) rfl
theorem at3 {α:Type}{x y z w:α}{xs:List α}:atI (x::y::z::w::xs) 3=some w:=atI_nat (j:=3) rfl
theorem at4 {α:Type}{x y z w v:α}{xs:List α}:atI (x::y::z::w::v::xs) 4=some v:=atI_nat (j:=4) rfl
theorem r_app:sAppend (.ref p) [x] (put M p (.lst xs)) Q=(xs.length<sizeLine/\Q .non (put M p (.lst (xs++[x])))):=by simp [sAppend,onR,on1,put_same,put_put]
theorem st_c {n:Str}{N:List Str}{d:D}{ds:List D}:startL (n::N) (d::ds)=some d::startL N ds:=rfl
theorem st_n {n:Str}{N:List Str}:startL (n::N) []=none::startL N []:=rfl
theorem st_e:startL [] []=[]:=rfl
theorem r_cap {τ:St2}{caps:List (Str×Nat)}{v:Option D}:cap2 τ caps v=v::caps.map fun c=>(τ[c.2]?).join:=rfl
end
theorem cut1_0 {x:D}{r:List D}:cutD (x::r) (some 1) (some 1)=[]:=by
 unfold cutD
 rw [show (some (1:Int))=some ((1:Nat):Int) from rfl,HT.sIx_nat,HT.sIx_nat,Nat.sub_self,List.take_zero]
theorem cut1_k {x:D}{ks more:List D}{k:Int}(h:k=1+(ks.length:Int)):cutD (x::(ks++more)) (some 1) (some k)=ks:=by
 subst h
 unfold cutD
 have e1:HT.sIx (x::(ks++more)).length 0 (some 1)=1:=by
  rw [show (some (1:Int))=some ((1:Nat):Int) from rfl,HT.sIx_nat,List.length_cons]
  omega
 have e2:HT.sIx (x::(ks++more)).length (x::(ks++more)).length (some (1+(ks.length:Int)))=1+ks.length:=by
  rw [show (1+(ks.length:Int))=((1+ks.length:Nat):Int) by omega,HT.sIx_nat,List.length_cons,List.length_append]
  omega
 rw [e1,e2,List.drop_succ_cons,List.drop_zero,Nat.add_sub_cancel_left,List.take_left]
theorem cut1_1 {x a:D}{r:List D}:cutD (x::a::r) (some 1) (some 2)=[a]:=cut1_k (ks:=[a]) rfl
theorem cut1_2 {x a b:D}{r:List D}:cutD (x::a::b::r) (some 1) (some 3)=[a,b]:=cut1_k (ks:=[a,b]) rfl
theorem cut1_3 {x a b c:D}{r:List D}:cutD (x::a::b::c::r) (some 1) (some 4)=[a,b,c]:=cut1_k (ks:=[a,b,c]) rfl
theorem sIx1 {n:Nat}:HT.sIx (n+1) 0 (some 1)=1:=by
 rw [show (some (1:Int))=some ((1:Nat):Int) from rfl,HT.sIx_nat]
 omega
theorem map_got {α:Type}{g:α->D}{xs:List α}{i:Nat}{d:D}(h:(xs.map g)[i]? = some d):∃ x,xs[i]? = some x/\d=g x:=by
 rw [List.getElem?_map] at h
 cases e:xs[i]? with
 | none=>rw [e] at h;cases h
 | some x=>rw [e] at h;exact ⟨x,rfl,(Option.some.inj h).symm⟩
theorem cmpL_ints (M:Mp) (n:Nat):∀ ns ms:List Int,cmpL (cmpD M n) (ns.map D.int) (ms.map D.int)=some (decide (ns=ms))
 | [],[]=>by simp [cmpL]
 | [],_::_=>by simp [cmpL]
 | _::_,[]=>by simp [cmpL]
 | x::xs,y::ys=>by
  rw [List.map_cons,List.map_cons,cmpL,cmpL_ints M n xs ys]
  have e:cmpD M n (.int x) (.int y)=some (decide (x=y)):=by cases n<;>rfl
  rw [e]
  simp
theorem cmpD_int (M:Mp) (n:Nat) (a b:Int):cmpD M n (.int a) (.int b)=some (decide (a=b)):=by cases n<;>rfl
theorem cmpD_str (M:Mp) (n:Nat) (a b:Str):cmpD M n (.str a) (.str b)=some (decide (a=b)):=by cases n<;>rfl
theorem cmpL_ii (M:Mp) (n:Nat) (a b:Int) (xs ys:List D):cmpL (cmpD M n) (.int a::xs) (.int b::ys)=(cmpL (cmpD M n) xs ys).map (decide (a=b) && ·):=by
 rw [cmpL,cmpD_int]
 cases cmpL (cmpD M n) xs ys<;>rfl
theorem cmpL_ss (M:Mp) (n:Nat) (a b:Str) (xs ys:List D):cmpL (cmpD M n) (.str a::xs) (.str b::ys)=(cmpL (cmpD M n) xs ys).map (decide (a=b) && ·):=by
 rw [cmpL,cmpD_str]
 cases cmpL (cmpD M n) xs ys<;>rfl
theorem cmpL_nn {f:D->D->Option Bool}:cmpL f [] []=some true:=rfl
theorem cst0:((0:Nat):Int)=0:=rfl
theorem cst1:((1:Nat):Int)=1:=rfl
theorem cst2:((2:Nat):Int)=2:=rfl
theorem cst3:((3:Nat):Int)=3:=rfl
theorem cst4:((4:Nat):Int)=4:=rfl
theorem cst5:((5:Nat):Int)=5:=rfl
theorem cst6:((6:Nat):Int)=6:=rfl
theorem cst7:((7:Nat):Int)=7:=rfl
theorem cst8:((8:Nat):Int)=8:=rfl
theorem cst9:((9:Nat):Int)=9:=rfl
theorem cst10:((10:Nat):Int)=10:=rfl
theorem cst11:((11:Nat):Int)=11:=rfl
theorem cst12:((12:Nat):Int)=12:=rfl
theorem cmpL_nil (M:Mp) (n:Nat) (xs:List D):cmpL (cmpD M n) xs []=some xs.isEmpty:=by cases xs<;>rfl
theorem none_of {M M':Mp}{p:Addr}(s:Sub M M') (h:M' p=none):M p=none:=by
 cases e:M p with
 | none=>rfl
 | some o=>rw [s p o e] at h;cases h
theorem sz1 {n:Nat}(h:n<=1000):n<=sizeLine:=Nat.le_of_lt (small1000 h)
theorem szl {n:Nat}(h:n<=1000):(n<=sizeLine)=True:=eq_true (sz1 h)
theorem szlt {n:Nat}(h:n<=1000):(n<sizeLine)=True:=eq_true (small1000 h)
section
variable {P:Program}{w:World}{K:PySem.W.Frag}{mg:Str->Option Value}{base:Heap}{x qual:Str}{st:Stmt}{f:Addr}{fd:FuncData}{N ps:List Str}{k:Nat}
theorem Fun.o1 {B:D->Mp->VK2->Prop}(F:Fun K x qual st f fd) (S:FnScope N ps (dfS st))
  (hb:∀ (cdv:Value) (A:Around) (outer:List Env) (s:Shared) (H:Hp) (E:XK) (d0:D) (M:Mp) (Q:VK2),Room k (A.deeper (envOfC qual (dfS st) s.heap.objs.size f cdv))->B d0 M Q ->
   ∃ t:TS2,PSs2 (cxOf CX0 P w K mg base N qual (dfS st) f cdv A outer s H E).nox (dfB st) t/\t { nx:=fun _ M'=>Dn Q .non M',rt:=Dn Q } (startL N [d0]) M) (hl:ps.length=1:=by rfl):FnOk P w K mg base CX0 (k+1) f fd ps (lSp K fun ds M Q=>on1 ds fun d0=>B d0 M Q) :=
 Fun.ok2 F S (fun ds M Q h=>by obtain ⟨d0,rfl,_⟩:=of_1 h;exact hl.symm) fun cdv A outer s H E ds M Q hr h=>by
  obtain ⟨d0,rfl,h⟩:=of_1 h
  exact hb cdv A outer s H E d0 M Q hr h
theorem Fun.o2 {B:D->D->Mp->VK2->Prop}(F:Fun K x qual st f fd) (S:FnScope N ps (dfS st))
  (hb:∀ (cdv:Value) (A:Around) (outer:List Env) (s:Shared) (H:Hp) (E:XK) (d0 d1:D) (M:Mp) (Q:VK2),Room k (A.deeper (envOfC qual (dfS st) s.heap.objs.size f cdv))->B d0 d1 M Q ->
   ∃ t:TS2,PSs2 (cxOf CX0 P w K mg base N qual (dfS st) f cdv A outer s H E).nox (dfB st) t/\t { nx:=fun _ M'=>Dn Q .non M',rt:=Dn Q } (startL N [d0,d1]) M) (hl:ps.length=2:=by rfl):FnOk P w K mg base CX0 (k+1) f fd ps (lSp K fun ds M Q=>on2 ds fun d0 d1=>B d0 d1 M Q) :=
 Fun.ok2 F S (fun ds M Q h=>by obtain ⟨d0,d1,rfl,_⟩:=of_2 h;exact hl.symm) fun cdv A outer s H E ds M Q hr h=>by
  obtain ⟨d0,d1,rfl,h⟩:=of_2 h
  exact hb cdv A outer s H E d0 d1 M Q hr h
theorem Fun.o3 {B:D->D->D->Mp->VK2->Prop}(F:Fun K x qual st f fd) (S:FnScope N ps (dfS st))
  (hb:∀ (cdv:Value) (A:Around) (outer:List Env) (s:Shared) (H:Hp) (E:XK) (d0 d1 d2:D) (M:Mp) (Q:VK2),Room k (A.deeper (envOfC qual (dfS st) s.heap.objs.size f cdv))->B d0 d1 d2 M Q ->
   ∃ t:TS2,PSs2 (cxOf CX0 P w K mg base N qual (dfS st) f cdv A outer s H E).nox (dfB st) t/\t { nx:=fun _ M'=>Dn Q .non M',rt:=Dn Q } (startL N [d0,d1,d2]) M) (hl:ps.length=3:=by rfl):FnOk P w K mg base CX0 (k+1) f fd ps (lSp K fun ds M Q=>on3 ds fun d0 d1 d2=>B d0 d1 d2 M Q) :=
 Fun.ok2 F S (fun ds M Q h=>by obtain ⟨d0,d1,d2,rfl,_⟩:=of_3 h;exact hl.symm) fun cdv A outer s H E ds M Q hr h=>by
  obtain ⟨d0,d1,d2,rfl,h⟩:=of_3 h
  exact hb cdv A outer s H E d0 d1 d2 M Q hr h
theorem Fun.o4 {B:D->D->D->D->Mp->VK2->Prop}(F:Fun K x qual st f fd) (S:FnScope N ps (dfS st))
  (hb:∀ (cdv:Value) (A:Around) (outer:List Env) (s:Shared) (H:Hp) (E:XK) (d0 d1 d2 d3:D) (M:Mp) (Q:VK2),Room k (A.deeper (envOfC qual (dfS st) s.heap.objs.size f cdv))->B d0 d1 d2 d3 M Q ->
   ∃ t:TS2,PSs2 (cxOf CX0 P w K mg base N qual (dfS st) f cdv A outer s H E).nox (dfB st) t/\t { nx:=fun _ M'=>Dn Q .non M',rt:=Dn Q } (startL N [d0,d1,d2,d3]) M) (hl:ps.length=4:=by rfl):FnOk P w K mg base CX0 (k+1) f fd ps (lSp K fun ds M Q=>on4 ds fun d0 d1 d2 d3=>B d0 d1 d2 d3 M Q) :=
 Fun.ok2 F S (fun ds M Q h=>by obtain ⟨d0,d1,d2,d3,rfl,_⟩:=of_4 h;exact hl.symm) fun cdv A outer s H E ds M Q hr h=>by
  obtain ⟨d0,d1,d2,d3,rfl,h⟩:=of_4 h
  exact hb cdv A outer s H E d0 d1 d2 d3 M Q hr h
end
end L3
namespace SH
open PySem PySem.W PySem.Calls PyProof.Rows
def alt {α:Type}:List α->List α
 | a::_::l=>a::alt l
 | [a]=>[a]
 | []=>[]
theorem alt_get {α:Type}:∀ (l:List α) (i:Nat),(alt l)[i]? = l[2*i]?
 | [],i=>by simp [alt]
 | [a],0=>by simp [alt]
 | [a],i+1=>by simp [alt,Nat.mul_add]
 | a::b::l,0=>by simp [alt]
 | a::b::l,i+1=>by simp only [alt,List.getElem?_cons_succ,Nat.mul_add,Nat.mul_one];exact alt_get l i
theorem alt_len {α:Type}:∀ (l:List α),(alt l).length=(l.length+1) / 2
 | []=>by simp [alt]
 | [a]=>by simp [alt]
 | a::b::l=>by simp only [alt,List.length_cons,alt_len l];omega
def ofL:Nat->List Obj->BT
 | 0,_=>.nil
 | _+1,[]=>.nil
 | n+1,o::l=>.node o (ofL n (alt l)) (ofL n (alt l.tail))
theorem ofL_get:∀ (n:Nat) (l:List Obj),l.length<2^n->∀ i,(ofL n l).get i=l[i]?
 | 0,l,h,i=>by
  have:l=[]:=List.length_eq_zero_iff.mp (by simpa using h)
  subst this;simp [ofL,BT.get]
 | n+1,[],_,i=>by simp [ofL,BT.get]
 | n+1,o::l,h,i=>by
  have hl:l.length+1<2^n*2:=by simpa [Nat.pow_succ] using h
  have ha:(alt l).length<2^n:=by rw [alt_len];omega
  have hb:(alt l.tail).length<2^n:=by rw [alt_len,List.length_tail];omega
  unfold ofL
  rw [BT.get_node,ofL_get n _ ha,ofL_get n _ hb,alt_get,alt_get]
  by_cases h0:i=0
  ·subst h0;simp
  ·rw [if_neg h0]
   by_cases p:i%2=1
   ·rw [if_pos p,show 2*(i / 2)=i-1 by omega,List.getElem?_cons]
    simp [h0]
   ·rw [if_neg p,List.getElem?_tail,show 2*(i / 2-1)+1=i-1 by omega,List.getElem?_cons]
    simp [h0]
theorem abs_ofL {n:Nat}{l:List Obj}{life:Life}(h:l.length<2^n):absHeap (ofL n l) l.length life=⟨l.toArray,life⟩:=by
 have:((ofL n l).list l.length)=l:=by
  apply List.ext_getElem?
  intro i
  unfold BT.list
  rw [List.getElem?_map]
  by_cases hi:i<l.length
  ·rw [List.getElem?_range hi,Option.map_some,ofL_get n l h,List.getElem?_eq_getElem hi];rfl
  ·rw [List.getElem?_eq_none (by rw [List.length_range];omega),List.getElem?_eq_none (by omega)];rfl
 unfold absHeap
 rw [this]
def topRunT (tb:String->Option Builtin) (p:Program) (w:World) (n₀:Nat) (ann:Option Value):Nat->SharedT->Thread->Option SharedT
 | 0,_,_=>none
 | n+1,s,t=>match through t with
  | true=>some s
  | false=>match stepOk n₀ ann t with
   | false=>none
   | true=>match stepT (denote tb) p w s t with
    | some (s',t')=>topRunT tb p w n₀ ann n s' t'
    | none=>none
theorem topRun_of {tb:String->Option Builtin}{p:Program}{w:World}{n₀:Nat}{ann:Option Value}:∀ {n:Nat}{s s':SharedT}{t:Thread},topRunT tb p w n₀ ann n s t=some s'->topRun tb p w n₀ ann n s.abs t=some s'.abs
 | 0,_,_,_,h=>by cases h
 | n+1,s,s',t,h=>by
  unfold topRunT at h
  unfold topRun
  cases he:through t with
  | true=>rw [he] at h;cases h;rfl
  | false =>
   rw [he] at h
   cases hk:stepOk n₀ ann t with
   | false=>rw [hk] at h;cases h
   | true =>
    rw [hk] at h
    cases hs:stepT (denote tb) p w s t with
    | none=>rw [hs] at h;cases h
    | some r=>obtain ⟨s₂,t₂⟩:=r;rw [hs] at h;rw [stepT_spec hs];exact topRun_of h
noncomputable def boot (H₀:Heap) (os:OsState):SharedT:=⟨ofL 14 H₀.objs.toList,H₀.objs.toList.length,H₀.life,#[],boot_drawn,boot_toks,os⟩
theorem boot_abs (H₀:Heap) (os:OsState) (h:Nat.blt H₀.objs.toList.length (2^14)=true):(boot H₀ os).abs=⟨H₀,#[],boot_drawn,boot_toks,os⟩:=by
 unfold boot SharedT.abs
 dsimp only
 rw [abs_ofL (Nat.le_of_ble_eq_true h)]
noncomputable def looks (p q:Program) (loose:List Str) (Xt:Shared->Bool) {α:Type} (Yf:Shared->α) (H₀:Heap) (s:Shared) :=
 (staticsOk (importedModules p.main.body) H₀ s.heap && namesBound p s.heap && gensDone s && laidKept H₀ s.heap,openSeen q loose (importedModules p.main.body) Xt true s,Yf s)
noncomputable def whole (H₀:Heap) (p q:Program) (loose:List Str) (Xt:Shared->Bool) {α:Type} (Yf:Shared->α) (n₀:Nat) (ann:Option Value) (M:Nat) (w:World) (os:OsState) :=
 (topRunT treeTable p w n₀ ann M (boot H₀ os) (topStub p)).map fun s=>looks p q loose Xt Yf H₀ s.abs
theorem left_of {p q:Program}{loose:List Str}{Xt:Shared->Bool}{α:Type}{Yf:Shared->α}{Ya:World->α}{N M n₀:Nat}{ann:Option Value}
  (e:opening p=plainProg p.main.scope.names) (hN:Nat.ble 600 N=true) (f:∀ s,fenceModules? p s=some s) (hb:∀ P:Params,Nat.blt (boot_heap P).objs.toList.length (2^14)=true)
  (size:∀ w:World,((boot_heap w.params).isNs mainGlobals && (#[]:Array GenState).size == 0,(boot_heap w.params).objs.size,(boot_heap w.params).nsMap mainGlobals "__annotations__")=(true,n₀,ann)) (le:Nat.ble M N=true)
  (run:∀ (w:World) (os:OsState),whole (boot_heap w.params) p q loose Xt Yf n₀ ann M w os=some (true,openGood q loose,Ya w)):LeftO p q loose Xt Yf Ya N:=fun w=>by
 obtain ⟨⟨h,gs,d,k,os⟩,e,e'⟩:=Option.map_eq_some_iff.mp (boot_open (N:=N) e hN f w)
 obtain ⟨rfl,rfl,rfl,rfl⟩:h=boot_heap w.params/\gs=#[]/\d=boot_drawn/\k=boot_toks:=by simpa using e'
 obtain ⟨z1,z2,z3⟩:_/\_/\_:=by simpa only [Prod.mk.injEq] using size w
 obtain ⟨s,hs,l⟩:=Option.map_eq_some_iff.mp (run w os)
 have r:=topRun_of hs
 rw [boot_abs _ _ (hb _)] at r
 have l1:(_ && _)=true:=congrArg Prod.fst l
 have l2:=congrArg (fun x=>x.2.1) l
 have l3:=congrArg (fun x=>x.2.2) l
 have r:=topRun_mono (N-M) _ _ _ _ r
 rw [show M+(N-M)=N by have:=Nat.le_of_ble_eq_true le;omega] at r
 have t:topFrom treeTable p w N ⟨boot_heap w.params,#[],boot_drawn,boot_toks,os⟩=some s.abs:=by
  unfold topFrom
  dsimp only
  rw [z1,z2,z3,r]
  show (match staticsOk (importedModules p.main.body) (boot_heap w.params) s.abs.heap && namesBound p s.abs.heap && gensDone s.abs && laidKept (boot_heap w.params) s.abs.heap with | true=>_ | false=>_)=_
  rw [l1]
 unfold openEnds
 rw [e]
 show (topFrom treeTable p w N _).map _=_
 rw [t]
 exact congrArg some (Prod.ext l2 l3)
end SH
namespace L3
open PySem PySem.Spec PyProof.Rows L2
section
variable {X:Cx}
unseal CallR2
end
end L3
namespace L2
open PySem PySem.Spec PyProof.Rows
end L2
namespace L3
open PySem PySem.Spec PyProof.Rows L2
unseal PE2 PT2 PW2 PA2 PO2 PS2 PSs2 OpR2 UnR2 CallR2 IxR2 SlR2 PG2 PI2 MtR2
variable {X:Cx}
end L3
namespace L2
open PySem PySem.Spec PyProof.Rows
section
variable {prog:Program}{w:World}{A:Around}{E:Value->Shared->Prop}{s:Shared}{r:Addr}{a b:Int}{t u v:Tok}{Q:Value->Shared->Prop}
end
end L2
namespace L3
open PySem PySem.Spec PyProof.Rows L2
unseal PE2 PT2 PW2 PA2 PO2 PS2 PSs2 OpR2 UnR2 CallR2 IxR2 SlR2 PG2 PI2 MtR2
variable {X:Cx}
end L3
namespace L3
open PySem PySem.Spec PyProof.Rows L2
section
variable {X:Cx}{pins:List (Addr×Obj)}{σ:St}{H:Hp}{s:Shared}{a:Addr}{kvs:List (Key×V)}{A:Around}{E:Value->Shared->Prop}
end
section
variable {X:Cx}
unseal MtR2 PE2 PA2
end
unseal OpR2
end L3
namespace L2
open PySem PySem.Spec PyProof.Rows
section
variable {X:Cx}{e st:Expr}{te:TE}{lo hi:Option Expr}{tl th tk:TO}{pos p2:Pos}
end
end L2
namespace L3
open PySem PySem.Spec PyProof.Rows L2
unseal PE2 PT2 PW2 PA2 PO2 PS2 PSs2 OpR2 UnR2 CallR2 IxR2 SlR2 PG2 PI2 MtR2
section
variable {X:Cx}{e st:Expr}{te:TE2}{lo hi:Option Expr}{tl th tk:TO2}{pos p2:Pos}
end
end L3
namespace PySem
open Sem (wp)
def RawD (h:Heap) (d:Addr) (es:Array DictEntry) (ep:Nat):Prop:=∃ o,h.get? d=some o/\o.ExactDict/\o.data=.dict es ep
theorem RawD.typeIs {s:Shared}{d es ep} (x:RawD s.heap d es ep):s.TypeIs (.ref d) "dict":=let ⟨o,ho,hc,_⟩:=x;⟨o,ho,hc.1⟩
theorem RawD.at' {h h':Heap}{d es ep} (x:RawD h d es ep) (e:∀ o,h.get? d=some o->h'.get? d=some o):RawD h' d es ep:=let ⟨o,ho,r⟩:=x;⟨o,e _ ho,r⟩
theorem RawD.lt {h:Heap}{d es ep} (x:RawD h d es ep):d<h.objs.size:=let ⟨_,ho,_⟩:=x;Heap.lt_size ho
section
variable {prog:Program}{w:World}{A:Around}{E:Value->Shared->Prop}{s:Shared}{d it:Addr}{es:Array DictEntry}{i ep:Nat}
end
end PySem
namespace L3
open PySem PySem.Spec PyProof.Rows L2
unseal PE2 PT2 PW2 PA2 PO2 PS2 PSs2 OpR2 UnR2 CallR2 IxR2 SlR2 PG2 PI2 MtR2
def dtOf (M:Mp):D->Option (List (List Key×D))
 | .dct kvs=>some kvs
 | .ref p=>match M p with
  | some (.dct kvs)=>some kvs
  | _=>none
 | _=>none
def valT (kvs:List (List Key×D)) (k:List Key):Option D:=(kvs.find? fun kv=>decide (kv.1=k)).map (·.2)
def putT (kvs:List (List Key×D)) (k:List Key) (v:D):List (List Key×D):=if kvs.any (fun kv=>decide (kv.1=k)) then kvs.map fun kv=>if kv.1=k then (kv.1,v) else kv else kvs++[(k,v)]
def tkD (ks:List Key):D:=.tup (ks.map kD)
section
variable {K:PySem.W.Frag}{H:Hp}{M:Mp}{Z:Zt}
theorem HR.rdDT (h:HR K H M Z) {v:V}{d:D}{ds:List (List Key×D)}(e:dtOf M d=some ds) (a:At Z v d):∃ p vs,v=.ref p/\Rd H p (.dT vs)/\KAts Z vs ds:=by
 cases d with
 | dct xs =>
  cases e
  obtain ⟨p,rfl,z⟩:=a
  rcases h.z p _ z with ⟨vs,r,a⟩|k
  ·exact ⟨p,vs,rfl,r,a⟩
  ·exact k.elim
 | ref p =>
  cases (show v=.ref p from a)
  unfold dtOf at e
  simp only at e
  split at e
  ·next q =>
   cases e
   obtain ⟨vs,r,a⟩:=h.rdMT q
   exact ⟨p,vs,rfl,.inl r,a⟩
  ·cases e
 | _=>cases e
theorem ats_keys:∀ {ks:List Key}{vs:List V},Ats Z vs (ks.map kD)->vs=ks.map kV
 | [],_,.nil=>rfl
 | k::ks,_,.cons a t=>by rw [kD_kV a,ats_keys t];rfl
theorem HR.rdKey (hg:gTup=false) (h:HR K H M Z) {v:V}{ks:List Key}(a:At Z v (tkD ks)):∃ p,v=.ref p/\H p=some (.tup (ks.map kV)):=by
 obtain ⟨p,vs,e,hp,a2⟩:=h.rdK hg a
 exact ⟨p,e,by rw [hp,ats_keys a2]⟩
theorem KAts.valT {k:List Key}:∀ {vs:List (List Key×V)}{ds:List (List Key×D)},KAts Z vs ds->(L3.valT ds k=none/\valV vs k=none)\/∃ d v,L3.valT ds k=some d/\valV vs k=some v/\At Z v d
 | _,_,.nil=>.inl ⟨rfl,rfl⟩
 | (k1,v)::vs,(k2,d)::ds,.cons r t=>by
  obtain ⟨e,a⟩:=r
  have e':k1=k2:=e
  subst e'
  by_cases hk:k1=k
  ·exact .inr ⟨d,v,by simp [L3.valT,List.find?_cons,hk],by simp [valV,List.find?_cons,hk],a⟩
  ·rw [show L3.valT ((k1,d)::ds) k=L3.valT ds k by simp [L3.valT,List.find?_cons,hk],show valV ((k1,v)::vs) k=valV vs k by simp [valV,List.find?_cons,hk]]
   exact KAts.valT t
theorem KAts.lenT {vs:List (List Key×V)}{ds:List (List Key×D)}(h:KAts Z vs ds):vs.length=ds.length:=Paired.length h
theorem KAts.isSomeT {k:List Key}{vs:List (List Key×V)}{ds:List (List Key×D)}(h:KAts Z vs ds):(valV vs k).isSome=(L3.valT ds k).isSome:=by
 rcases h.valT (k:=k) with ⟨e1,e2⟩|⟨d,v,e1,e2,_⟩<;>rw [e1,e2]<;>rfl
theorem KAts.putT {k:List Key}{v:V}{d:D}(a:At Z v d) {vs:List (List Key×V)}{ds:List (List Key×D)}(h:KAts Z vs ds):KAts Z (putK vs k v) (L3.putT ds k d):=by
 have any:∀ {vs:List (List Key×V)} {ds:List (List Key×D)},KAts Z vs ds->(vs.any fun kv=>decide (kv.1=k))=ds.any fun kv=>decide (kv.1=k):=fun h=>by
  induction h with
  | nil=>rfl
  | cons r t ih=>rw [List.any_cons,List.any_cons,ih,r.1]
 have repl:∀ {vs:List (List Key×V)} {ds:List (List Key×D)},KAts Z vs ds->KAts Z (vs.map fun kv=>if kv.1=k then (kv.1,v) else kv) (ds.map fun kv=>if kv.1=k then (kv.1,d) else kv):=fun h=>by
  induction h with
  | nil=>exact .nil
  | @cons p q _ _ r t ih =>
   rw [List.map_cons,List.map_cons]
   refine .cons ?_ ih
   by_cases e:p.1=k
   ·rw [if_pos e,if_pos (r.1.symm.trans e)];exact ⟨r.1,a⟩
   ·rw [if_neg e,if_neg (fun z=>e (r.1.trans z))];exact r
 have app:∀ {vs:List (List Key×V)} {ds:List (List Key×D)},KAts Z vs ds->KAts Z (vs++[(k,v)]) (ds++[(k,d)]):=fun h=>by
  induction h with
  | nil=>exact .cons ⟨rfl,a⟩ .nil
  | cons r t ih=>exact .cons r ih
 unfold putK L3.putT
 rw [any h]
 split
 ·exact repl h
 ·exact app h
theorem HR.seen {p:Addr}{d:D}(h:HR K H M Z) (hb:HB H Z p d) (hM:M p=none):HR K H M (ext Z p d):=by
 refine ⟨fun b u z=>?_,fun b u q=>?_⟩
 ·rcases z with z|⟨rfl,rfl⟩
  ·rcases h.z b u z with k|k
   ·exact .inl (k.mono Le.ext)
   ·exact .inr (k.mono Le.ext)
  ·exact .inl (hb.mono Le.ext)
 ·obtain ⟨k1,k2⟩:=h.m b u q
  refine ⟨fun d' z=>?_,k2.mono Le.ext⟩
  rcases z with z|⟨rfl,rfl⟩
  ·exact (k1 d' z).mono Le.ext
  ·rw [hM] at q;cases q
end
section
variable {X:Cx}{pos pos':Pos}{o i value:Expr}{td ty tv:TE2}
def onMT (o:Option MO) (k:List (List Key×D)->Prop):Prop:=match o with
 | some (.dct kvs)=>k kvs
 | _=>False
theorem of_MT {o:Option MO}{k:List (List Key×D)->Prop}(h:onMT o k):∃ kvs,o=some (.dct kvs)/\k kvs:=by
 unfold onMT at h
 split at h
 ·exact ⟨_,rfl,h⟩
 ·exact h.elim
def uTnew:TE2:=fun _ M Q=>∀ p,M p=none->Q (.ref p) (put M p (.dct []))
theorem qtnew:PE2 X (.Dict [] [] pos) uTnew:=PE.mono pe_dnewT fun σ H Q ⟨Z,τ,M,Q2,st,hr,h,k⟩ p hp=>k Z (.ref p) (.ref p) _ _ (Le.refl _) (hr.newDT hp .nil) rfl (h p (hr.fresh hp))
def uTput (td ty tv:TE2):TS2:=fun E τ M=>tv τ M fun v M1=>td τ M1 fun x M2=>ty τ M2 fun y M3=>onR x fun p=>∃ ks,y=tkD ks/\onMT (M3 p) fun kvs=>kvs.length<sizeLine/\E.nx τ (put M3 p (.dct (putT kvs ks v)))
theorem qs_tput (hg:gTup=false) (hu:X.A.units+1<cLine) (ho:PE2 X o td) (hi:PE2 X i ty) (hv:PE2 X value tv) (hs:swapsWith value (some (.Subscript o i pos')) pos.line X.env=pure false) :
  PS2 X (.Assign [.Subscript o i pos'] value pos) (uTput td ty tv):=PS.mono (ps_dput hu ho hi hv hs) (by
 rintro D σ H ⟨Z,τ,M,D2,st,hr,h,er⟩
 refine lE.bind st hr h fun Z1 v dv H1 M1 l1 h1 a1 q1=>lE.bind (st.mono l1) h1 q1 fun Z2 x dx H2 M2 l2 h2 a2 q2=>lE.bind (st.mono (l1.trans l2)) h2 q2 fun Z3 y dy H3 M3 l3 h3 a3 q3=>?_
 obtain ⟨p,rfl,ks,rfl,q5⟩:=of_R q3
 cases (show x=V.ref p from a2)
 obtain ⟨b,rfl,hb⟩:=h3.rdKey hg a3
 obtain ⟨kvs,e,hl,q⟩:=of_MT q5
 obtain ⟨vs,r,a4⟩:=h3.rdMT e
 refine ⟨p,_,rfl,DPut.t r hb (by rw [a4.lenT];exact hl),?_⟩
 exact lS.nx (er.le (l1.trans (l2.trans l3))) (st.mono (l1.trans (l2.trans l3))) (h3.chgDT e (a4.putT (a1.mono (l2.trans l3)))) q)
def uTget (td ty:TE2):TE2:=fun τ M Q=>td τ M fun x M1=>ty τ M1 fun y M2=>onO (dtOf M2 x) fun kvs=>∃ ks,y=tkD ks/\onO (valT kvs ks) fun v=>Q v M2
theorem qtget (hg:gTup=false) (hu:X.A.units+1<cLine) (ho:PE2 X o td) (hi:PE2 X i ty) (hs:NoSl i):PE2 X (.Subscript o i pos) (uTget td ty):=PE.mono (pe_dget hu ho hi hs) (by
 rintro σ H Q ⟨Z,τ,M,Q2,st,hr,h,k⟩
 refine lE.bind st hr h fun Z1 x dx H1 M1 l1 h1 a1 q1=>lE.bind (st.mono l1) h1 q1 fun Z2 y dy H2 M2 l2 h2 a2 q2=>?_
 obtain ⟨kvs,e,ks,rfl,q4⟩:=of_O q2
 obtain ⟨d,e2,q⟩:=of_O q4
 obtain ⟨p,vs,rfl,r,a3⟩:=h2.rdDT e (a1.mono l2)
 obtain ⟨b,rfl,hb⟩:=h2.rdKey hg a2
 rcases a3.valT (k:=ks) with ⟨z,_⟩|⟨d',v,z,zv,av⟩
 ·rw [e2] at z;cases z
 ·rw [e2] at z
  cases z
  exact ⟨p,v,rfl,.inr ⟨vs,ks,b,r,rfl,hb,zv.symm⟩,(k.le (l1.trans l2)).v h2 av q⟩)
def sInT (neg:Bool):R22:=fun x y M Q=>onO (dtOf M y) fun kvs=>∃ ks,x=tkD ks/\Q (.bl (if neg then !(valT kvs ks).isSome else (valT kvs ks).isSome)) M
theorem o_notinT (hg:gTup=false) (hu:X.A.units+1<cLine):OpR2 X (compareOp .NotIn) (sInT true):=by
 intro pins s σ H x y v u Q I rx ry h
 obtain ⟨Z,dx,dy,M,Q2,hr,ax,ay,h,k⟩:=h
 obtain ⟨kvs,e,ks,rfl,q⟩:=of_O h
 obtain ⟨p,vs,rfl,r,a3⟩:=hr.rdDT e ay
 obtain ⟨b,rfl,hb⟩:=hr.rdKey hg ax
 cases (show u=Value.ref p from ry)
 refine d_notIn hu I (.inr ⟨vs,ks,b,r,rfl,hb,rfl⟩) rx fun s' I'=>⟨.bl _,H,I',rfl,?_⟩
 rw [a3.isSomeT]
 exact k.b hr q
theorem r_tnew {τ:St2}{M:Mp}{Q:VK2}:uTnew τ M Q=∀ p,M p=none->Q (.ref p) (put M p (.dct [])):=rfl
theorem r_tput {E:Ends2}{τ:St2}{M:Mp}:uTput td ty tv E τ M=tv τ M fun v M1=>td τ M1 fun x M2=>ty τ M2 fun y M3=>onR x fun p=>∃ ks,y=tkD ks/\onMT (M3 p) fun kvs=>kvs.length<sizeLine/\E.nx τ (put M3 p (.dct (putT kvs ks v))):=rfl
theorem r_tget {τ:St2}{M:Mp}{Q:VK2}:uTget td ty τ M Q=td τ M fun x M1=>ty τ M1 fun y M2=>onO (dtOf M2 x) fun kvs=>∃ ks,y=tkD ks/\onO (valT kvs ks) fun v=>Q v M2:=rfl
theorem r_inT {n:Bool}{x y:D}{M:Mp}{Q:VK2}:sInT n x y M Q=onO (dtOf M y) fun kvs=>∃ ks,x=tkD ks/\Q (.bl (if n then !(valT kvs ks).isSome else (valT kvs ks).isSome)) M:=rfl
end
structure Mf (K:PySem.W.Frag) (C:Addr) (m qual:Str) (st:Stmt) (ps:List Str) (f:Addr) (fd:FuncData):Prop where
 F:Fun K m qual st f fd
 b:Binds K fd ps []
 m:Meth K C m f
def onMO (C:Addr) (o:Option MO) (k:List (Str×D)->Prop):Prop:=∃ fs,o=some (.obj C fs)/\k fs
theorem r_onMO {C:Addr}{fs:List (Str×D)}{k:List (Str×D)->Prop}:onMO C (some (.obj C fs)) k=k fs:=propext ⟨fun ⟨fs',e,h⟩=>by cases e;exact h,fun h=>⟨fs,rfl,h⟩⟩
def putO (f:Str) (v:D):List (Str×D)->List (Str×D)
 | []=>[(f,v)]
 | p::r=>if p.1=f then (p.1,v)::r else p::putO f v r
section
variable {K:PySem.W.Frag}{H:Hp}{M:Mp}{Z:Zt}{f:Str}{vs:List (Str×V)}{ds:List (Str×D)}
theorem KAts.putO {v:V}{d:D}(a:At Z v d) (h:KAts Z vs ds):KAts Z (putF f v vs) (L3.putO f d ds):=by
 induction h with
 | nil=>exact .cons ⟨rfl,a⟩ .nil
 | @cons p q vs ds r t ih =>
  unfold putF L3.putO
  have e:p.1=q.1:=r.1
  by_cases c:p.1=f
  ·rw [if_pos c,if_pos (by rw [<- e];exact c)];exact .cons ⟨e,a⟩ t
  ·rw [if_neg c,if_neg (by rw [<- e];exact c)];exact .cons r ih
theorem KAts.look (h:KAts Z vs ds):(ds.lookup f=none/\vs.lookup f=none)\/∃ d v,ds.lookup f=some d/\vs.lookup f=some v/\At Z v d:=by
 induction h with
 | nil=>exact .inl ⟨rfl,rfl⟩
 | @cons p q vs ds r t ih =>
  have e:p.1=q.1:=r.1
  rw [List.lookup,List.lookup,e]
  cases c:f == q.1 with
  | true=>exact .inr ⟨_,_,rfl,rfl,r.2⟩
  | false=>exact ih
theorem HR.newO {x dx C:Addr}(h:HR K H M Z) (e1:H x=none) (e2:H dx=none) (ne:dx≠x):HR K (upd (upd H dx (.own x)) x (.ins C dx [])) (put M x (.obj C [])) Z:=by
 obtain ⟨h1,h2⟩:=h.lay e2 (.own x)
 exact HR.newM (H:=upd H dx (.own x)) ⟨h1,h2⟩ (by rw [upd_ne (Ne.symm ne)];exact e1) ⟨dx,[],upd_same,.nil⟩
end
section
variable {X:Cx}{C:Addr}{pos pos' apos p:Pos}{o e value:Expr}{es:List Expr}{f m x:Str}{ta tv:TE2}{t:TA2}
def uFld (C:Addr) (f:Str) (ta:TE2):TE2:=fun τ M Q=>ta τ M fun x M1=>onR x fun p=>onMO C (M1 p) fun fs=>onO (fs.lookup f) fun d=>Q d M1
theorem qfld (c:Cls X.K C) (n:NoAttr X.K C f) (he:PE2 X e ta) (hb:attributeBase e f X.env (eval e X.env)=eval e X.env:=by rfl):PE2 X (.Attribute e f pos) (uFld C f ta):=PE.mono (pe_fld he hb) (by
 rintro σ H Q ⟨Z,τ,M,Q2,st,hr,h,k⟩
 refine lE.bind st hr h fun Z1 x dx H1 M1 l1 h1 a1 q1=>?_
 obtain ⟨p,rfl,fs,hm,q2⟩:=of_R q1
 obtain ⟨d,hd,q⟩:=of_O q2
 obtain ⟨ix,vs,hv,ka⟩:=h1.rdMO hm
 rcases ka.look (f:=f) with ⟨e1,_⟩|⟨d',v,e1,e2,a⟩
 ·rw [hd] at e1;cases e1
 ·rw [hd] at e1
  cases e1
  exact ⟨p,C,ix,vs,v,a1,hv,c,n,e2,k Z1 v d H1 M1 l1 h1 a q⟩)
def uSFld (C:Addr) (f:Str) (ta tv:TE2):TS2:=fun E τ M=>tv τ M fun y M1=>ta τ M1 fun x M2=>onR x fun p=>onMO C (M2 p) fun fs=>fs.length<1000/\E.nx τ (put M2 p (.obj C (putO f y fs)))
theorem qs_fld (c:Cls X.K C) (n:NoAttr X.K C f) (ha:PE2 X o ta) (hv:PE2 X value tv) (hs:swapsWith value (some (.Attribute o f pos')) pos.line X.env=pure false:=by rfl):PS2 X (.Assign [.Attribute o f pos'] value pos) (uSFld C f ta tv):=PS.mono (ps_fld ha hv hs) (by
 rintro D σ H ⟨Z,τ,M,D2,st,hr,h,er⟩
 refine lE.bind st hr h fun Z1 y dy H1 M1 l1 h1 a1 q1=>lE.bind (st.mono l1) h1 q1 fun Z2 x dx H2 M2 l2 h2 a2 q2=>?_
 obtain ⟨p,rfl,fs,hm,hl,q⟩:=of_R q2
 obtain ⟨ix,vs,hv,ka⟩:=h2.rdMO hm
 refine ⟨p,C,ix,vs,a2,hv,c,n,by rw [Paired.length ka];exact hl,?_⟩
 exact er.nx Z2 σ τ _ _ (l1.trans l2) (st.mono (l1.trans l2)) (h2.chg (u':=.obj C (putO f dy fs)) hm ⟨ix,_,upd_same,ka.putO (a1.mono l2)⟩) q)
def uMeth (C:Addr) (m:Str) (sp:Sp2) (ta:TE2) (t:TA2):TE2:=fun τ M Q=>ta τ M fun x M1=>onR x fun p=>onMO C (M1 p) fun fs=>fs.lookup m=none/\t τ M1 fun xs M2=>sp (.ref p::xs) M2 Q
theorem lMeth {K:PySem.W.Frag}{sp:Sp2}:∀ σ H Q,lE K (uMeth C m sp ta t) σ H Q->tMeth C m (lSp K sp) [] E0 (lE K ta) (lA K t) σ H Q:=by
 rintro σ H Q ⟨Z,τ,M,Q2,st,hr,h,k⟩
 refine lE.bind st hr h fun Z1 x dx H1 M1 l1 h1 a1 q1=>?_
 obtain ⟨p,rfl,fs,hm,hn,q⟩:=of_R q1
 obtain ⟨ix,vs,hv,ka⟩:=h1.rdMO hm
 have a1:x=.ref p:=a1
 subst a1
 refine ⟨p,ix,vs,rfl,hv,?_,Z1,τ,M1,_,st.mono l1,h1,q,fun Z2 ws ds H2 M2 l2 h2 a2 q2=>?_⟩
 ·rcases ka.look (f:=m) with ⟨_,e2⟩|⟨d',v,e1,_,_⟩
  ·exact e2
  ·rw [hn] at e1;cases e1
 ·show lSp K sp (V.ref p::(ws++[])) H2 Q E0
  rw [List.append_nil]
  exact ⟨Z2,.ref p::ds,M2,Q2,h2,.cons rfl a2,q2,k.le (l1.trans l2)⟩
theorem qmeth {k:Nat}{qual:Str}{st:Stmt}{ps:List Str}{g:Addr}{fd:FuncData}{sp:Sp2}{pl:Sem Bool}(c:Cls X.K C) (d:Mf X.K C m qual st ps g fd) (G:FnOk X.prog X.w X.K X.mg X.base CX0 k g fd ps (lSp X.K sp)) (hr:Room k X.A) (ho:PE2 X o ta) (ha:PA2 X (e::es) t)
  (hst:starEach (e::es) X.env=(false,eval e X.env)::starEach es X.env:=by rfl) (hpl:(backTo pos (starEach es X.env)).any (·.1)=false:=by rfl)
  (ht:eval (.Call (.Attribute o m apos) (e::es) [] pos) X.env=(do
   let ov <- eval o X.env
   standAt apos.atName
   let (f,first) <- holding [ov] (getMethod ov m pl)
   callWith pos f first (backTo pos (starEach (e::es) X.env)) (backToKw pos (keywordEach [] X.env))):=by rfl) :
  PE2 X (.Call (.Attribute o m apos) (e::es) [] pos) (uMeth C m sp ta t):=PE.mono (pe_meth ho c d.m G hr d.b .nil pass0 ha hst hpl ht) lMeth
theorem qmeth0 {k:Nat}{qual:Str}{st:Stmt}{ps:List Str}{g:Addr}{fd:FuncData}{sp:Sp2}{pl:Sem Bool}(c:Cls X.K C) (d:Mf X.K C m qual st ps g fd) (G:FnOk X.prog X.w X.K X.mg X.base CX0 k g fd ps (lSp X.K sp)) (hr:Room k X.A) (ho:PE2 X o ta)
  (ht:eval (.Call (.Attribute o m apos) [] [] pos) X.env=(do
   let ov <- eval o X.env
   standAt apos.atName
   let (f,first) <- holding [ov] (getMethod ov m pl)
   callWith pos f first (backTo pos (starEach [] X.env)) (backToKw pos (keywordEach [] X.env))):=by rfl) :
  PE2 X (.Call (.Attribute o m apos) [] [] pos) (uMeth C m sp ta uNil):=PE.mono (pe_meth0 ho c d.m G hr d.b .nil pass0 ht) (by
 intro σ H Q h
 obtain ⟨Z,τ,M,Q2,st,hr,h,k⟩:=h
 refine lE.bind st hr h fun Z1 x dx H1 M1 l1 h1 a1 q1=>?_
 obtain ⟨p,rfl,fs,hm,hn,q⟩:=of_R q1
 obtain ⟨ix,vs,hv,ka⟩:=h1.rdMO hm
 have a1:x=.ref p:=a1
 subst a1
 refine ⟨p,ix,vs,rfl,hv,?_,⟨Z1,[.ref p],M1,Q2,h1,.cons rfl .nil,q,k.le l1⟩⟩
 rcases ka.look (f:=m) with ⟨_,e2⟩|⟨d',v,e1,_,_⟩
 ·exact e2
 ·rw [hn] at e1;cases e1)
def uMake (C:Addr) (sp:Sp2) (t:TA2):TE2:=fun τ M Q=>t τ M fun xs M1=>∀ p,M1 p=none->sp (.ref p::xs) (put M1 p (.obj C [])) fun v M2=>v=.non/\Q (.ref p) M2
theorem make_in {K:PySem.W.Frag}{sp:Sp2}{Z Z1:Zt}{H1:Hp}{M1:Mp}{vs:List V}{ds:List D}{Q:VK}{Q2:VK2}(l1:Le Z Z1) (h1:HR K H1 M1 Z1) (a1:Ats Z1 vs ds) (k:VKr K Z Q2 Q) (q1:∀ p,M1 p=none->sp (.ref p::ds) (put M1 p (.obj C [])) fun v M2=>v=.non/\Q2 (.ref p) M2) :
  ∀ x dx,H1 x=none->H1 dx=none->dx≠x->lSp K sp (.ref x::(vs++[])) (upd (upd H1 dx (.own x)) x (.ins C dx [])) (fun v H2=>v=.non/\Q (.ref x) H2) E0:=fun x dx e1 e2 ne=>by
 rw [List.append_nil]
 refine ⟨Z1,.ref x::ds,_,_,h1.newO e1 e2 ne,.cons rfl a1,q1 x (h1.fresh e1),fun Z2 v d H2 M2 l2 h2 a2 q2=>?_⟩
 obtain ⟨rfl,q⟩:=q2
 exact ⟨a2,k Z2 (.ref x) (.ref x) H2 M2 (l1.trans l2) h2 rfl q⟩
theorem qmake0 {k:Nat}{g:Addr}{qual:Str}{st:Stmt}{ps:List Str}{fd:FuncData}{sp:Sp2}(mk:Mk X.K C g) (d:Mf X.K C "__init__" qual st ps g fd) (G:FnOk X.prog X.w X.K X.mg X.base CX0 k g fd ps (lSp X.K sp)) (hr:Room (k+1) X.A) (hm:X.mg x=some (.ref C)) (hg:Gl X x:=by rfl) (hdb:(x == ("__debug__":Str))=false:=by decide) :
  PE2 X (.Call (.Name x p) [] [] pos) (uMake C sp uNil):=PE.mono (pe_make0 mk G hr hg hm d.b .nil pass0 hdb) (by
 rintro σ H Q ⟨Z,τ,M,Q2,st,hr,h,k⟩
 exact make_in (Le.refl _) hr .nil k h)
theorem r_fld {τ:St2}{M:Mp}{Q:VK2}:uFld C f ta τ M Q=ta τ M fun x M1=>onR x fun p=>onMO C (M1 p) fun fs=>onO (fs.lookup f) fun d=>Q d M1:=rfl
theorem r_sfld {E:Ends2}{τ:St2}{M:Mp}:uSFld C f ta tv E τ M=tv τ M fun y M1=>ta τ M1 fun x M2=>onR x fun p=>onMO C (M2 p) fun fs=>fs.length<1000/\E.nx τ (put M2 p (.obj C (putO f y fs))):=rfl
theorem r_meth {sp:Sp2}{τ:St2}{M:Mp}{Q:VK2}:uMeth C m sp ta t τ M Q=ta τ M fun x M1=>onR x fun p=>onMO C (M1 p) fun fs=>fs.lookup m=none/\t τ M1 fun xs M2=>sp (.ref p::xs) M2 Q:=rfl
theorem r_make {sp:Sp2}{τ:St2}{M:Mp}{Q:VK2}:uMake C sp t τ M Q=t τ M fun xs M1=>∀ p,M1 p=none->sp (.ref p::xs) (put M1 p (.obj C [])) fun v M2=>v=.non/\Q (.ref p) M2:=rfl
end
end L3
namespace PySem
namespace SetTable
def lcg (m i:Nat):Nat:=(i*5+1)%m
def lcgs (m:Nat):Nat->Nat->Nat
 | 0,i=>i
 | k+1,i=>lcgs m k (lcg m i)
theorem lcgs_add {m:Nat}:∀ (a b i:Nat),lcgs m (a+b) i=lcgs m b (lcgs m a i)
 | 0,b,i=>by rw [Nat.zero_add];rfl
 | a+1,b,i=>by rw [Nat.add_right_comm];exact lcgs_add a b (lcg m i)
def Mk (m:Nat):Prop:=m=8\/m=32\/m=128\/m=512
def orb (m:Nat):Nat->Nat->List Nat
 | 0,_=>[]
 | k+1,i=>i::orb m k (lcg m i)
theorem orb_get {m:Nat}:∀ {k i j:Nat},j∈orb m k i->∃ r,r<k/\lcgs m r i=j
 | k+1,i,j,h=>by
  rcases List.mem_cons.mp h with rfl|h
  ·exact ⟨0,Nat.succ_pos _,rfl⟩
  ·obtain ⟨r,h1,h2⟩:=orb_get h
   exact ⟨r+1,Nat.succ_lt_succ h1,h2⟩
theorem orb_all {m:Nat}(h:Mk m):((List.range m).all fun j=>(orb m m 0).contains j)=true/\lcgs m m 0=0:=by
 rcases h with rfl|rfl|rfl|rfl<;>decide +kernel
theorem lcg_all {m:Nat}(h:Mk m) {i j:Nat}(hi:i<m) (hj:j<m):∃ r,r<m/\lcgs m r i=j:=by
 obtain ⟨h1,h2⟩:=orb_all h
 rw [List.all_eq_true] at h1
 obtain ⟨a,a1,a2⟩:=orb_get (List.contains_iff_mem.mp (h1 i (List.mem_range.mpr hi)))
 obtain ⟨b,b1,b2⟩:=orb_get (List.contains_iff_mem.mp (h1 j (List.mem_range.mpr hj)))
 rcases Nat.le_total a b with c|c
 ·refine ⟨b-a,by omega,?_⟩
  rw [<- a2,<- lcgs_add,show a+(b-a)=b by omega,b2]
 ·refine ⟨(m-a+b)%m,Nat.mod_lt _ (by omega),?_⟩
  by_cases e:a=b
  ·subst e
   rw [show m-a+a=m by omega,Nat.mod_self,<- a2,b2]
   rfl
  ·rw [Nat.mod_eq_of_lt (by omega),lcgs_add]
   have:lcgs m (m-a) i=0:=by rw [<- a2,<- lcgs_add,show a+(m-a)=m by omega,h2]
   rw [this,b2]
def leaps (mask:Nat):Nat->Nat×Nat->Nat×Nat
 | 0,p=>p
 | k+1,p=>leaps mask k (leap mask p.1 p.2)
theorem leaps_add {mask:Nat}:∀ (a b:Nat) (p:Nat×Nat),leaps mask (a+b) p=leaps mask b (leaps mask a p)
 | 0,b,p=>by rw [Nat.zero_add];rfl
 | a+1,b,p=>by rw [Nat.add_right_comm];exact leaps_add a b _
theorem leaps_pert {mask:Nat}:∀ (k:Nat) (p:Nat×Nat),(leaps mask k p).2=p.2 / 32^k
 | 0,p=>by rw [Nat.pow_zero,Nat.div_one];rfl
 | k+1,p=>by
  show (leaps mask k (leap mask p.1 p.2)).2=_
  rw [leaps_pert k,Nat.pow_succ',<- Nat.div_div_eq_div_mul]
  rfl
theorem leaps_lcg {m:Nat}(hm:0<m):∀ (k i:Nat),(leaps (m-1) k (i,0))=(lcgs m k i,0)
 | 0,i=>rfl
 | k+1,i=>by
  show leaps (m-1) k ((i*5+1+0 / 32)%(m-1+1),0 / 32)=_
  rw [show m-1+1=m by omega,Nat.zero_div,leaps_lcg hm k]
  rfl
theorem leaps_lt {mask:Nat}:∀ (k:Nat) (p:Nat×Nat),p.1<=mask->(leaps mask k p).1<=mask
 | 0,p,h=>h
 | k+1,p,h=>leaps_lt k _ (Nat.le_of_lt_succ (Nat.mod_lt _ (Nat.succ_pos _)))
theorem leaps_all {m:Nat}(h:Mk m) {i pert j:Nat}(hp:pert<2^64) (hi:i<m) (hj:j<m):∃ k,k<m+13/\(leaps (m-1) k (i,pert)).1=j:=by
 have e:(leaps (m-1) 13 (i,pert)).2=0:=by
  rw [leaps_pert]
  exact Nat.div_eq_of_lt (Nat.lt_of_lt_of_le hp (by decide))
 have l:=leaps_lt (mask:=m-1) 13 (i,pert) (by show i<=_;omega)
 obtain ⟨r,r1,r2⟩:=lcg_all h (i:=(leaps (m-1) 13 (i,pert)).1) (by omega) hj
 refine ⟨13+r,by omega,?_⟩
 rw [leaps_add,show leaps (m-1) 13 (i,pert)=((leaps (m-1) 13 (i,pert)).1,0) from Prod.ext rfl e,leaps_lcg (by omega),r2]
def advs (t:SetTable):Nat->Probe->Probe
 | 0,p=>p
 | k+1,p=>advs t k (t.advance p)
theorem advs_add {t:SetTable}:∀ (a b:Nat) (p:Probe),advs t (a+b) p=advs t b (advs t a p)
 | 0,b,p=>by rw [Nat.zero_add];rfl
 | a+1,b,p=>by rw [Nat.add_right_comm];exact advs_add a b _
theorem run_le (mask i:Nat):runEnd mask i-i<=9:=by unfold runEnd;split<;>omega
theorem adv_leap {t:SetTable}:∀ (m:Nat) (p:Probe),p.more=m->∃ q:Probe,advs t (m+1) p=q/\q.j=q.i/\q.more<=9/\(q.i,q.perturb)=leap t.mask p.i p.perturb/\q.dummy=p.dummy
 | 0,p,e=>by
  refine ⟨t.advance p,rfl,?_⟩
  unfold advance
  rw [e,if_neg (by decide)]
  exact ⟨rfl,run_le _ _,rfl,rfl⟩
 | m+1,p,e=>by
  have e1:(t.advance p).more=m:=by unfold advance;rw [e,if_pos (Nat.succ_pos _)];rfl
  obtain ⟨q,h1,h2,h3,h4,h5⟩:=adv_leap m (t.advance p) e1
  refine ⟨q,h1,h2,h3,?_,?_⟩
  ·rw [h4];unfold advance;rw [e,if_pos (Nat.succ_pos _)]
  ·rw [h5];unfold advance;rw [e,if_pos (Nat.succ_pos _)]
theorem adv_leaps {t:SetTable}:∀ (k:Nat) (p:Probe),p.more<=9->∃ s,s<=10*(k+1)/\(advs t s p).j=(leaps t.mask (k+1) (p.i,p.perturb)).1/\(advs t s p).j=(advs t s p).i/\(advs t s p).more<=9/\((advs t s p).i,(advs t s p).perturb)=leaps t.mask (k+1) (p.i,p.perturb)
 | 0,p,h=>by
  obtain ⟨q,h1,h2,h3,h4,h5⟩:=adv_leap (t:=t) p.more p rfl
  refine ⟨p.more+1,by omega,?_⟩
  rw [h1]
  have e:leaps t.mask 1 (p.i,p.perturb)=leap t.mask p.i p.perturb:=rfl
  rw [Nat.zero_add,e,<- h4]
  exact ⟨h2,h2,h3,rfl⟩
 | k+1,p,h=>by
  obtain ⟨s,s1,_,_,s4,s5⟩:=adv_leaps (t:=t) k p h
  obtain ⟨q,h1,h2,h3,h4,h5⟩:=adv_leap (t:=t) _ (advs t s p) rfl
  refine ⟨s+((advs t s p).more+1),by omega,?_⟩
  rw [advs_add,h1,leaps_add (k+1) 1,<- s5]
  have e:leaps t.mask 1 ((advs t s p).i,(advs t s p).perturb)=leap t.mask (advs t s p).i (advs t s p).perturb:=rfl
  rw [e,<- h4]
  exact ⟨h2,h2,h3,rfl⟩
theorem adv_all {t:SetTable}{m:Nat}(hm:Mk m) (ht:t.mask=m-1) {p:Probe}(h1:p.more<=9) (h2:p.i<=t.mask) (h3:p.perturb<2^64) {j:Nat}(hj:j<=t.mask):∃ s,s<10*turns t.mask/\(advs t s p).j=j:=by
 have m8:8<=m:=by rcases hm with rfl | rfl | rfl | rfl<;>decide
 have hl:(leap t.mask p.i p.perturb).2<2^64:=Nat.lt_of_le_of_lt (Nat.div_le_self _ _) h3
 have hi:(leap t.mask p.i p.perturb).1<m:=by
  have:(p.i*5+1+p.perturb / 32)%(t.mask+1)<t.mask+1:=Nat.mod_lt _ (Nat.succ_pos _)
  show (p.i*5+1+p.perturb / 32)%(t.mask+1)<m
  omega
 obtain ⟨k,k1,k2⟩:=leaps_all hm hl hi (j:=j) (by omega)
 obtain ⟨s,s1,s2,_⟩:=adv_leaps (t:=t) k p h1
 refine ⟨s,by unfold turns;omega,?_⟩
 rw [s2]
 show (leaps t.mask k (leap t.mask p.i p.perturb)).1=j
 rw [ht]
 rw [ht] at k2
 exact k2
theorem go_met {t:SetTable}{hashAt:Nat->Int}{h:Int}(nd:∀ j,t.slot j≠.dummy):∀ (s fuel:Nat) (p:Probe),s<fuel->p.dummy=none->t.slot (advs t s p).j=.empty ->
  (∃ j,probe.go t hashAt h fuel p=some (.empty j none)/\t.slot j=.empty)\/∃ j i next s2,probe.go t hashAt h fuel p=some (.candidate j i next)/\t.slot j=.live i/\hashAt i=h/\s2<s/\next.dummy=none/\t.slot (advs t s2 next).j=.empty
 | s,0,p,hf,_,_=>absurd hf (Nat.not_lt_zero _)
 | 0,fuel+1,p,_,hd,he=>by
  have he:t.slot p.j=.empty:=he
  left
  refine ⟨p.j,?_,he⟩
  unfold probe.go
  rw [he,hd]
 | s+1,fuel+1,p,hf,hd,he=>by
  have ad:(t.advance p).dummy=none:=by unfold advance;split<;>exact hd
  unfold probe.go
  cases q:t.slot p.j with
  | empty=>exact .inl ⟨p.j,by rw [hd],q⟩
  | dummy=>exact absurd q (nd _)
  | live i =>
   dsimp only
   by_cases c:(hashAt i == h)=true
   ·rw [if_pos c]
    exact .inr ⟨p.j,i,_,s,rfl,q,eq_of_beq c,Nat.lt_succ_self _,ad,he⟩
   ·rw [if_neg c]
    rcases go_met nd s fuel (t.advance p) (Nat.lt_of_succ_lt_succ hf) ad he with h|⟨j,i',next,s2,h1,h2,h3,h4,h5⟩
    ·exact .inl h
    ·exact .inr ⟨j,i',next,s2,h1,h2,h3,Nat.lt_succ_of_lt h4,h5⟩
theorem met_of {t:SetTable}{hashAt:Nat->Int}{h:Int}{p:Probe}{r:Option Met}{s:Nat}(nd:∀ j,t.slot j≠.dummy) (hs:s<10*turns t.mask) (hd:p.dummy=none) (he:t.slot (advs t s p).j=.empty) (hr:t.probe hashAt h p=r) :
  (∃ j,r=some (.empty j none)/\t.slot j=.empty)\/∃ j i next s2,r=some (.candidate j i next)/\t.slot j=.live i/\s2<s/\next.dummy=none/\t.slot (advs t s2 next).j=.empty:=by
 subst hr
 rcases go_met (hashAt:=hashAt) (h:=h) nd s _ p hs hd he with ⟨j,e,ej⟩|⟨j,i,next,s2,e,ej,_,r⟩
 ·exact .inl ⟨j,e,ej⟩
 ·exact .inr ⟨j,i,next,s2,e,ej,r⟩
structure TbOk (t:SetTable) (n:Nat):Prop where
 m:Mk (t.mask+1)
 p:t.place.size=n
 d:t.dummies=#[]
 r:n<=t.mask
theorem TbOk.fits {t:SetTable}{n:Nat}(h:TbOk t n):t.fits n=true:=by
 unfold SetTable.fits fill
 rw [h.p,h.d]
 simpa using h.r
theorem TbOk.nd {t:SetTable}{n:Nat}(h:TbOk t n) (j:Nat):t.slot j≠.dummy:=by
 unfold slot
 dsimp only
 split
 ·exact fun e=>nomatch e
 ·rw [h.d,if_neg (by unfold has;simp)]
  exact fun e=>nomatch e
theorem TbOk.live {t:SetTable}{n j i:Nat}(h:TbOk t n) (e:t.slot j=.live i):i<n:=by
 unfold slot at e
 dsimp only at e
 split at e
 ·next c =>
  cases e
  have:=eq_of_beq c
  rw [<- h.p]
  exact (Array.getElem?_eq_some_iff.mp this).1
 ·split at e<;>cases e
theorem nodup_le:∀ (a b:List Nat),a.Nodup->(∀ x∈a,x∈b)->a.length<=b.length
 | [],b,_,_=>Nat.zero_le _
 | x::a,b,hn,hs=>by
  have hx:x∈b:=hs x List.mem_cons_self
  obtain ⟨n1,n2⟩:=List.nodup_cons.mp hn
  have:=nodup_le a (b.erase x) n2 fun y hy=>(List.mem_erase_of_ne (fun e=>n1 (by rw [<- e];exact hy))).mpr (hs y (List.mem_cons_of_mem _ hy))
  rw [List.length_erase_of_mem hx] at this
  have:0<b.length:=List.length_pos_of_mem hx
  rw [List.length_cons]
  omega
theorem TbOk.room {t:SetTable}{n:Nat}(h:TbOk t n):∃ j,j<=t.mask/\t.slot j=.empty:=by
 refine Classical.byContradiction fun no=>?_
 have all:∀ j∈List.range (t.mask+1),j∈t.place.toList:=fun j hj=>by
  have hj:=List.mem_range.mp hj
  cases q:t.slot j with
  | empty=>exact absurd ⟨j,by omega,q⟩ no
  | dummy=>exact absurd q (h.nd j)
  | live i =>
   unfold slot at q
   dsimp only at q
   split at q
   ·next c=>exact Array.mem_toList_iff.mpr (Array.mem_of_getElem? (eq_of_beq c))
   ·split at q<;>cases q
 have:=nodup_le _ _ List.nodup_range all
 rw [List.length_range,Array.length_toList,h.p] at this
 have:=h.r
 omega
theorem set_some {α:Type}{k:α}:∀ {l:List (Option α)}{j:Nat},l[j]? = some none->((l.set j (some k)).filterMap id).length=(l.filterMap id).length+1
 | x::l,0,h=>by
  cases h
  rfl
 | x::l,j+1,h=>by
  rw [List.set_cons_succ,List.filterMap_cons,List.filterMap_cons]
  have ih:=set_some (k:=k) (l:=l) (j:=j) h
  cases x with
  | none=>exact ih
  | some y=>exact congrArg (·+1) ih
theorem some_none {α:Type}:∀ {l:List (Option α)},(l.filterMap id).length<l.length->∃ j:Nat,l[j]? = some none
 | [],h=>absurd h (Nat.not_lt_zero _)
 | none::l,_=>⟨0,rfl⟩
 | some x::l,h=>by
  obtain ⟨j,hj⟩:=some_none (l:=l) (Nat.lt_of_succ_lt_succ h)
  exact ⟨j+1,hj⟩
theorem free_some {mask:Nat}{owner:Array (Option Nat)}{j0:Nat}(h0:(owner.getD j0 (some 0)).isNone=true):∀ (fuel r i pert:Nat),r<fuel->(leaps mask r (i,pert)).1=j0->∃ j,layClean.free mask owner fuel i pert=some j/\(owner.getD j (some 0)).isNone=true
 | 0,r,_,_,h,_=>absurd h (Nat.not_lt_zero _)
 | fuel+1,r,i,pert,h,e=>by
  unfold layClean.free
  split
  ·next k hk=>exact ⟨i+k,rfl,by have:=List.find?_some hk;exact this⟩
  ·next hn =>
   cases r with
   | zero =>
    exfalso
    have:i=j0:=e
    subst this
    have:=List.find?_eq_none.mp hn 0 (List.mem_range.mpr (by unfold runEnd;split<;>omega))
    exact this h0
   | succ r=>exact free_some h0 fuel r _ _ (Nat.lt_of_succ_lt_succ h) e
structure OwOk (mask:Nat) (owner:Array (Option Nat)) (k:Nat):Prop where
 s:owner.size=mask+1
 n:(owner.toList.filterMap id).length=k
 v:∀ v,some v∈owner.toList->v<k
theorem getD_none {owner:Array (Option Nat)}{j:Nat}(h:(owner.getD j (some 0)).isNone=true):owner.toList[j]? = some none:=by
 rw [Array.getElem?_toList]
 rw [Array.getD_eq_getD_getElem?] at h
 cases q:owner[j]? with
 | none=>rw [q] at h;cases h
 | some x =>
  rw [q] at h
  cases x with
  | none=>rfl
  | some y=>cases h
theorem lay_list {mask:Nat}(hm:Mk (mask+1)):∀ (hs:List Int) (owner:Array (Option Nat)) (k:Nat),OwOk mask owner k->k+hs.length<=mask->∃ owner',(hs.foldl (fun acc h=>acc >>= fun x:Array (Option Nat)×Nat=>layClean.free mask x.1 (turns mask) (bits h%(mask+1)) (bits h) >>= fun j=>pure (x.1.setIfInBounds j (some x.2),x.2+1)) (some (owner,k)))=some (owner',k+hs.length)/\OwOk mask owner' (k+hs.length)
 | [],owner,k,ok,_=>⟨owner,rfl,ok⟩
 | h::hs,owner,k,ok,hl=>by
  rw [List.length_cons] at hl
  obtain ⟨j0,hj0⟩:=some_none (l:=owner.toList) (by rw [ok.n,Array.length_toList,ok.s];omega)
  have jl:=(List.getElem?_eq_some_iff.mp hj0).1
  rw [Array.length_toList,ok.s] at jl
  have hb:bits h<2^64:=by unfold bits;omega
  obtain ⟨r,r1,r2⟩:=leaps_all hm hb (i:=bits h%(mask+1)) (Nat.mod_lt _ (Nat.succ_pos _)) jl
  have g0:(owner.getD j0 (some 0)).isNone=true:=by
   rw [Array.getElem?_toList] at hj0
   rw [Array.getD_eq_getD_getElem?,hj0]
   rfl
  obtain ⟨j,e1,e2⟩:=free_some (mask:=mask) g0 (turns mask) r _ _ (by unfold turns;omega) r2
  have ej:=getD_none e2
  have ok':OwOk mask (owner.setIfInBounds j (some k)) (k+1):=by
   refine ⟨by rw [Array.size_setIfInBounds];exact ok.s,?_,fun v hv=>?_⟩
   ·rw [Array.toList_setIfInBounds,set_some ej,ok.n]
   ·rw [Array.toList_setIfInBounds] at hv
    rcases List.mem_or_eq_of_mem_set hv with hv|hv
    ·exact Nat.lt_succ_of_lt (ok.v v hv)
    ·cases hv;exact Nat.lt_succ_self _
  obtain ⟨ow,f1,f2⟩:=lay_list hm hs _ (k+1) ok' (by omega)
  refine ⟨ow,?_,by rw [List.length_cons,show k+(hs.length+1)=k+1+hs.length by omega];exact f2⟩
  rw [List.foldl_cons,List.length_cons,show k+(hs.length+1)=k+1+hs.length by omega,<- f1]
  congr 1
  show (layClean.free mask owner (turns mask) (bits h%(mask+1)) (bits h) >>= fun j=>pure (owner.setIfInBounds j (some k),k+1))=_
  rw [e1]
  rfl
theorem laid_ok {mask finger moves:Nat}{led plain:Bool}{hs:Array Int}(hm:Mk (mask+1)) (hl:hs.size<=mask):∃ (t:SetTable) (order:Array Nat),laid mask finger moves led plain hs=some (t,order)/\t.mask=mask/\t.place.size=hs.size/\t.dummies=#[]/\order.size=hs.size/\∀ v∈order.toList,v<hs.size:=by
 have o0:OwOk mask (Array.replicate (mask+1) none) 0:=by
  refine ⟨Array.size_replicate,?_,fun v hv=>?_⟩
  ·rw [Array.toList_replicate]
   simp
  ·rw [Array.toList_replicate] at hv
   cases (List.eq_of_mem_replicate hv)
 obtain ⟨ow,f1,f2⟩:=lay_list hm hs.toList _ 0 o0 (by rw [Nat.zero_add,Array.length_toList];exact hl)
 rw [Nat.zero_add,Array.length_toList] at f1 f2
 have lc:layClean mask hs=some ow:=by
  unfold layClean
  rw [<- Array.foldl_toList]
  refine (congrArg (Option.map Prod.fst) f1).trans rfl
 unfold laid
 rw [lc]
 have e1:((List.range (mask+1)).filterMap fun j=>(ow.getD j none).map fun x=>(j,x)).map (·.2)=ow.toList.filterMap id:=by
  rw [List.map_filterMap]
  have:ow.toList=(List.range (mask+1)).map fun j=>ow.getD j none:=by
   apply List.ext_getElem?
   intro j
   rw [Array.getElem?_toList,List.getElem?_map]
   rcases Nat.lt_or_ge j (mask+1) with h|h
   ·rw [List.getElem?_range h,Array.getElem?_eq_getElem (by rw [f2.s];exact h)]
    show _=some (ow.getD j none)
    rw [Array.getD_eq_getD_getElem?,Array.getElem?_eq_getElem (by rw [f2.s];exact h)]
    rfl
   ·rw [List.getElem?_eq_none (by rw [List.length_range];exact h),Array.getElem?_eq_none (by rw [f2.s];exact h)]
    rfl
  rw [this,List.filterMap_map]
  congr 1
  funext j
  show Option.map _ (Option.map _ (ow.getD j none))=ow.getD j none
  cases ow.getD j none<;>rfl
 have e2:((List.range (mask+1)).filterMap fun j=>(ow.getD j none).map fun x=>(j,x)).length=hs.size:=by
  have:=congrArg List.length e1
  rw [List.length_map,f2.n] at this
  exact this
 refine ⟨_,_,rfl,rfl,?_,rfl,?_,fun v hv=>?_⟩
 ·show ((((List.range (mask+1)).filterMap fun j=>(ow.getD j none).map fun x=>(j,x)).map (·.1)).toArray).size=_
  rw [List.size_toArray,List.length_map,e2]
 ·show ((((List.range (mask+1)).filterMap fun j=>(ow.getD j none).map fun x=>(j,x)).map (·.2)).toArray).size=_
  rw [List.size_toArray,List.length_map,e2]
 ·have hv:v∈((List.range (mask+1)).filterMap fun j=>(ow.getD j none).map fun x=>(j,x)).map (·.2):=hv
  rw [e1] at hv
  obtain ⟨x,hx,e⟩:=List.mem_filterMap.mp hv
  have e:x=some v:=e
  subst e
  exact f2.v v hx
theorem grow_ok {n mask:Nat}(hm:Mk (mask+1)) (h1:n*5<mask*3) (h2:mask*3<=(n+1)*5) (hn:n<300):Mk (sizeAbove (grown (n+1))-1+1)/\(n+1)*5<(sizeAbove (grown (n+1))-1)*3/\sizeAbove (grown (n+1))<=512:=by
 have:(mask=7/\n=4)\/(mask=31/\n=18)\/(mask=127/\n=76):=by
  rcases hm with h|h|h|h<;>omega
 rcases this with ⟨_,rfl⟩|⟨_,rfl⟩|⟨_,rfl⟩
 ·exact ⟨.inr (.inl (by decide)),by decide,by decide⟩
 ·exact ⟨.inr (.inr (.inl (by decide))),by decide,by decide⟩
 ·exact ⟨.inr (.inr (.inr (by decide))),by decide,by decide⟩
end SetTable
end PySem
namespace L3
open PySem PySem.Spec PyProof.Rows L2
section
variable {prog:Program}{w:World}{A:Around}{E:Value->Shared->Prop}{s:Shared}{kd:SortKind}{a₀:Array Keyed}
structure So (kd:SortKind) (a₀:Array Keyed) (st:SortSt):Prop where
 pm:(arrOf st).Perm a₀
 kn:kindOf st=kd
 ok:failedOf st=none
 pn:pendingOf st=#[]
theorem So.get {st:SortSt}(h:So kd a₀ st) {i:Nat}(hi:i<a₀.size):∃ x∈a₀.toList,(arrOf st)[i]? = some x:=by
 have hz:i<(arrOf st).size:=by rw [h.pm.size_eq];exact hi
 exact ⟨(arrOf st)[i],(Array.perm_iff_toList_perm.mp h.pm).mem_iff.mp (by simp),getElem?_pos _ i hz⟩
def SoD (a₀:Array Keyed) (st:SortSt):Prop:=(arrOf st).Perm a₀/\failedOf st=none/\pendingOf st=#[(0,a₀.size,0)]
theorem So.fin {st:SortSt}(h:So kd a₀ st):SoD a₀ (setPending st ((pendingOf st).push (0,a₀.size,0))):=⟨h.pm,h.ok,by rw [h.pn];rfl⟩
def TuK (h:Heap) (ks:List Key) (v:Value):Prop:=∃ a o its n,v=.ref a/\h.get? a=some o/\o.cls=.type "tuple"/\o.data=.seq its n/\Vals (ks.map kV) its.toList
theorem TuK.mono {h h':Heap}{ks:List Key}{v:Value}(x:TuK h ks v) (k:∀ b o,h.get? b=some o->h'.get? b=some o):TuK h' ks v:=by
 obtain ⟨a,o,its,n,h1,h2,r⟩:=x
 exact ⟨a,o,its,n,h1,k _ _ h2,r⟩
end
section
variable {X:Cx}
unseal CallR2
end
end L3
namespace L2
open PySem PySem.Spec PyProof.Rows L3
section
variable {prog:Program}{w:World}{A:Around}{E:Value->Shared->Prop}{s:Shared}
abbrev tk (prog:Program) (w:World):HeapKind prog w (List Key):=tupleKind (mixKind prog w)
theorem ofA_val {n:Nat}{v:Value}(h:carriedByValue v=true):ofAClassStatement n v=pure false:=by
 cases v with
 | ref a=>simp [carriedByValue] at h
 | _=>first | rfl | (unfold ofAClassStatement;rfl)
theorem ofA_tuple {ks:List Key}{a:Addr}{Q:Bool->Shared->Prop}(hk:(tk prog w).is s.heap ks a) (q:Q false s):wpAny (model prog w) A (ofAClassStatement 8 (.ref a)) Q E s:=by
 have hT:=IsTupleKey.typeIs hk
 obtain ⟨o,items,n,ho,_,hd,hi⟩:=hk
 unfold ofAClassStatement
 refine wpAny_bind (wpAny_typeOf hT ?_)
 dsimp only
 rw [if_pos (by decide)]
 refine wpAny_bind (wpAny_pure ?_)
 rw [if_neg (by decide)]
 refine wpAny_bind (wpAny_seqItems ho hd ?_)
 dsimp only
 refine wpAny_bind ?_
 rw [<- Array.forIn_toList]
 refine wpAny_forIn_list _ (fun rest r s'=>r=(none,())/\s'=s/\∀ v∈rest,carriedByValue v=true) _ ?_ ?_ _ _ ⟨rfl,rfl,hi.byValue⟩
 ·rintro v rest r s' ⟨rfl,rfl,hall⟩
  rw [ofA_val (hall v List.mem_cons_self)]
  refine wpAny_bind (wpAny_pure ?_)
  rw [if_neg Bool.false_ne_true]
  exact wpAny_pure ⟨rfl,rfl,fun u hu'=>hall u (List.mem_cons_of_mem _ hu')⟩
 ·rintro r s' ⟨rfl,rfl,_⟩
  exact wpAny_pure q
theorem seen_tuples {k:List Key}{x:Addr}{l:List Value}{Q:Bool->Shared->Prop}(hx:(tk prog w).is s.heap k x) (hl:∀ v∈l,∃ k' b,v=.ref b/\(tk prog w).is s.heap k' b) (q:Q false s):wpAny (model prog w) A (searchCouldBeSeen (.ref x) l) Q E s:=by
 unfold searchCouldBeSeen
 refine wpAny_bind ?_
 refine wpAny_forIn_list _ (fun rest r s'=>r=(none,())/\s'=s/\∀ v∈rest,∃ k' b,v=.ref b/\(tk prog w).is s.heap k' b) _ ?_ ?_ _ _ ⟨rfl,rfl,hl⟩
 ·rintro v rest r s' ⟨rfl,rfl,hall⟩
  obtain ⟨k',b,rfl,hb⟩:=hall v List.mem_cons_self
  have tl:∀ u∈rest,∃ k' b,u=.ref b/\(tk prog w).is s'.heap k' b:=fun u hu=>hall u (List.mem_cons_of_mem _ hu)
  dsimp only
  split
  ·exact wpAny_pure ⟨rfl,rfl,tl⟩
  ·refine wpAny_bind ((tk prog w).quiet hx ?_)
   rw [if_neg (by decide)]
   refine wpAny_bind ((tk prog w).quiet hb ?_)
   rw [if_neg (by decide)]
   refine wpAny_bind (ofA_tuple hx ?_)
   rw [if_neg (by decide)]
   refine wpAny_bind (ofA_tuple hb ?_)
   rw [if_neg (by decide)]
   exact wpAny_pure ⟨rfl,rfl,tl⟩
 ·rintro r s' ⟨rfl,rfl,_⟩
  exact wpAny_pure q
structure StOf (prog:Program) (w:World) (ps:List (List Key×Addr)) (es:Array (Int×Value)) (t:SetTable):Prop where
 n:es.size=ps.length
 tb:SetTable.TbOk t es.size
 f:es.size*5<t.mask*3
 k:∀ e∈es.toList,∃ p∈ps,e=((tk prog w).hash p.1,Value.ref p.2)
theorem search_t {S x:Addr}{o:Obj}{es:Array (Int×Value)}{ep:Nat}{t:SetTable}{ps:List (List Key×Addr)}{k:List Key}{h:Int}{Q:SetFound->Shared->Prop}(hu:A.units<cLine) (ho:s.heap.get? S=some o) (hd:o.data=.set es ep t) (hS:StOf prog w ps es t) (hK:∀ p∈ps,(tk prog w).is s.heap p.1 p.2) (hx:(tk prog w).is s.heap k x) (nk:∀ p∈ps,p.1≠k)
  (q:∀ j,t.slot j=.empty->Q (.free j false) s):∀ (fuel n:Nat) (st:Option SetTable.Probe),n<fuel->n<10*SetTable.turns t.mask->(st.getD (t.probeStart h)).dummy=none->t.slot (SetTable.advs t n (st.getD (t.probeStart h))).j=.empty->wpAny (model prog w) A (setSearchFrom S (.ref x) h true fuel st) Q E s:=by
 have hf:=hS.tb.fits
 intro fuel
 induction fuel with
 | zero=>exact fun n st h=>absurd h (Nat.not_lt_zero _)
 | succ fuel ih =>
  intro n st h1 h2 h3 h4
  unfold setSearchFrom
  refine wpAny_bind (wpAny_setState_of ho hd hf ?_)
  dsimp only
  have gw:t.gaveWay=false:=by
   unfold SetTable.gaveWay
   have:=hS.tb.m
   unfold SetTable.Mk at this
   rw [beq_eq_false_iff_ne]
   omega
  rw [gw,if_neg Bool.false_ne_true]
  split
  ·next met hm =>
   rcases SetTable.met_of hS.tb.nd h2 h3 h4 hm with ⟨j,e,ej⟩|⟨j,i,next,s2,e,ej,l2,nd,e2⟩
   ·cases e
    exact wpAny_pure (q j ej)
   ·cases e
    have il:=hS.tb.live ej
    obtain ⟨⟨eh,ey⟩,ei⟩:∃ e,es[i]? = some e:=⟨_,Array.getElem?_eq_getElem il⟩
    obtain ⟨pr,mk,eb⟩:=hS.k _ (Array.mem_toList_iff.mpr (Array.mem_of_getElem? ei))
    cases eb
    have hb:=hK pr mk
    have ne:¬ pr.1=k:=nk pr mk
    have sm:t.sameMemory t.moves t.mask=some true:=by unfold SetTable.sameMemory;rw [if_pos (beq_self_eq_true _)]
    have all:∀ v∈((es.filter (·.1 == h)).toList.map (·.2)),∃ k' b,v=.ref b/\(tk prog w).is s.heap k' b:=fun v hv=>by
     obtain ⟨e,he,rfl⟩:=List.mem_map.mp hv
     obtain ⟨pr,mk,eb⟩:=hS.k e (Array.mem_toList_iff.mpr (Array.mem_filter.mp (Array.mem_toList_iff.mp he)).1)
     exact ⟨pr.1,pr.2,by rw [eb],hK pr mk⟩
    dsimp only
    refine wpAny_ite_split (fun _=>wpAny_bind (seen_tuples hx all ?_)) fun _=>?_
    ·rw [if_neg Bool.false_ne_true,ei]
     dsimp only
     refine wpAny_bind (wpAny_holding ((tk prog w).eqBool hu hb hx ?_))
     rw [decide_eq_false ne]
     refine wpAny_bind (wpAny_setState_of ho hd hf ?_)
     rw [if_neg (by decide),sm]
     dsimp only
     rw [if_pos rfl,ej]
     dsimp only
     rw [ei]
     dsimp only
     refine wpAny_bind (wpAny_isSame_ref_self (wpAny_bind (wpAny_pure ?_)))
     rw [if_pos rfl]
     dsimp only
     rw [if_neg Bool.false_ne_true]
     exact ih s2 (some next) (by omega) (by omega) nd e2
    ·rw [ei]
     dsimp only
     refine wpAny_bind (wpAny_holding ((tk prog w).eqBool hu hb hx ?_))
     rw [decide_eq_false ne]
     refine wpAny_bind (wpAny_setState_of ho hd hf ?_)
     rw [if_neg (by decide),sm]
     dsimp only
     rw [if_pos rfl,ej]
     dsimp only
     rw [ei]
     dsimp only
     refine wpAny_bind (wpAny_isSame_ref_self (wpAny_bind (wpAny_pure ?_)))
     rw [if_pos rfl]
     dsimp only
     rw [if_neg Bool.false_ne_true]
     exact ih s2 (some next) (by omega) (by omega) nd e2
  ·next hm =>
   rcases SetTable.met_of hS.tb.nd h2 h3 h4 rfl with ⟨j,e,_⟩|⟨j,i,next,s2,e,_⟩
   ·exact absurd e (hm _)
   ·exact absurd e (hm _)
theorem hbv_val {n:Nat}{v:Value}(h:carriedByValue v=true):∃ b,hashByValue n v=pure b:=by
 cases v with
 | ref a=>simp [carriedByValue] at h
 | _=>first | exact ⟨_,rfl⟩ | (unfold hashByValue;exact ⟨_,rfl⟩)
theorem hbv_tuple {ks:List Key}{a:Addr}{Q:Bool->Shared->Prop}(hk:(tk prog w).is s.heap ks a) (q:∀ b,Q b s):wpAny (model prog w) A (hashByValue 8 (.ref a)) Q E s:=by
 have hT:=IsTupleKey.typeIs hk
 obtain ⟨o,items,n,ho,_,hd,hi⟩:=hk
 unfold hashByValue
 refine wpAny_bind (wpAny_specialOf hT F.slot_tuple_hash.lookup ?_)
 show wpAny _ _ (seqItems? (.ref a) >>= _) Q E s
 refine wpAny_bind (wpAny_seqItems ho hd (wpAny_bind ?_))
 rw [Option.getD_some,<- Array.forIn_toList]
 refine wpAny_forIn_list _ (fun rest r s'=>r=(none,())/\s'=s/\∀ v∈rest,carriedByValue v=true) _ ?_ ?_ _ _ ⟨rfl,rfl,hi.byValue⟩
 ·rintro v rest r s' ⟨rfl,rfl,hall⟩
  obtain ⟨b,e⟩:=hbv_val (n:=7) (hall v List.mem_cons_self)
  rw [e]
  refine wpAny_bind (wpAny_pure ?_)
  cases b with
  | false=>exact wpAny_pure (wpAny_pure (q _))
  | true=>exact wpAny_pure ⟨rfl,rfl,fun u hu=>hall u (List.mem_cons_of_mem _ hu)⟩
 ·rintro r s' ⟨rfl,rfl,_⟩
  exact wpAny_pure (q _)
def reord (es:Array (Int×Value)) (laid:Option (SetTable×Array Nat)):Sem (Array (Int×Value)×SetTable):=do
 let some (t,order):=laid | unsupported "internal:set-table-without-room"
 let es':=order.filterMap (es[·]?)
 if es'.size != es.size then unsupported "internal:set-table-lost-an-element"
 pure (es',t)
theorem relay_eq (a:Addr) (wanted:Nat):setRelay a wanted=(do
  let (es,_,t) <- setState a
  if SetTable.sizeAbove wanted > sizeLine then unsupported "set:memory"
  let (es,t) <- reord es (t.relaid (es.map (·.1)) wanted)
  storeSet a es t):=rfl
theorem ins_size {α:Type}{xs:Array α}{p:Nat}{x:α}:(SetTable.insertAt xs p x).size=xs.size+1:=by
 unfold SetTable.insertAt
 simp
 omega
theorem ins_mem {α:Type}{xs:Array α}{p:Nat}{x y:α}(h:y∈(SetTable.insertAt xs p x).toList):y∈xs.toList\/y=x:=by
 unfold SetTable.insertAt at h
 simp at h
 rcases h with h|h|h
 ·exact .inl (List.mem_of_mem_take h)
 ·exact .inr h
 ·exact .inl (List.mem_of_mem_drop (List.mem_of_mem_take h))
theorem fm_all {α β:Type}{f:α->Option β}:∀ {l:List α},(∀ x∈l,∃ y,f x=some y)->(l.filterMap f).length=l.length
 | [],_=>rfl
 | x::l,h=>by
  obtain ⟨y,e⟩:=h x List.mem_cons_self
  rw [List.filterMap_cons,e,List.length_cons,List.length_cons,fm_all fun z hz=>h z (List.mem_cons_of_mem _ hz)]
theorem add_t {S x:Addr}{o:Obj}{es:Array (Int×Value)}{ep:Nat}{t:SetTable}{ps:List (List Key×Addr)}{k:List Key}{Q:Bool->Shared->Prop}(hu:A.units<cLine) (ho:s.heap.get? S=some o) (hex:o.ExactSet) (hd:o.data=.set es ep t) (hS:StOf prog w ps es t) (hK:∀ p∈ps,(tk prog w).is s.heap p.1 p.2) (hx:(tk prog w).is s.heap k x) (nk:∀ p∈ps,p.1≠k) (hz:ps.length<300)
  (q:∀ h',Heap.SameBut S s.heap h'->(∃ o' es' ep' t',h'.get? S=some o'/\o'.ExactSet/\o'.data=.set es' ep' t'/\StOf prog w (ps++[(k,x)]) es' t')->Q true { s with heap:=h' }):wpAny (model prog w) A (setAddHashed S (.ref x) ((tk prog w).hash k)) Q E s:=by
 have hf:=hS.tb.fits
 have z300:es.size<300:=by rw [hS.n];exact hz
 unfold setAddHashed setAddHashedIn
 refine wpAny_holding (wpAny_bind (wpAny_setState_of ho hd hf ?_))
 dsimp only
 have bs:byScan (.ref x) es=false:=by unfold byScan;rfl
 rw [bs,if_neg Bool.false_ne_true]
 unfold setSearch
 obtain ⟨j0,j1,j2⟩:=hS.tb.room
 have hm:t.mask=(t.mask+1)-1:=rfl
 obtain ⟨n,n1,n2⟩:=SetTable.adv_all hS.tb.m hm (p:=t.probeStart ((tk prog w).hash k)) (SetTable.run_le _ _) (Nat.le_of_lt_succ (Nat.mod_lt _ (Nat.succ_pos _))) (by show SetTable.bits _<_;unfold SetTable.bits;omega) j1
 have m511:t.mask<=511:=by have:=hS.tb.m;unfold SetTable.Mk at this;omega
 refine wpAny_bind (search_t (h:=(tk prog w).hash k) hu ho hd hS hK hx nk (fun j hj=>?_) 100000 n none (by unfold SetTable.turns at n1;omega) n1 rfl (by show t.slot (SetTable.advs t n (t.probeStart _)).j=_;rw [n2];exact j2))
 dsimp only
 refine wpAny_bind (wpAny_setState_of ho hd hf ?_)
 dsimp only
 have pz:(t.put j).1.place.size=es.size+1:=by
  show (SetTable.insertAt t.place _ j).size=_
  rw [ins_size,hS.tb.p]
 have pd:(t.put j).1.dummies=#[]:=by
  show (if SetTable.has t.dummies j then SetTable.eraseAt t.dummies (SetTable.below t.dummies j) else t.dummies)=_
  rw [hS.tb.d,if_neg (by unfold SetTable.has;simp)]
 have tail:∀ t1:SetTable,t1.mask=t.mask->t1.place.size=es.size+1->t1.dummies=#[]->wpAny (model prog w) A (do
   storeSet S (SetTable.insertAt es (t.put j).2 ((tk prog w).hash k,.ref x)) t1
   if (!false && t1.tooFull)=true then do
    setRelay S (SetTable.grown (es.size+1))
    pure true
   else pure true) Q E s:=fun t1 q1 q2 q3=>by
  generalize hes:SetTable.insertAt es (t.put j).2 ((tk prog w).hash k,Value.ref x)=es1
  have s1:es1.size=es.size+1:=by rw [<- hes,ins_size]
  have m1:∀ e∈es1.toList,e∈es.toList\/e=((tk prog w).hash k,Value.ref x):=fun e he=>by rw [<- hes] at he;exact ins_mem he
  have big:(600:Nat)<=sizeLine:=by decide
  refine wpAny_bind (wpAny_storeSet_of ho hd ?_ (by omega))
  have g1:(s.heap.update S (Obj.putSet es1 t1)).get? S=some { o with data:=.set es1 (ep+1) t1 }:=by
   have:=Heap.get?_update_self (Obj.putSet es1 t1) ho (by rw [putSet_of es1 t1 hd];rfl)
   rw [putSet_of es1 t1 hd] at this
   exact this
  have sb1:=Heap.SameBut.update s.heap S (Obj.putSet es1 t1)
  have fl:t1.fill=es.size+1:=by unfold SetTable.fill;rw [q2,q3];rfl
  have elm:∀ e∈es1.toList,∃ p∈ps++[(k,x)],e=((tk prog w).hash p.1,Value.ref p.2):=fun e he=>by
   rcases m1 e he with he|rfl
   ·obtain ⟨p,mp,e⟩:=hS.k e he
    exact ⟨p,List.mem_append_left _ mp,e⟩
   ·exact ⟨(k,x),List.mem_append_right _ List.mem_cons_self,rfl⟩
  have kl:(ps++[(k,x)]).length=es.size+1:=by rw [List.length_append,<- hS.n];rfl
  have f0:=hS.f
  refine wpAny_ite_split (fun c=>?_) fun c=>?_
  ·have c2:t.mask*3<=(es.size+1)*5:=by
    simp only [Bool.not_false,Bool.true_and,SetTable.tooFull,fl,decide_eq_true_eq] at c
    rw [<- q1];exact c
   obtain ⟨g2,g3,g4⟩:=SetTable.grow_ok hS.tb.m f0 c2 z300
   have m8:7<=t.mask:=by have:=hS.tb.m;unfold SetTable.Mk at this;omega
   have hf1:t1.fits es1.size=true:=by
    unfold SetTable.fits
    rw [fl,q1,q2,s1]
    simp
    omega
   rw [relay_eq]
   refine wpAny_bind (wpAny_bind (wpAny_setState_of g1 rfl hf1 ?_))
   dsimp only
   rw [if_neg (by omega)]
   obtain ⟨t2,order,l1,l2,l3,l4,l5,l6⟩:=SetTable.laid_ok (mask:=SetTable.sizeAbove (SetTable.grown (es.size+1))-1) (finger:=t1.finger) (moves:=t1.movedTo (SetTable.sizeAbove (SetTable.grown (es.size+1))-1)) (led:=t1.led) (plain:=t1.plain) (hs:=es1.map (·.1)) g2 (by rw [Array.size_map,s1];omega)
   rw [Array.size_map] at l3 l5 l6
   have sz2:(order.filterMap (es1[·]?)).size=es1.size:=by
    rw [<- Array.length_toList,Array.toList_filterMap,fm_all,Array.length_toList,l5]
    exact fun v hv=>⟨_,Array.getElem?_eq_getElem (l6 v hv)⟩
   unfold reord
   rw [show t1.relaid (es1.map (·.1)) (SetTable.grown (es.size+1))=some (t2,order) from l1]
   dsimp only
   rw [sz2,if_neg (by simp)]
   refine wpAny_bind (wpAny_pure ?_)
   dsimp only
   refine wpAny_storeSet_of g1 rfl ?_ (by omega)
   have sb2:=sb1.trans (Heap.SameBut.update _ S (Obj.putSet (order.filterMap (es1[·]?)) t2))
   refine wpAny_pure (q _ sb2 ⟨{ o with data:=.set (order.filterMap (es1[·]?)) (ep+1+1) t2 },_,_,t2,?_,hex,rfl,by rw [sz2,s1,kl],⟨by rw [l2];exact g2,by rw [sz2];exact l3,l4,by rw [sz2,s1,l2];omega⟩,by rw [sz2,s1,l2];omega,fun e he=>elm e ?_⟩)
   ·have:=Heap.get?_update_self (Obj.putSet (order.filterMap (es1[·]?)) t2) g1 (by rw [putSet_of _ t2 rfl];rfl)
    rw [putSet_of _ t2 rfl] at this
    exact this
   ·rw [Array.toList_filterMap] at he
    obtain ⟨v,_,e'⟩:=List.mem_filterMap.mp he
    exact Array.mem_toList_iff.mpr (Array.mem_of_getElem? e')
  ·have c2:(es.size+1)*5<t.mask*3:=by
    simp only [Bool.not_false,Bool.true_and,SetTable.tooFull,fl,decide_eq_true_eq] at c
    rw [<- q1];omega
   exact wpAny_pure (q _ sb1 ⟨_,es1,ep+1,t1,g1,hex,rfl,by rw [s1,kl],⟨by rw [q1];exact hS.tb.m,by rw [s1];exact q2,q3,by rw [s1,q1];omega⟩,by rw [s1,q1];exact c2,elm⟩)
 refine wpAny_ite_split (fun _=>wpAny_bind (hbv_tuple hx fun b=>?_)) fun _=>wpAny_bind (wpAny_pure (tail _ rfl pz pd))
 cases b with
 | true=>exact tail _ rfl pz pd
 | false=>exact tail _ rfl pz pd
def SetT (prog:Program) (w:World) (h:Heap) (S:Addr) (ps:List (List Key×Addr)):Prop:=∃ o es ep t,h.get? S=some o/\o.ExactSet/\o.data=.set es ep t/\StOf prog w ps es t
end
section
variable {prog:Program}{w:World}{A:Around}{R:Result->Shared->Prop}{I:Addr}{fp wr:List Addr}{G:Array GenState->Array GenState->Prop}{n:Nat}{P:Nat->Value->Prop}{St:Nat->Shared->Prop}
theorem is_kept {h h':Heap}{k:List Key}{b:Addr}(hb:(tk prog w).is h k b) (hs:∀ o,h.get? b=some o->h'.get? b=some o):(tk prog w).is h' k b:=by
 obtain ⟨o,items,n,h1,r⟩:=hb
 exact ⟨o,items,n,hs _ h1,r⟩
theorem set_loopT (W:WalksS prog w A.in1 I fp wr G n P St) (hu:A.in1.units<cLine) (S:Addr) (hSf:S∉fp) (ps:List (List Key×Addr)) (hx:ps.length=n) (hval:∀ i v (h:i<ps.length),P i v->v=.ref ps[i].2) (nd:(ps.map (·.1)).Nodup) (hw:∀ p∈ps,p.2∉S::wr) (hb:n<300) :
  ∀ (k i:Nat) (s:Shared),n-i=k->i<=n->St i s->(∀ p∈ps,(tk prog w).is s.heap p.1 p.2)->SetT prog w s.heap S (ps.take i) ->
   (∀ s',Moved (S::wr) G s s'->SetT prog w s'.heap S ps->R (.ok (.ret .none)) s')->codeAny (model prog w) A (.builtin "set.update.loop" ⟨[.ref S,.ref I],[]⟩) R s:=by
 have hSw:S∉wr:=fun h=>hSf (W.sub _ h)
 have more:∀ b∈wr,b∈S::wr:=fun b hb=>List.mem_cons_of_mem _ hb
 intro k
 induction k with
 | zero =>
  intro i s hk hi hst hK ⟨o,es,ep,t,ho,r⟩ hR
  obtain rfl:i=n:=by omega
  refine codeAny_builtin F.entry_set_update_loop ?_
  rw [Around.under_plainId F.plain_set_update_loop _]
  show wpAny _ A.in1 (pyNext (.ref I) >>= _) _ _ s
  refine wpAny_bind (W.done s _ _ hst fun s' hm=>?_)
  show wpAny _ A.in1 (ret Value.none) _ _ s'
  rw [List.take_of_length_le (Nat.le_of_eq hx)] at r
  exact wpAny_pure (hR s' (hm.mono more) ⟨o,es,ep,t,hm.heap S _ hSw ho,r⟩)
 | succ k ih =>
  intro i s hk hi hst hK ⟨o,es,ep,t,ho,hex,hd,hS⟩ hR
  have hlt:i<n:=by omega
  refine codeAny_builtin F.entry_set_update_loop ?_
  rw [Around.under_plainId F.plain_set_update_loop _]
  show wpAny _ A.in1 (pyNext (.ref I) >>= _) _ _ s
  refine wpAny_bind (W.item i s _ _ hlt hst fun v s' hP hst' hm=>?_)
  cases hval i v (by omega) hP
  have K':∀ p∈ps,(tk prog w).is s'.heap p.1 p.2:=fun p hp=>is_kept (hK p hp) fun o e=>hm.heap _ _ (fun z=>hw p hp (more _ z)) e
  have mi:ps[i]∈ps:=List.getElem_mem _
  show wpAny _ A.in1 (holding [Value.ref ps[i].2] (setAdd S (.ref ps[i].2)) >>= _) _ _ s'
  refine wpAny_bind (wpAny_holding ?_)
  unfold setAdd
  refine wpAny_holding (wpAny_bind ((tk prog w).pyHash hu (K' _ mi) ?_))
  have fresh:∀ p∈ps.take i,p.1≠ps[i].1:=fun p hp e=>by
   obtain ⟨j,hj,rfl⟩:=List.getElem_of_mem hp
   rw [List.length_take] at hj
   rw [List.getElem_take] at e
   have h1:(ps.map (·.1))[j]'(by rw [List.length_map];omega)=(ps.map (·.1))[i]'(by rw [List.length_map];omega):=by
    rw [List.getElem_map,List.getElem_map];exact e
   have:=(List.getElem_inj nd).mp h1
   omega
  refine add_t (s:={ s' with toks:=s'.toks+(tk prog w).draws ps[i].1 }) hu (hm.heap S _ hSw ho) hex hd hS (fun p hp=>K' p (List.mem_of_mem_take hp)) (K' _ mi) fresh (by rw [List.length_take];omega) fun h' sb hS2=>?_
  have e:ps.take (i+1)=ps.take i++[(ps[i].1,ps[i].2)]:=by rw [List.take_succ_eq_append_getElem (by omega)]
  rw [<- e] at hS2
  refine wpAny_pure ⟨plainId_quiet F.plain_set_update_loop _,ih (i+1) _ (by omega) hlt (W.frame _ s' _ _ hst' (Nat.le_add_right _ _) fun b hb o e=>?_) (fun p hp=>is_kept (K' p hp) fun o e=>?_) hS2 fun s'' hm'' hS''=>?_⟩
  ·rw [sb.2 b (fun h:b=S=>hSf (by rw [<- h];exact hb))];exact e
  ·rw [sb.2 _ fun h=>hw p hp (by rw [h];exact List.mem_cons_self)];exact e
  ·refine hR s'' (Moved.trans W.gtrans ((hm.mono more).then_heap (Nat.le_add_right _ _) fun b o hb e=>?_) hm'') hS''
   rw [sb.2 b (fun h:b=S=>hb (by rw [h];exact List.mem_cons_self))];exact e
end
theorem setT_fresh {prog:Program}{w:World}{h:Heap}{a:Addr}{led:Bool}(hg:h.get? a=some { cls:=.type "set",dict:=none,data:=.set #[] 0 (.fresh 0 0 led) }):SetT prog w h a []:=⟨_,#[],0,_,hg,⟨rfl,rfl,rfl⟩,rfl,rfl,⟨.inl rfl,rfl,rfl,show (0:Nat)<=7 by decide⟩,show 0*5<7*3 by decide,fun e he=>absurd he (by simp)⟩
set_option maxHeartbeats 3200000 in
theorem set_initT {prog:Program}{w:World}{A:Around}{E:Value->Shared->Prop}{s:Shared}{S l:Addr}{items:Array Value}{ps:List (List Key×Addr)}{led:Bool}{Q:Shared->Prop}(hh:A.handled=none) (hu:A.units+3<cLine)
  (hS:s.heap.get? S=some { cls:=.type "set",dict:=none,data:=.set #[] 0 (.fresh 0 0 led) }) (hl:s.heap.IsList l items) (hx:ps.length=items.size) (hi:∀ (i:Nat) (v:Value) (h:i<ps.length),items[i]? = some v->v=.ref ps[i].2) (nd:(ps.map (·.1)).Nodup) (hK:∀ p∈ps,(tk prog w).is s.heap p.1 p.2) (hb:items.size<300)
  (h:∀ (h':Heap) (tk:Nat),SetT prog w h' S ps->(∀ b o,b≠S->s.heap.get? b=some o->h'.get? b=some o)->Q { s with heap:=h',toks:=tk }) :
  codeAny (model prog w) A (.call (.builtin "set.__init__") ⟨[.ref S,.ref l],[]⟩) (wants (fun r s₂=>r=.none/\Q s₂) E) s:=by
 have hT:s.TypeIs (.ref S) "set":=⟨_,hS,rfl⟩
 have hSlt:S<s.heap.objs.size:=Heap.lt_size hS
 have ne:l≠S:=fun e=>by
  subst e
  obtain ⟨o,ho,hc,-⟩:=hl
  rw [hS] at ho
  cases ho
  exact absurd (show Value.type "set" = Value.type "list" from hc) (by decide)
 refine codeAny_call_builtin F.called_set.init.plain F.entry_set_init (check_set_init_1 hT ?_)
 have hl0:=hl
 obtain ⟨⟨lc,ld,ldata,lsl⟩,hol,hcl,nl,hdl⟩:=hl
 dsimp only at hcl hdl
 subst hcl
 subst hdl
 have f1:=PySem.F.sub_list_set
 have f2:=PySem.F.sub_list_frozenset
 have f3:(Value.type "list" == Value.type "dict")=false:=by decide
 unfold Builtin.«set.__init__» noKeywords Builtin.Frozenset.updateFrom
 generalize hPI:pyIter=PI
 wp_walk
 subst hPI
 refine wpAny_pyIter_list hl0 (wpAny_bind (wpAny_runValue ?_))
 have hllt:l<s.heap.objs.size:=Heap.lt_size hol
 have hp:∀ p∈ps,p.2<s.heap.objs.size/\p.2≠S:=fun p hp=>by
  obtain ⟨o,its,n,h1,h2,_⟩:=hK p hp
  refine ⟨Heap.lt_size h1,fun e=>?_⟩
  rw [e,hS] at h1
  cases h1
  exact absurd (show Value.type "set" = Value.type "tuple" from h2) (by decide)
 refine set_loopT ((Walks.list (by simp [hh]) _ l (Nat.ne_of_lt hllt) items).toS) ?_ S (by simp [Nat.ne_of_lt hSlt,Ne.symm ne]) ps hx (fun i v hlt hv=>hi i v hlt hv) nd (fun p h=>?_) hb (items.size-0) 0 _ (by omega) (Nat.zero_le _)
  ⟨⟨_,Heap.get?_push_size _ rfl,rfl,rfl⟩,hl0.push _⟩ (fun p h=>is_kept (hK p h) fun o e=>Heap.get?_push_of_some _ e) (setT_fresh (Heap.get?_push_of_some _ hS)) ?_
 ·show A.units+1+1<cLine
  omega
 ·have:=hp p h
  simp only [List.mem_cons,List.not_mem_nil,or_false,not_or]
  exact ⟨this.2,Nat.ne_of_lt this.1⟩
 intro s' hm hS'
 obtain ⟨h',g',d',tk',os'⟩:=s'
 have eg:g'=s.gens:=hm.gens
 have ed:d'=s.drawn:=hm.drawn
 have eo:os'=s.os:=hm.os
 subst eg;subst ed;subst eo
 refine wpAny_pure (wpAny_pure ⟨rfl,h h' tk' hS' fun b o hbS e=>hm.heap b o ?_ (Heap.get?_push_of_some _ e)⟩)
 have:=Heap.lt_size e
 simp only [List.mem_cons,List.not_mem_nil,or_false,not_or]
 exact ⟨hbS,Nat.ne_of_lt this⟩
theorem call_setT {prog:Program}{w:World}{A:Around}{E:Value->Shared->Prop}{s:Shared}{l:Addr}{items:Array Value}{ps:List (List Key×Addr)}{Q:Value->Shared->Prop}(hh:A.handled=none) (hu:A.units+4<cLine) (hl:s.heap.IsList l items) (hx:ps.length=items.size) (hi:∀ (i:Nat) (v:Value) (h:i<ps.length),items[i]? = some v->v=.ref ps[i].2) (nd:(ps.map (·.1)).Nodup) (hK:∀ p∈ps,(tk prog w).is s.heap p.1 p.2) (hb:items.size<300)
  (h:∀ (h':Heap) (tk:Nat),SetT prog w h' s.heap.objs.size ps->(∀ b o,s.heap.get? b=some o->h'.get? b=some o)->Q (.ref s.heap.objs.size) { s with heap:=h',toks:=tk }) :
  wpAny (model prog w) A (call (.type "set") [.ref l]) Q E s:=by
 refine callTypeW F.called_set (PySem.F.typeCall_set_1 _) (set_new_led (.ref l) (Q₁:=fun obj s₁=>obj=.ref s.heap.objs.size/\s₁={ s with heap:=s.heap.push { cls:=.type "set",dict:=none,data:=.set #[] 0 (.fresh 0 0 (!(w.params.followText "set-order"))) } }) ⟨rfl,rfl⟩) ?_
 rintro _ _ ⟨rfl,rfl⟩
 refine ⟨⟨_,Heap.get?_push_size _ rfl,rfl⟩,set_initT (by simp [hh]) (by show A.units+1+3<cLine;omega) (Heap.get?_push_size _ rfl) (hl.push _) hx hi nd (fun p hp=>is_kept (hK p hp) fun o e=>Heap.get?_push_of_some _ e) hb fun h' tk hS' hk=>h h' tk hS' fun b o e=>hk b o (Nat.ne_of_lt (Heap.lt_size e)) (Heap.get?_push_of_some _ e)⟩
section
variable {X:Cx}
def cLS (K:PySem.W.Frag) (Q:VK) (x:V) (H1:Hp):Prop:=∃ (p:Addr) (xs:List V) (kss:List (List Key)),x=.ref p/\SqL K H1 p xs/\xs.length=kss.length/\(∀ (i:Nat) v k,xs[i]? = some v->kss[i]? = some k->∃ b,v=.ref b/\SqT K H1 b (k.map kV))/\kss.Nodup/\kss.length<300/\Q (.int kss.length) H1
theorem prs_of {K:PySem.W.Frag}{H:Hp}:∀ {xs:List V}{its:List Value}{kss:List (List Key)},Vals xs its->xs.length=kss.length->(∀ (i:Nat) v k,xs[i]? = some v->kss[i]? = some k->∃ b,v=.ref b/\SqT K H b (k.map kV))->∃ ps:List (List Key×Addr),ps.map (·.1)=kss/\its=ps.map (fun p=>Value.ref p.2)/\∀ p∈ps,SqT K H p.2 (p.1.map kV)
 | [],[],[],_,_,_=>⟨[],rfl,rfl,fun _ h=>nomatch h⟩
 | x::xs,u::its,k::kss,.cons r t,hl,h=>by
  obtain ⟨ps,h1,h2,h3⟩:=prs_of t (Nat.succ.inj hl) fun i v k a b=>h (i+1) v k a b
  obtain ⟨b,rfl,hb⟩:=h 0 x k rfl rfl
  cases (show u=Value.ref b from r)
  refine ⟨(k,b)::ps,by rw [List.map_cons,h1],by rw [List.map_cons,h2],fun p hp=>?_⟩
  rcases List.mem_cons.mp hp with rfl|hp
  ·exact hb
  ·exact h3 p hp
theorem pe_lenSet {e:Expr}{ta:TE}{p1 p2 pos pos2:Pos}(hc:X.calm=true) (hu:X.A.units+45<cLine) (ha:PE X e ta) (hm1:X.mg "len" = none) (hm2:X.mg "set" = none) (hg1:Gl X "len":=by rfl) (hg2:Gl X "set":=by rfl)
  (he:starEach [e] X.env=(false,eval e X.env)::starEach [] X.env:=by rfl) :
  PE X (.Call (.Name "len" p1) [.Call (.Name "set" p2) [e] [] pos2] [] pos) (fun σ H Q=>ta σ H (cLS X.K Q)):=by
 intro pins s σ H Q I h
 refine wpAny_Call_Name_kw (ld_blt I hg1 hm1 (u:=.builtin "len") rfl ?_)
 refine PyProof.Rows.callWith_builtin1 ?_ rfl rfl
 show wpAny _ _ (spliced ((false,eval (.Call (.Name "set" p2) [e] [] pos2) X.env)::backTo pos (starEach [] X.env))) _ _ s
 refine Calls.spliced_cons ?_
 refine wpAny_Call_Name_kw (ld_blt I hg2 hm2 (u:=.type "set") rfl ?_)
 refine PyProof.Rows.callWith_type1 (thn (pa_cons ha pa_nil he pos2 pins s σ H (fun vs H1=>match vs with | [x]=>cLS X.K Q x H1 | _=>False) I h) fun us s1 ⟨vs,H1,I1,r1,q1⟩=>?_) he rfl
 match vs,r1,q1 with
 | [x],r1,⟨p,xs,kss,hx,hs,hl,hv,nd,hz,q⟩ =>
  subst hx
  obtain ⟨u,rfl,ru⟩:=vals1 r1
  cases (show u=Value.ref p from ru)
  obtain ⟨its,rv,pl,hzz⟩:=I1.list hs
  obtain ⟨ps,e1,e2,h3⟩:=prs_of rv hl hv
  have pl2:ps.length=kss.length:=by rw [<- e1,List.length_map]
  have il:its.length=ps.length:=by rw [e2,List.length_map]
  have hK:∀ p∈ps,(tk X.prog X.w).is s1.heap p.1 p.2:=fun p hp=>by
   obtain ⟨vs,r,⟨o,h1,h2,n,h3⟩,_⟩:=I1.tuple (h3 p hp)
   exact ⟨o,_,n,h1,h2,h3,items_are r⟩
  refine call_setT (I1.ok.hd hc) (by omega) pl.isList (by rw [List.size_toArray,il]) (fun i v hi hv=>?_) (by rw [e1];exact nd) hK (by rw [List.size_toArray];omega) fun h2 tk2 ⟨o,es,ep,t,ho,hex,hd,hS⟩ hk2=>?_
  ·rw [List.getElem?_toArray,e2,List.getElem?_map,List.getElem?_eq_getElem hi] at hv
   exact (Option.some.inj hv).symm
  ·refine Calls.spliced_nil ?_
   have zl:es.size=kss.length:=by rw [hS.n,pl2]
   refine call_len_set (s:={ s1 with heap:=h2,toks:=tk2 }) ho hex hd hS.tb.fits (by omega) ?_
   rw [zl]
   exact ⟨.int kss.length,H1,I1.kept (t':=tk2+1+1) hk2,⟨_,rfl⟩,q⟩
end
end L2
namespace L3
open PySem PySem.Spec PyProof.Rows L2
def uLS (ta:TE2):TE2:=fun τ M Q=>ta τ M fun x M1=>onO (lsOf M1 x) fun ds=>∃ kss:List (List Key),ds=kss.map tkD/\kss.Nodup/\kss.length<300/\Q (.int kss.length) M1
unseal PE2
theorem qLS {X:Cx}{e:Expr}{ta:TE2}{p1 p2 pos pos2:Pos}(hc:X.calm=true) (hu:X.A.units+45<cLine) (hm1:X.mg "len" = none) (hm2:X.mg "set" = none) (ha:PE2 X e ta) (hg1:Gl X "len":=by rfl) (hg2:Gl X "set":=by rfl) (he:starEach [e] X.env=(false,eval e X.env)::starEach [] X.env:=by rfl) :
  PE2 X (.Call (.Name "len" p1) [.Call (.Name "set" p2) [e] [] pos2] [] pos) (uLS ta):=PE.mono (pe_lenSet hc hu ha hm1 hm2 hg1 hg2 he) (by
 rintro σ H Q ⟨Z,τ,M,Q2,st,hr,h,k⟩
 refine lE.bind st hr h fun Z1 x dx H1 M1 l1 h1 a1 q1=>?_
 obtain ⟨ds,e,kss,rfl,nd,hz,q2⟩:=of_O q1
 obtain ⟨p,ws,rfl,hs,a2⟩:=h1.rdL e a1
 have hl:=a2.length
 rw [List.length_map] at hl
 refine ⟨p,ws,kss,rfl,hs,hl,fun i v kk hv hk=>?_,nd,hz,?_⟩
 ·obtain ⟨v',hv',av⟩:=a2.get (i:=i) (d:=tkD kk) (by rw [List.getElem?_map,hk];rfl)
  rw [hv] at hv'
  cases hv'
  obtain ⟨b,vs,rfl,hb,a3⟩:=h1.rdT av
  have e3:=ats_keys a3
  subst e3
  exact ⟨b,rfl,hb⟩
 ·exact k Z1 (.int kss.length) (.int kss.length) H1 M1 l1 h1 rfl q2)
theorem r_LS {ta:TE2}{τ:St2}{M:Mp}{Q:VK2}:uLS ta τ M Q=ta τ M fun x M1=>onO (lsOf M1 x) fun ds=>∃ kss:List (List Key),ds=kss.map tkD/\kss.Nodup/\kss.length<300/\Q (.int kss.length) M1:=rfl
end L3
namespace L2
open PySem PySem.Spec PyProof.Rows
section
variable {X:Cx}{a b c d:Expr}{ta tb tc td:TE}{pos:Pos}
def tChain3 (r r' r'':R2) (ta tb tc td:TE):TE:=fun σ H Q=>ta σ H fun x H1=>tb σ H1 fun y H2=>r x y H2 fun z H3=>∃ k,z=.bl k /\
 (if k=true then tc σ H3 fun w H4=>r' y w H4 fun z' H5=>∃ k',z'=.bl k'/\(if k'=true then td σ H5 fun v H6=>r'' w v H6 Q else Q (.bl false) H5) else Q (.bl false) H3)
theorem pt_chain3 {op op' op'':CmpOp}{r r' r'':R2}(ho:OpR X (compareOp op) r) (ho':OpR X (compareOp op') r') (ho'':OpR X (compareOp op'') r'') (ha:PE X a ta) (hb:PE X b tb) (hc:PE X c tc) (hd:PE X d td)
  (hm:lastMarks [op,op',op''] [b,c,d]=false:=by with_unfolding_all rfl):PT X (.Compare a [op,op',op''] [b,c,d] pos) (tTest (tChain3 r r' r'' ta tb tc td)):=by
 intro pins s σ H Q I h
 refine isTrue_chain (thn (ha pins s σ H _ I h) fun v s1 ⟨x,H1,I1,r1,q1⟩=>test_link (thn (hb pins s1 σ H1 _ I1 q1) fun u s2 ⟨y,H2,I2,r2,q2⟩ =>
  thn (ho pins s2 σ H2 x y v u _ I2 r1 r2 q2) fun d s3 ⟨z,H3,I3,r3,k,e,q3⟩=>?_)) hm
 subst e
 cases r3
 refine wpAny_truthy_bool ?_
 cases k with
 | false =>
  obtain ⟨k',e',q'⟩:=q3
  cases e'
  exact ite_ff ⟨H3,I3,q'⟩
 | true =>
  refine ite_tt (test_link (thn (hc pins s3 σ H3 _ I3 q3) fun w' s4 ⟨z',H4,I4,r4,q4⟩=>thn (ho' pins s4 σ H4 y z' u w' _ I4 r2 r4 q4) fun d' s5 ⟨z2,H5,I5,r5,k2,e2,q5⟩=>?_))
  subst e2
  cases r5
  refine wpAny_truthy_bool ?_
  cases k2 with
  | false =>
   obtain ⟨k',e',q'⟩:=q5
   cases e'
   exact ite_ff ⟨H5,I5,q'⟩
  | true =>
   refine ite_tt (test_last (thn (hd pins s5 σ H5 _ I5 q5) fun w2 s6 ⟨z6,H6,I6,r6,q6⟩=>thn (ho'' pins s6 σ H6 z' z6 w' w2 _ I6 r4 r6 q6) fun d' s7 ⟨z7,H7,I7,r7,k7,e7,q7⟩=>?_))
   subst e7
   cases r7
   exact wpAny_truthy_bool ⟨H7,I7,q7⟩
end
end L2
namespace L3
open PySem PySem.Spec PyProof.Rows L2
section
variable {X:Cx}{a b c d:Expr}{ta tb tc td:TE2}{pos:Pos}
def uChain3 (r r' r'':R22) (ta tb tc td:TE2):TE2:=fun τ M Q=>ta τ M fun x M1=>tb τ M1 fun y M2=>r x y M2 fun z M3=>onB z fun k=>if k=true then tc τ M3 fun w M4=>r' y w M4 fun z' M5=>onB z' fun k'=>if k'=true then td τ M5 fun v M6=>r'' w v M6 Q else Q (.bl false) M5 else Q (.bl false) M3
theorem lChain3 {K:PySem.W.Frag}{r r' r'':R22}:∀ σ H Q,lE K (uChain3 r r' r'' ta tb tc td) σ H Q->tChain3 (lR K r) (lR K r') (lR K r'') (lE K ta) (lE K tb) (lE K tc) (lE K td) σ H Q:=by
 rintro σ H Q ⟨Z,τ,M,Q2,st,hr,h,k⟩
 refine lE.bind st hr h fun Z1 x dx H1 M1 l1 h1 a1 q1=>lE.bind (st.mono l1) h1 q1 fun Z2 y dy H2 M2 l2 h2 a2 q2=>?_
 refine ⟨Z2,dx,dy,M2,_,h2,a1.mono l2,a2,q2,fun Z3 z dz H3 M3 l3 h3 a3 q3=>?_⟩
 obtain ⟨c,rfl,q⟩:=of_B q3
 refine ⟨c,a3,?_⟩
 have l13:=l1.trans (l2.trans l3)
 cases c with
 | false =>
  rw [if_neg Bool.false_ne_true] at q ⊢
  exact k Z3 (.bl false) (.bl false) H3 M3 l13 h3 rfl q
 | true =>
  rw [if_pos rfl] at q ⊢
  refine lE.bind (st.mono l13) h3 q fun Z4 w dw H4 M4 l4 h4 a4 q4=>?_
  refine ⟨Z4,dy,dw,M4,_,h4,a2.mono (l3.trans l4),a4,q4,fun Z5 z dz H5 M5 l5 h5 a5 q5=>?_⟩
  obtain ⟨c,rfl,q⟩:=of_B q5
  refine ⟨c,a5,?_⟩
  have l15:=l13.trans (l4.trans l5)
  cases c with
  | false =>
   rw [if_neg Bool.false_ne_true] at q ⊢
   exact k Z5 (.bl false) (.bl false) H5 M5 l15 h5 rfl q
  | true =>
   rw [if_pos rfl] at q ⊢
   refine lE.bind (st.mono l15) h5 q fun Z6 v dv H6 M6 l6 h6 a6 q6=>?_
   exact ⟨Z6,dw,dv,M6,Q2,h6,a4.mono (l5.trans l6),a6,q6,k.le (l15.trans l6)⟩
unseal PE2 PT2 OpR2
theorem qtchain3 {op op' op'':CmpOp}{r r' r'':R22}(ho:OpR2 X (compareOp op) r) (ho':OpR2 X (compareOp op') r') (ho'':OpR2 X (compareOp op'') r'') (ha:PE2 X a ta) (hb:PE2 X b tb) (hc:PE2 X c tc) (hd:PE2 X d td)
  (hm:lastMarks [op,op',op''] [b,c,d]=false:=by with_unfolding_all rfl):PT2 X (.Compare a [op,op',op''] [b,c,d] pos) (uTest (uChain3 r r' r'' ta tb tc td)):=PT.mono (pt_chain3 ho ho' ho'' ha hb hc hd hm) (lTest lChain3)
theorem r_chain3 {r r' r'':R22}{τ:St2}{M:Mp}{Q:VK2}:uChain3 r r' r'' ta tb tc td τ M Q=ta τ M fun x M1=>tb τ M1 fun y M2=>r x y M2 fun z M3=>onB z fun k=>if k=true then tc τ M3 fun w M4=>r' y w M4 fun z' M5=>onB z' fun k'=>if k'=true then td τ M5 fun v M6=>r'' w v M6 Q else Q (.bl false) M5 else Q (.bl false) M3:=rfl
end
end L3
set_option maxHeartbeats 4000000
namespace My
open PySem PyProof.Rows L2 L3
local macro_rules | `(tactic| walk_at "eq")=>`(tactic| simp only [List.cons.injEq,Option.some.injEq,D.int.injEq,D.str.injEq,D.bl.injEq,D.tup.injEq,D.lst.injEq,D.ref.injEq,true_and,and_true,exists_and_left,exists_and_right,exists_eq',exists_eq,exists_const,eq_self])
local macro_rules | `(tactic| walk_at "cap")=>`(tactic| (simp only [r_cap,List.map_cons,List.map_nil,List.getElem?_cons_succ,List.getElem?_cons_zero,Option.join_some];walk_at "rd"))
local macro_rules | `(tactic| walk_at "in")=>`(tactic| ((try simp only [st_c,st_n,st_e]);walk_at "rd"))
local macro_rules | `(tactic| simp_arith [$xs,*])=>`(tactic| simp -failIfUnchanged only [↓r_fld,↓r_sfld,↓r_meth,↓r_make,↓r_tnew,↓r_tput,↓r_inT,↓r_tget,r_onMO,↓r_v0,↓r_s0,↓r_n0,↓r_v1,↓r_s1,↓r_n1,↓r_v2,↓r_s2,↓r_n2,↓r_v3,↓r_s3,↓r_n3,↓r_v4,↓r_s4,↓r_n4,↓r_v5,↓r_s5,↓r_n5,↓r_v6,↓r_s6,↓r_n6,↓r_v7,↓r_s7,↓r_n7,↓r_v8,↓r_s8,↓r_n8,↓r_v9,↓r_s9,↓r_n9,↓r_v10,↓r_s10,↓r_n10,↓r_v11,↓r_s11,↓r_n11,↓r_v12,↓r_s12,↓r_n12,↓r_v13,↓r_s13,↓r_n13,↓r_v14,↓r_s14,↓r_n14,↓r_v15,↓r_s15,↓r_n15,↓r_c,↓r_op,↓r_test,↓r_and,↓r_or,↓r_not,↓r_cs,↓r_nil,↓r_cons,↓r_tup,↓r_lstF,↓r_lst,↓r_cb,↓r_call,↓r_nopart,↓r_part,↓r_sl,↓r_next,↓r_seq,↓r_drop,↓r_ret,↓r_ifS,↓r_for,↓r_wlist,↓r_wrng1,↓r_wrng2,↓r_bm,↓r_true,↓r_onI,↓r_onB,↓r_onS,↓r_onR,↓r_onO,↓r_slS,↓r_on1,↓r_on2,↓r_sI,↓r_sI0,↓r_sU,↓r_eqI,↓r_neI,↓r_eqS,↓r_neS,↓r_eqB,↓r_neB,↓r_isi,↓r_ixT,↓r_ixL,↓r_slF,↓r_eqTT,↓r_eqLL,↓r_eqRx,↓r_eqLx,↓r_flint,↓r_flstr,↓r_flbl,↓r_flnon,↓r_eqFi,↓r_eqFs,↓r_in,↓r_lsL,↓r_sqL,↓r_sqT,↓r_lsP,↓r_sqP,↓r_tybool,↓r_tyint,↓r_tystr,↓r_tytuple,↓r_tylist,↓r_tynon,↓r_typ,↓r_is_int_int,↓r_is_int_bool,↓r_is_int_str,↓r_is_int_list,↓r_is_int_tuple,↓r_is_int_dict,↓r_is_bool_int,↓r_is_bool_bool,↓r_is_str_int,↓r_is_str_bool,↓r_is_str_str,↓r_is_str_list,↓r_is_str_tuple,↓r_is_str_dict,↓r_is_list_int,↓r_is_list_bool,↓r_is_list_str,↓r_is_list_list,↓r_is_list_tuple,↓r_is_list_dict,↓r_is_tuple_int,↓r_is_tuple_bool,↓r_is_tuple_str,↓r_is_tuple_list,↓r_is_tuple_tuple,↓r_is_tuple_dict,↓r_is_dict_int,↓r_is_dict_bool,↓r_is_dict_str,↓r_is_dict_list,↓r_is_dict_tuple,↓r_is_dict_dict,↓r_is_NoneType_int,↓r_is_NoneType_bool,↓r_is_NoneType_str,↓r_is_NoneType_list,↓r_is_NoneType_tuple,↓r_is_NoneType_dict,↓at0,↓at1,↓at2,↓at3,↓at4,↓r_app,↓r_on3,↓r_on4,↓reduceIte,if_true,if_false,Bool.false_eq_true,decide_eq_true_eq,Bool.not_true,Bool.not_false,true_and,and_true,List.length_cons,List.length_nil,List.length_map,List.length_append,List.cons_append,List.nil_append,Nat.zero_add,ne_eq,reduceCtorEq,not_false_eq_true,Int.reduceLT,Int.reduceLE,Int.reducePow,Int.reduceNeg,forall_const,eq_self,Bool.not_eq_eq_eq_not,decide_true,decide_false,List.all_cons,List.all_nil,List.any_cons,List.any_nil,Bool.and_true,Bool.true_and,Bool.or_false,Bool.false_or,Bool.or_eq_true,Bool.and_eq_true,decide_eq_false_iff_not,Nat.reduceLeDiff,Nat.reduceAdd,Nat.reduceSub,Nat.reduceMul,Int.reduceAdd,Int.reduceSub,Int.reduceMul,Int.reduceEq,Nat.reduceEqDiff,Int.reduceToNat,r_onO,r_onI,r_onB,r_onS,r_onR,szl,szlt,cmpL_ints,cmpL_nil,cmpL_ii,cmpL_ss,cmpL_nn,Option.map_some,cst0,cst1,cst2,cst3,cst4,cst5,cst6,cst7,cst8,cst9,cst10,cst11,cst12,cut1_0,cut1_1,cut1_2,cut1_3,sIx1,Nat.succ_ne_zero,Nat.reduceEqDiff,false_and,$xs,*])
local macro_rules | `(tactic| walk_at "rd")=>`(tactic| simp_arith [true_and])
def top (i:Nat):Stmt:=PySem.Challenge.pw_beatwright_k56_rows_well_made.main.body.getD i (.Pass ⟨0,0,0,0⟩)
def clsBody (s:Stmt):List Stmt:=match s with
 | .ClassDef _ _ _ b _ _ _ _ _ _ _=>b
 | _=>[]
abbrev s_Net___init__:Stmt:=(clsBody (top 1)).getD 0 (.Pass ⟨0,0,0,0⟩)
abbrev s_Net_placed:Stmt:=(clsBody (top 1)).getD 1 (.Pass ⟨0,0,0,0⟩)
abbrev s_Net_asked:Stmt:=(clsBody (top 1)).getD 2 (.Pass ⟨0,0,0,0⟩)
abbrev s_Net_both:Stmt:=(clsBody (top 1)).getD 3 (.Pass ⟨0,0,0,0⟩)
abbrev s_Net_differ:Stmt:=(clsBody (top 1)).getD 4 (.Pass ⟨0,0,0,0⟩)
abbrev s_Net_told:Stmt:=(clsBody (top 1)).getD 5 (.Pass ⟨0,0,0,0⟩)
abbrev s__law_mix:Stmt:=top 3
abbrev s__law_deed:Stmt:=top 4
abbrev s__law_done:Stmt:=top 5
abbrev s__law_well:Stmt:=top 6
abbrev s_law:Stmt:=top 7
section
variable {P:Program}{w:World}{K:PySem.W.Frag}{mg:Str->Option Value}{base:Heap}
structure DF (K:PySem.W.Frag) (mg:Str->Option Value) (x:Str) (st:Stmt) (ps:List Str) where
 f:Addr
 g:FuncData
 d:Df K mg x st ps f g
structure DM (K:PySem.W.Frag) (C:Addr) (m qual:Str) (st:Stmt) (ps:List Str) where
 f:Addr
 g:FuncData
 d:Mf K C m qual st ps f g
set_option genInjectivity false in
set_option genSizeOf false in
structure Tx (K:PySem.W.Frag) (w:World) (mg:Str->Option Value) where
 C_Net:Addr
 cl_Net:Cls K C_Net
 mgc_Net:mg "Net" = some (.ref C_Net)
 na_Net_rows:NoAttr K C_Net "rows"
 na_Net_places:NoAttr K C_Net "places"
 x0:DM K C_Net "__init__" "Net.__init__" s_Net___init__ ["self"]
 mk_Net:Mk K C_Net x0.f
 x1:DM K C_Net "placed" "Net.placed" s_Net_placed ["self", "row"]
 x2:DM K C_Net "asked" "Net.asked" s_Net_asked ["self", "sort", "name", "place"]
 x3:DM K C_Net "both" "Net.both" s_Net_both ["self", "i", "j"]
 x4:DM K C_Net "differ" "Net.differ" s_Net_differ ["self", "i", "j"]
 x5:DM K C_Net "told" "Net.told" s_Net_told ["self"]
 x6:DF K mg "_law_mix" s__law_mix ["number", "salt"]
 x7:DF K mg "_law_deed" s__law_deed ["number", "known"]
 x8:DF K mg "_law_done" s__law_done ["net", "deed"]
 x9:DF K mg "_law_well" s__law_well ["rows"]
 x10:DF K mg "law" s_law ["script"]
 B:Blt mg
abbrev Ok (P:Program) (w:World) (K:PySem.W.Frag) (mg:Str->Option Value) (base:Heap) (k:Nat) (f:Addr) (fd:FuncData) (ps:List Str) (sp:Sp2):Prop:=FnOk P w K mg base CX0 k f fd ps (lSp K sp)
theorem sc_Net_placed:FnScope ["self", "row"] ["self", "row"] (dfS s_Net_placed):=⟨rfl,rfl,rfl,by decide +kernel,rfl,by decide +kernel,by decide +kernel⟩
inductive Gt where
 | no | yes | inp (s n:Str) (p:Int) | and (l h:Nat) | xor (l h:Nat)
def Gt.ks:Gt->List Key
 | .no=>[.inr "no"]
 | .yes=>[.inr "yes"]
 | .inp s n p=>[.inr "in",.inr s,.inr n,.inl p]
 | .and l h=>[.inr "and",.inl l,.inl h]
 | .xor l h=>[.inr "xor",.inl l,.inl h]
theorem Gt.ks_inj {a b:Gt}(h:a.ks=b.ks):a=b:=by
 cases a<;>cases b<;>simp only [Gt.ks,List.cons.injEq,Sum.inr.injEq,Sum.inl.injEq,and_true,reduceCtorEq,and_false,false_and] at h<;>first | rfl | exact absurd h (by decide +kernel) | exact absurd h.1 (by decide +kernel) | skip
 ·obtain ⟨_,rfl,rfl,rfl⟩:=h;rfl
 ·obtain ⟨_,h1,h2⟩:=h
  rw [Int.ofNat.inj h1,Int.ofNat.inj h2]
 ·obtain ⟨_,h1,h2⟩:=h
  rw [Int.ofNat.inj h1,Int.ofNat.inj h2]
def gD (g:Gt):D:=L3.tkD g.ks
def pls (gs:List Gt):List (List Key×D):=gs.zipIdx.map fun x=>(x.1.ks,D.int (x.2:Int))
theorem pls_len (gs:List Gt):(pls gs).length=gs.length:=by unfold pls;rw [List.length_map,List.length_zipIdx]
theorem pls_snoc (gs:List Gt) (g:Gt):pls (gs++[g])=pls gs++[(g.ks,D.int (gs.length:Int))]:=by
 unfold pls
 rw [List.zipIdx_append,List.map_append,Nat.zero_add]
 rfl
theorem pls_none {gs:List Gt}{g:Gt}(h:g∉gs):valT (pls gs) g.ks=none:=by
 unfold valT
 rw [Option.map_eq_none_iff,List.find?_eq_none]
 intro x hx e
 obtain ⟨y,hy,rfl⟩:=List.mem_map.mp hx
 exact h (by rw [<- Gt.ks_inj (of_decide_eq_true e)];exact List.fst_mem_of_mem_zipIdx hy)
theorem pls_some {gs:List Gt}{g:Gt}{i:Nat}(nd:gs.Nodup) (h:gs[i]? = some g):valT (pls gs) g.ks=some (.int (i:Int)):=by
 have hi:=(List.getElem?_eq_some_iff.mp h).1
 have e1:(pls gs)[i]? = some (g.ks,.int (i:Int)):=by
  unfold pls
  rw [List.getElem?_map,List.getElem?_zipIdx,h]
  simp
 unfold valT
 have:(pls gs).find? (fun kv=>decide (kv.1=g.ks))=some (g.ks,.int (i:Int)):=by
  rw [List.find?_eq_some_iff_getElem]
  refine ⟨by simp,i,by rw [pls_len];exact hi,(List.getElem?_eq_some_iff.mp e1).2,fun j hj=>?_⟩
  have hjl:j<gs.length:=by omega
  have e2:(pls gs)[j]? = some (gs[j].ks,.int (j:Int)):=by
   unfold pls
   rw [List.getElem?_map,List.getElem?_zipIdx,List.getElem?_eq_getElem hjl]
   simp
  rw [(List.getElem?_eq_some_iff.mp e2).2]
  simp only [Bool.not_eq_true',decide_eq_false_iff_not]
  intro e
  have:=Gt.ks_inj e
  rw [<- (List.getElem?_eq_some_iff.mp h).2] at this
  exact absurd ((List.getElem_inj nd).mp this) (by omega)
 rw [this]
 rfl
theorem putT_new {kvs:List (List Key×D)}{ks:List Key}{v:D}(h:valT kvs ks=none):putT kvs ks v=kvs++[(ks,v)]:=by
 have e:(kvs.any fun kv=>decide (kv.1=ks))=false:=by
  cases q:kvs.any fun kv=>decide (kv.1=ks) with
  | false=>rfl
  | true =>
   obtain ⟨x,hx,e⟩:=List.any_eq_true.mp q
   unfold valT at h
   rw [Option.map_eq_none_iff] at h
   exact absurd e (List.find?_eq_none.mp h x hx)
 unfold putT
 rw [e]
 rfl
structure Nt (C:Addr) (M:Mp) (p a b:Addr):Prop where
 o:M p=some (.obj C [("rows",.ref a),("places",.ref b)])
 pa:p≠a
 pb:p≠b
 ab:a≠b
 na:M a=none
 nb:M b=none
def netM (M:Mp) (a b:Addr) (gs:List Gt):Mp:=put (put M a (.lst (gs.map gD))) b (.dct (pls gs))
section
variable {C:Addr}{M:Mp}{p a b q:Addr}{gs gs':List Gt}
theorem netM_a (h:a≠b):netM M a b gs a=some (.lst (gs.map gD)):=by unfold netM;rw [put_ne h,put_same]
theorem netM_sq (h:a≠b):sqOf (netM M a b gs) (.ref a)=some (gs.map gD):=by unfold sqOf lsOf;simp only [netM_a h]
theorem netM_b:netM M a b gs b=some (.dct (pls gs)):=put_same
theorem netM_o (h1:q≠a) (h2:q≠b):netM M a b gs q=M q:=by unfold netM;rw [put_ne h2,put_ne h1]
theorem Nt.at (h:Nt C M p a b):netM M a b gs p=some (.obj C [("rows",.ref a),("places",.ref b)]):=by rw [netM_o h.pa h.pb];exact h.o
theorem put_comm {u v:MO}(h:a≠b):put (put M a u) b v=put (put M b v) a u:=by
 funext x
 unfold put
 by_cases h1:x=a
 ·rw [if_neg (fun e=>h (h1.symm.trans e)),if_pos h1,if_pos h1]
 ·by_cases h2:x=b
  ·rw [if_pos h2,if_neg h1,if_pos h2]
  ·rw [if_neg h2,if_neg h1,if_neg h1,if_neg h2]
theorem Nt.put {o:MO}(h:Nt C M p a b) (hq:M q=none) (qa:q≠a) (qb:q≠b):Nt C (L3.put M q o) p a b:=⟨by rw [put_ne (fun e=>by rw [<- e,h.o] at hq;cases hq)];exact h.o,h.pa,h.pb,h.ab,by rw [put_ne qa.symm];exact h.na,by rw [put_ne qb.symm];exact h.nb⟩
theorem Nt.sub (h:Nt C M p a b):Sub M (netM M a b gs):=fun x o e=>by
 rw [netM_o (fun z=>by rw [z,h.na] at e;cases e) (fun z=>by rw [z,h.nb] at e;cases e)]
 exact e
end
theorem lkR {x y:D}:List.lookup ("rows":Str) [("rows",x),("places",y)]=some x:=by rw [List.lookup,show (("rows":Str) == "rows")=true by decide +kernel]
theorem lkP {x y:D}:List.lookup ("places":Str) [("rows",x),("places",y)]=some y:=by rw [List.lookup,show (("places":Str) == "rows")=false by decide +kernel,List.lookup,show (("places":Str) == "places")=true by decide +kernel]
theorem lkNo {m:Str}{x y:D}(h1:(m == "rows")=false) (h2:(m == "places")=false):List.lookup m [("rows",x),("places",y)]=none:=by rw [List.lookup,h1,List.lookup,h2];rfl
section
variable {C:Addr}{M:Mp}{p a b:Addr}{u v u' v':MO}
theorem Nt.atp (h:Nt C M p a b):L3.put (L3.put M a u) b v p=some (.obj C [("rows",.ref a),("places",.ref b)]):=by rw [put_ne h.pb,put_ne h.pa];exact h.o
theorem Nt.ata (h:Nt C M p a b):L3.put (L3.put M a u) b v a=some u:=by rw [put_ne h.ab,put_same]
theorem Nt.putA (h:Nt C M p a b):L3.put (L3.put (L3.put M a u) b v) a u'=L3.put (L3.put M a u') b v:=by rw [put_comm (a:=b) (b:=a) (Ne.symm h.ab),put_put]
end
theorem Nt.mt {C:Addr}{M:Mp}{p a b:Addr}{gs:List Gt}{R:Prop}{m:Str}(h:Nt C M p a b) (q:R) (h1:(m == "rows")=false:=by decide +kernel) (h2:(m == "places")=false:=by decide +kernel):onMO C (netM M a b gs p) fun fs=>fs.lookup m=none/\R:=⟨_,h.at,lkNo h1 h2,q⟩
def sp_Net_placed (C:Addr) (ds:List D) (M:Mp) (Q:VK2):Prop:=on2 ds fun x y=>∃ (M0:Mp) (p a b:Addr) (gs:List Gt) (g:Gt),x=.ref p/\y=gD g/\Nt C M0 p a b/\M=netM M0 a b gs/\gs.Nodup/\gs.length<1000000/\(∀ i:Nat,gs[i]? = some g->Q (.int i) (netM M0 a b gs))/\(g∉gs->Q (.int gs.length) (netM M0 a b (gs++[g])))
theorem ok_Net_placed (T:Tx K w mg):Ok P w K mg base 1 T.x1.f T.x1.g ["self", "row"] (sp_Net_placed T.C_Net):=by
 refine Fun.o2 T.x1.d.F sc_Net_placed fun cdv A outer s H E x y M Q hr h=>?_
 obtain ⟨M0,p,a,b,gs,g,rfl,rfl,nt,rfl,nd,hl,q1,q2⟩:=h
 refine ⟨_,(qss_cut (qs_if (qtcmp (o_notinT rfl (hu_of hr)) (qv 1) (qfld T.cl_Net T.na_Net_places (qv 0)) (by with_unfolding_all rfl)) (qC (qs_tput rfl (hu_of hr) (qfld T.cl_Net T.na_Net_places (qv 0)) (qv 1) (qcallB c_len T.B.len PySem.boot_len (qA (qfld T.cl_Net T.na_Net_rows (qv 0)) qN)) rfl) (qO (qs_expr (qbm PySem.F.plainAttrs_list PySem.F.slot_list_append PySem.F.type_list_append m_append (qfld T.cl_Net T.na_Net_rows (qv 0)) (qA (qv 1) qN))))) qE) (qO (qs_ret (qtget rfl (hu_of hr) (qfld T.cl_Net T.na_Net_places (qv 0)) (qv 1) (fun _ _=>rfl))))),?_⟩
 (try simp only [st_c,st_n,st_e])
 refine ⟨fun τ M'=>∃ (i:Nat) (gs':List Gt),τ=[some (.ref p),some (gD g)]/\M'=netM M0 a b gs'/\gs'.Nodup/\gs'[i]? = some g/\Q (.int i) (netM M0 a b gs'),?_,?_⟩
 ·walk_at "rd"
  unfold netM
  simp only [nt.atp,r_onMO,lkR,lkP,r_onO,r_onR,dtOf,put_same,put_put,sqOf,lsOf,nt.ata]
  refine ⟨g.ks,rfl,ite2 (fun c=>?_) fun c=>?_⟩
  ·have vn:valT (pls gs) g.ks=none:=by
    cases h:valT (pls gs) g.ks with
    | none=>rfl
    | some _=>rw [h] at c;cases c
   have ng:g∉gs:=fun hm=>by
    obtain ⟨i,hi⟩:=List.mem_iff_getElem?.mp hm
    rw [pls_some nd hi] at vn
    cases vn
   have hz:gs.length<sizeLine:=Nat.lt_trans hl (by decide)
   refine ⟨g.ks,rfl,?_⟩
   simp only [onMT]
   refine ⟨by rw [pls_len];exact hz,by simp only [tyD,nt.ata],?_⟩
   simp only [sAppend,r_onR,on1,nt.ata]
   refine ⟨by rw [List.length_map];exact hz,gs.length,gs++[g],?_,?_,by simp,q2 ng⟩
   ·rw [nt.putA,putT_new vn,List.length_map,pls_snoc,List.map_append]
    rfl
   ·rw [List.nodup_append]
    exact ⟨nd,by simp,fun x hx y hy e=>ng (by rw [e,List.mem_singleton.mp hy] at hx;exact hx)⟩
  ·obtain ⟨i,hi⟩:∃ i:Nat,gs[i]? = some g:=by
    refine List.mem_iff_getElem?.mp (Classical.not_not.mp fun ng=>?_)
    rw [pls_none ng] at c
    exact c rfl
   exact ⟨i,gs,rfl,nd,hi,q1 i hi⟩
 rintro τ M' ⟨i,gs',rfl,rfl,nd',hi,q⟩
 walk_at "rd"
 rw [nt.at,r_onMO,lkP,r_onO]
 simp only [dtOf,netM_b,r_onO]
 exact ⟨g.ks,rfl,by rw [pls_some nd' hi,r_onO];exact Dn.of q⟩
theorem sc_Net___init__:FnScope ["self"] ["self"] (dfS s_Net___init__):=⟨rfl,rfl,rfl,by decide +kernel,rfl,by decide +kernel,by decide +kernel⟩
local macro_rules | `(tactic| walk_at "rd")=>`(tactic| simp_arith [true_and,↓sp_Net_placed])
abbrev Ins:=Str->Str->Int->Bool
def Gt.val (ins:Ins) (bs:List Bool):Gt->Bool
 | .no=>false
 | .yes=>true
 | .inp s n p=>ins s n p
 | .and l h=>bs.getD l false && bs.getD h false
 | .xor l h=>Bool.xor (bs.getD l false) (bs.getD h false)
def evs (ins:Ins) (gs:List Gt):List Bool:=gs.foldl (fun bs g=>bs++[g.val ins bs]) []
def vl (ins:Ins) (gs:List Gt) (i:Nat):Bool:=(evs ins gs).getD i false
def Gt.Ok (k:Nat):Gt->Prop
 | .and l h=>l<h/\h<k
 | .xor l h=>l<h/\h<k
 | _=>True
structure WF (gs:List Gt):Prop where
 nd:gs.Nodup
 n:gs[0]? = some .no
 y:gs[1]? = some .yes
 g:∀ (k:Nat) g,gs[k]? = some g->g.Ok k
section
variable {ins:Ins}{gs e:List Gt}{g:Gt}{i l h:Nat}
theorem evs_snoc:evs ins (gs++[g])=evs ins gs++[g.val ins (evs ins gs)]:=by unfold evs;rw [List.foldl_append];rfl
theorem evs_ext:∃ bs:List Bool,evs ins (gs++e)=evs ins gs++bs/\bs.length=e.length:=by
 induction e generalizing gs with
 | nil=>exact ⟨[],by rw [List.append_nil,List.append_nil],rfl⟩
 | cons g e ih =>
  obtain ⟨bs,h1,h2⟩:=ih (gs:=gs++[g])
  refine ⟨g.val ins (evs ins gs)::bs,?_,by rw [List.length_cons,List.length_cons,h2]⟩
  rw [show gs++g::e=gs++[g]++e by rw [List.append_assoc];rfl,h1,evs_snoc,List.append_assoc]
  rfl
theorem evs_len:(evs ins gs).length=gs.length:=by
 obtain ⟨bs,h1,h2⟩:=evs_ext (ins:=ins) (gs:=[]) (e:=gs)
 rw [List.nil_append] at h1
 rw [h1,List.length_append,h2]
 exact Nat.zero_add _
theorem vl_left (hi:i<gs.length):vl ins (gs++e) i=vl ins gs i:=by
 obtain ⟨bs,h1,_⟩:=evs_ext (ins:=ins) (gs:=gs) (e:=e)
 unfold vl
 rw [h1,List.getD_eq_getElem?_getD,List.getElem?_append_left (by rw [evs_len];exact hi),<- List.getD_eq_getElem?_getD]
theorem vl_is (wf:WF gs) (hg:gs[i]? = some g):vl ins gs i=match g with
  | .no=>false | .yes=>true | .inp s n p=>ins s n p | .and l h=>vl ins gs l && vl ins gs h | .xor l h=>Bool.xor (vl ins gs l) (vl ins gs h):=by
 have ok:=wf.g i g hg
 obtain ⟨A,R,rfl,hA⟩:∃ A R,gs=A++([g]++R)/\A.length=i:=by
  have hi:=(List.getElem?_eq_some_iff.mp hg).1
  refine ⟨gs.take i,gs.drop (i+1),?_,by rw [List.length_take];omega⟩
  rw [<- (List.getElem?_eq_some_iff.mp hg).2,List.singleton_append,<- List.drop_eq_getElem_cons hi,List.take_append_drop]
 have old:∀ {j:Nat},j<i->vl ins (A++([g]++R)) j=vl ins A j:=fun {j} hj=>vl_left (by rw [hA];exact hj)
 have e2:vl ins (A++([g]++R)) i=g.val ins (evs ins A):=by
  rw [<- List.append_assoc,vl_left (by rw [List.length_append,hA,List.length_singleton];omega)]
  unfold vl
  rw [evs_snoc,List.getD_eq_getElem?_getD,List.getElem?_append_right (by rw [evs_len,hA];exact Nat.le_refl _),evs_len,hA,Nat.sub_self]
  rfl
 rw [e2]
 cases g with
 | and l h=>obtain ⟨h1,h2⟩:=ok;dsimp only;rw [old (show l<i by omega),old h2];rfl
 | xor l h=>obtain ⟨h1,h2⟩:=ok;dsimp only;rw [old (show l<i by omega),old h2];rfl
 | _=>rfl
theorem WF.v0 (wf:WF gs):vl ins gs 0=false:=vl_is wf wf.n
theorem WF.v1 (wf:WF gs):vl ins gs 1=true:=vl_is wf wf.y
theorem WF.two (wf:WF gs):2<=gs.length:=by
 have:=(List.getElem?_eq_some_iff.mp wf.y).1
 omega
theorem WF.snoc (wf:WF gs) (hg:g∉gs) (ok:g.Ok gs.length):WF (gs++[g]):=by
 have h2:=wf.two
 refine ⟨?_,?_,?_,fun k x hx=>?_⟩
 ·rw [List.nodup_append]
  exact ⟨wf.nd,by simp,fun x hx y hy e=>hg (by rw [e,List.mem_singleton.mp hy] at hx;exact hx)⟩
 ·rw [List.getElem?_append_left (by omega)];exact wf.n
 ·rw [List.getElem?_append_left (by omega)];exact wf.y
 ·rcases Nat.lt_or_ge k gs.length with hk|hk
  ·rw [List.getElem?_append_left hk] at hx;exact wf.g k x hx
  ·rw [List.getElem?_append_right hk] at hx
   have hk2:k=gs.length:=by
    have:=(List.getElem?_eq_some_iff.mp hx).1
    simp at this
    omega
   subst hk2
   simp at hx
   rw [<- hx]
   exact ok
end
def GrI (J:Str->Str->Int->Prop) (n:Nat) (gs gs':List Gt):Prop:=∃ e,gs'=gs++e/\e.length<=n/\∀ s m p,Gt.inp s m p∈e->J s m p
abbrev NoI:Str->Str->Int->Prop:=fun _ _ _=>False
abbrev Gr:=GrI NoI
section
variable {J J':Str->Str->Int->Prop}{n m k:Nat}{x y z:List Gt}
theorem GrI.refl:GrI J n x x:=⟨[],by rw [List.append_nil],Nat.zero_le _,fun _ _ _ h=>nomatch h⟩
theorem GrI.trans (h1:GrI J n x y) (h2:GrI J m y z) (h:n+m<=k):GrI J k x z:=by
 obtain ⟨e,rfl,l1,j1⟩:=h1
 obtain ⟨e',rfl,l2,j2⟩:=h2
 exact ⟨e++e',by rw [List.append_assoc],by rw [List.length_append];omega,fun s m p h=>(List.mem_append.mp h).elim (j1 s m p) (j2 s m p)⟩
theorem GrI.le (h:GrI J n x y):x.length<=y.length/\y.length<=x.length+n:=by
 obtain ⟨e,rfl,l,_⟩:=h
 rw [List.length_append]
 omega
theorem GrI.vl (h:GrI J n x y) {ins:Ins}{i:Nat}(hi:i<x.length):My.vl ins y i=My.vl ins x i:=by
 obtain ⟨e,rfl,_⟩:=h
 exact vl_left hi
theorem GrI.mono (h:GrI J n x y) (hj:∀ s m p,J s m p->J' s m p):GrI J' n x y:=by
 obtain ⟨e,h1,h2,h3⟩:=h
 exact ⟨e,h1,h2,fun s m p h=>hj s m p (h3 s m p h)⟩
theorem GrI.inp (h:GrI J n x y) (hx:∀ s m p,Gt.inp s m p∈x->J' s m p) (hj:∀ s m p,J s m p->J' s m p):∀ s m p,Gt.inp s m p∈y->J' s m p:=by
 obtain ⟨e,rfl,h2,h3⟩:=h
 exact fun s m p h=>(List.mem_append.mp h).elim (hx s m p) fun h=>hj s m p (h3 s m p h)
end
def sp_Net___init__ (C:Addr) (ds:List D) (M:Mp) (Q:VK2):Prop:=on1 ds fun x=>∃ (M0:Mp) (p:Addr),x=.ref p/\M=put M0 p (.obj C [])/\M0 p=none/\∀ a b,M0 a=none->M0 b=none->Nt C (put M0 p (.obj C [("rows",.ref a),("places",.ref b)])) p a b->Q .non (netM (put M0 p (.obj C [("rows",.ref a),("places",.ref b)])) a b [.no,.yes])
theorem wf0:WF [.no,.yes]:=⟨by simp [List.nodup_cons],rfl,rfl,fun k g h=>by
 match k with
 | 0=>cases h;trivial
 | 1=>cases h;trivial
 | k+2=>simp at h⟩
theorem ok_Net___init__ (T:Tx K w mg):Ok P w K mg base 2 T.x0.f T.x0.g ["self"] (sp_Net___init__ T.C_Net):=by
 refine Fun.o1 T.x0.d.F sc_Net___init__ fun cdv A outer s H E x M Q hr h=>?_
 obtain ⟨M0,p,rfl,rfl,hp,q⟩:=h
 refine ⟨_,(qC (qs_fld T.cl_Net T.na_Net_rows (qv 0) (qlst qN)) (qC (qs_fld T.cl_Net T.na_Net_places (qv 0) qtnew) (qC (qs_expr (qmeth T.cl_Net T.x1.d (ok_Net_placed T) (hr.mono (by first | decide | omega)) (qv 0) (qA (qtup (qA qstr qN)) qN))) (qO (qs_expr (qmeth T.cl_Net T.x1.d (ok_Net_placed T) (hr.mono (by first | decide | omega)) (qv 0) (qA (qtup (qA qstr qN)) qN))))))),?_⟩
 walk_at "in"
 intro a ha
 have pa:p≠a:=fun e=>by rw [<- e,put_same] at ha;cases ha
 rw [put_ne pa,put_same,r_onMO]
 refine ⟨by decide,fun b hb=>?_⟩
 have m1:∀ {M:Mp} {x:Addr} {o u v:MO},x≠p->put (put (put M p o) x u) p v=put (put M p v) x u:=fun {M x o u v} hx=>by rw [put_comm hx,put_put]
 rw [m1 (Ne.symm pa)] at hb ⊢
 have pb:p≠b:=fun e=>by rw [<- e,put_ne pa,put_same] at hb;cases hb
 have ab:a≠b:=fun e=>by rw [<- e,put_same] at hb;cases hb
 have ha0:M0 a=none:=by rw [put_ne (Ne.symm pa)] at ha;exact ha
 have hb0:M0 b=none:=by rw [put_ne (Ne.symm ab),put_ne (Ne.symm pb)] at hb;exact hb
 rw [put_ne pb,put_ne pa,put_same,r_onMO]
 refine ⟨show 1<1000 by decide,?_⟩
 have eo:putO "places" (D.ref b) (putO "rows" (D.ref a) [])=([("rows",D.ref a),("places",D.ref b)]:List (Str×D)):=by
  show (if ("rows":Str) = "places" then _ else _)=_
  rw [if_neg (by decide +kernel)]
  rfl
 rw [eo,put_same,r_onMO,put_comm pb.symm,put_comm pa.symm,put_put]
 have nt:Nt T.C_Net (put M0 p (.obj T.C_Net [("rows",.ref a),("places",.ref b)])) p a b:=⟨put_same,pa,pb,ab,by rw [put_ne pa.symm];exact ha0,by rw [put_ne pb.symm];exact hb0⟩
 refine ⟨lkNo (by decide +kernel) (by decide +kernel),_,p,a,b,[],.no,rfl,rfl,nt,rfl,List.nodup_nil,by decide,fun i hi=>by simp at hi,fun _=>?_⟩
 rw [nt.at,r_onMO]
 refine ⟨lkNo (by decide +kernel) (by decide +kernel),_,p,a,b,[.no],.yes,rfl,rfl,nt,rfl,by simp,by decide,fun i hi=>?_,fun _=>Dn.of (q a b ha0 hb0 nt)⟩
 match i with
 | 0=>cases hi
 | i+1=>simp at hi
theorem sc_Net_asked:FnScope ["self", "sort", "name", "place"] ["self", "sort", "name", "place"] (dfS s_Net_asked):=⟨rfl,rfl,rfl,by decide +kernel,rfl,by decide +kernel,by decide +kernel⟩
abbrev Rel (α:Type):=List Gt->List Gt->α->Prop
def retR {α:Type}(x:α):Rel α:=fun gs gs' y=>gs'=gs/\y=x
def thenR {α β:Type}(R:Rel α) (K:α->Rel β):Rel β:=fun gs gs' y=>∃ gs1 a,R gs gs1 a/\K a gs1 gs' y
def foldR {α β:Type}(K:β->α->Rel β):β->List α->Rel β
 | b,[]=>retR b
 | b,k::ks=>thenR (K b k) fun b'=>foldR K b' ks
def mapR {α β:Type}(R:α->Rel β) (ks:List α):Rel (List β):=foldR (fun ys k=>thenR (R k) fun y=>retR (ys++[y])) [] ks
def plR (g:Gt):Rel Nat:=fun gs gs' i=>(gs[i]? = some g/\gs'=gs)\/(g∉gs/\gs'=gs++[g]/\i=gs.length)
structure Rp {α:Type}(R:Rel α):Prop where
 e:∀ {gs gs' x},R gs gs' x->gs <+: gs'
 r:∀ {gs gs' x G G' y},R gs gs' x->gs' <+: G->WF G->R G G' y->G'=G/\y=x
theorem Rp.ret {α:Type}{x:α}:Rp (retR x):=⟨fun h=>by rw [h.1];exact List.prefix_refl _,fun h _ _ h'=>⟨h'.1,h'.2.trans h.2.symm⟩⟩
theorem Rp.then {α β:Type}{R:Rel α}{K:α->Rel β}(h:Rp R) (k:∀ a,Rp (K a)):Rp (thenR R K):=by
 refine ⟨fun ⟨gs1,a,h1,h2⟩=>(h.e h1).trans ((k a).e h2),fun ⟨gs1,a,h1,h2⟩ p w ⟨G1,a',h1',h2'⟩=>?_⟩
 obtain ⟨rfl,rfl⟩:=h.r h1 (((k a).e h2).trans p) w h1'
 exact (k a').r h2 p w h2'
theorem Rp.fold {α β:Type}{K:β->α->Rel β}(h:∀ b a,Rp (K b a)):∀ (ks:List α) (b:β),Rp (foldR K b ks)
 | [],_=>.ret
 | k::ks,b=>(h b k).then fun b'=>Rp.fold h ks b'
theorem Rp.map {α β:Type}{R:α->Rel β}(h:∀ a,Rp (R a)) (ks:List α):Rp (mapR R ks):=Rp.fold (fun _ a=>(h a).then fun _=>.ret) ks _
theorem Rp.pl {g:Gt}:Rp (plR g):=by
 refine ⟨fun h=>?_,fun {gs gs' i G G' j} h p w h'=>?_⟩
 ·rcases h with ⟨_,rfl⟩|⟨_,rfl,_⟩
  ·exact List.prefix_refl _
  ·exact List.prefix_append _ _
 ·have hi:gs'[i]? = some g:=by
   rcases h with ⟨h,rfl⟩|⟨_,rfl,rfl⟩
   ·exact h
   ·simp
  obtain ⟨e,rfl⟩:=p
  have hG:(gs'++e)[i]? = some g:=by rw [List.getElem?_append_left (List.getElem?_eq_some_iff.mp hi).1];exact hi
  rcases h' with ⟨h',rfl⟩|⟨h',_,_⟩
  ·obtain ⟨a1,a2⟩:=List.getElem?_eq_some_iff.mp hG
   obtain ⟨b1,b2⟩:=List.getElem?_eq_some_iff.mp h'
   exact ⟨rfl,(List.getElem_inj w.nd).mp (b2.trans a2.symm)⟩
  ·exact absurd (List.mem_of_getElem? hG) h'
theorem Rp.ite {α:Type}{c:Prop} [Decidable c] {R S:Rel α}(h1:Rp R) (h2:Rp S):Rp (if c then R else S):=by split<;>assumption
def bothR (i j:Nat):Rel Nat:=if min i j=0 then retR 0 else if i=j then retR i else if min i j=1 then retR (max i j) else plR (.and (min i j) (max i j))
def diffR (i j:Nat):Rel Nat:=if i=j then retR 0 else if min i j=0 then retR (max i j) else plR (.xor (min i j) (max i j))
theorem Rp.both {i j:Nat}:Rp (bothR i j):=.ite .ret (.ite .ret (.ite .ret .pl))
theorem Rp.diff {i j:Nat}:Rp (diffR i j):=.ite .ret (.ite .ret .pl)
abbrev PlS (S:Rel Nat) (n:Nat) (gs:List Gt) (f:Ins->Bool) (M0:Mp) (a b:Addr) (Q:VK2):Prop:=∀ (gs':List Gt) (i:Nat),Gr n gs gs'->WF gs'->i<gs'.length->(∀ ins,vl ins gs' i=f ins)->S gs gs' i->Q (.int i) (netM M0 a b gs')
def sp_Net_asked (C:Addr) (ds:List D) (M:Mp) (Q:VK2):Prop:=on4 ds fun x1 x2 x3 x4=>∃ (M0:Mp) (p a b:Addr) (gs:List Gt) (s n:Str) (k:Int),x1=.ref p/\x2=.str s/\x3=.str n/\x4=.int k/\Nt C M0 p a b/\M=netM M0 a b gs/\WF gs/\gs.length<1000000/\∀ (gs':List Gt) (i:Nat),gs <+: gs'->gs'.length<=gs.length+1->WF gs'->i<gs'.length->plR (.inp s n k) gs gs' i->Q (.int i) (netM M0 a b gs')
theorem ok_Net_asked (T:Tx K w mg):Ok P w K mg base 2 T.x2.f T.x2.g ["self", "sort", "name", "place"] (sp_Net_asked T.C_Net):=by
 refine Fun.o4 T.x2.d.F sc_Net_asked fun cdv A outer s H E x1 x2 x3 x4 M Q hr h=>?_
 obtain ⟨M0,p,a,b,gs,sx,nx,k,rfl,rfl,rfl,rfl,nt,rfl,wf,hl,q⟩:=h
 refine ⟨_,(qO (qs_ret (qmeth T.cl_Net T.x1.d (ok_Net_placed T) (hr.mono (by first | decide | omega)) (qv 0) (qA (qtup (qA qstr (qA (qv 1) (qA (qv 2) (qA (qv 3) qN))))) qN)))),?_⟩
 walk_at "in"
 rw [nt.at,r_onMO]
 refine ⟨lkNo (by decide +kernel) (by decide +kernel),M0,p,a,b,gs,.inp sx nx k,rfl,rfl,nt,rfl,wf.nd,hl,fun i hi=>Dn.of (q gs i (List.prefix_refl _) (Nat.le_succ _) wf (List.getElem?_eq_some_iff.mp hi).1 (.inl ⟨hi,rfl⟩)),fun ng=>?_⟩
 exact Dn.of (q _ gs.length (List.prefix_append _ _) (by rw [List.length_append];exact Nat.le_refl _) (wf.snoc ng trivial) (by simp) (.inr ⟨ng,rfl,rfl⟩))
theorem sc_Net_both:FnScope ["self", "i", "j", "low", "high"] ["self", "i", "j"] (dfS s_Net_both):=⟨rfl,rfl,rfl,by decide +kernel,rfl,by decide +kernel,by decide +kernel⟩
def sp_Net_both (C:Addr) (ds:List D) (M:Mp) (Q:VK2):Prop:=on3 ds fun x1 x2 x3=>∃ (M0:Mp) (p a b:Addr) (gs:List Gt) (i j:Nat),x1=.ref p/\x2=.int i/\x3=.int j/\Nt C M0 p a b/\M=netM M0 a b gs/\WF gs/\gs.length<1000000/\(i<gs.length/\j<gs.length)/\PlS (bothR i j) 1 gs (fun ins=>vl ins gs i && vl ins gs j) M0 a b Q
theorem gate_c {C:Addr}{M0:Mp}{p a b:Addr}{gs:List Gt}{i j:Nat}{Q:VK2}{R:Nat->Nat->Rel Nat}{F:List Gt->Nat->Nat->Ins->Bool}(nt:Nt C M0 p a b) (wf:WF gs) (hl:gs.length<1000000) (hi:i<gs.length) (hj:j<gs.length) (q:PlS (R i j) 1 gs (F gs i j) M0 a b Q):∃ (M1:Mp) (p1 a1 b1:Addr) (gs1:List Gt) (i1 j1:Nat),D.ref p=.ref p1/\D.int i=.int i1/\D.int j=.int j1/\Nt C M1 p1 a1 b1/\netM M0 a b gs=netM M1 a1 b1 gs1/\WF gs1/\gs1.length<1000000/\(i1<gs1.length/\j1<gs1.length)/\PlS (R i1 j1) 1 gs1 (F gs1 i1 j1) M1 a1 b1 Q:=⟨M0,p,a,b,gs,i,j,rfl,rfl,rfl,nt,rfl,wf,hl,⟨hi,hj⟩,q⟩
theorem minmax (i j:Nat):∃ l h:Nat,(if (j:Int)<i then (j:Int) else i)=l/\(if (j:Int) > i then (j:Int) else i)=h/\l<=h/\((l=i/\h=j)\/(l=j/\h=i)):=by
 rcases Nat.le_total i j with h|h
 ·exact ⟨i,j,by split<;>omega,by split<;>omega,h,.inl ⟨rfl,rfl⟩⟩
 ·exact ⟨j,i,by split<;>omega,by split<;>omega,h,.inr ⟨rfl,rfl⟩⟩
theorem ok_Net_both (T:Tx K w mg):Ok P w K mg base 2 T.x3.f T.x3.g ["self", "i", "j"] (sp_Net_both T.C_Net):=by
 refine Fun.o3 T.x3.d.F sc_Net_both fun cdv A outer s H E x1 x2 x3 M Q hr h=>?_
 obtain ⟨M0,p,a,b,gs,i,j,rfl,rfl,rfl,nt,rfl,wf,hl,⟨hi,hj⟩,q⟩:=h
 refine ⟨_,(qC (qs_set (i:=3) sc_Net_both.nd rfl (Or.inl rfl) (qcallB (c_min rfl) T.B.min boot_min (qA (qv 1) (qA (qv 2) qN)))) (qC (qs_set (i:=4) sc_Net_both.nd rfl (Or.inl rfl) (qcallB (c_max rfl) T.B.max boot_max (qA (qv 1) (qA (qv 2) qN)))) (qC (qs_if ((qw_or (qtcmp o_eq (qv 3) qint (nomark _)) (qw_or1 (qtcmp o_eq (qv 3) (qv 4) (nomark _))))).pt (qO (qs_ret (qv 3))) qE) (qC (qs_if (qtcmp o_eq (qv 3) qint (nomark _)) (qO (qs_ret (qv 4))) qE) (qO (qs_ret (qmeth T.cl_Net T.x1.d (ok_Net_placed T) (hr.mono (by first | decide | omega)) (qv 0) (qA (qtup (qA qstr (qA (qv 3) (qA (qv 4) qN)))) qN)))))))),?_⟩
 obtain ⟨l,h,e1,e2,lh,hlh⟩:=minmax i j
 have sym:∀ ins,(vl ins gs i && vl ins gs j)=(vl ins gs l && vl ins gs h):=fun ins=>by
  rcases hlh with ⟨rfl,rfl⟩|⟨rfl,rfl⟩
  ·rfl
  ·exact Bool.and_comm _ _
 have hR:bothR i j=if l=0 then retR 0 else if i=j then retR i else if l=1 then retR h else plR (.and l h):=by unfold bothR;rw [show min i j=l by omega,show max i j=h by omega]
 have hl2:l<gs.length/\h<gs.length:=by omega
 walk_at "in"
 simp only [e1,e2]
 refine ite2 (fun c=>Dn.of (q gs l .refl wf hl2.1 (fun ins=>?_) (by rw [hR,if_pos (by omega)];exact ⟨rfl,by omega⟩))) fun c0=>ite2 (fun c=>Dn.of (q gs l .refl wf hl2.1 (fun ins=>?_) (by rw [hR,if_neg (by omega),if_pos (by omega)];exact ⟨rfl,by omega⟩))) fun c1=>ite2 (fun c=>Dn.of (q gs h .refl wf hl2.2 (fun ins=>?_) (by rw [hR,if_neg (by omega),if_neg (by omega),if_pos (by omega)];exact ⟨rfl,rfl⟩))) fun c2=>?_
 ·refine Eq.trans ?_ (sym ins).symm;rw [show l=0 by omega,wf.v0];rfl
 ·refine Eq.trans ?_ (sym ins).symm;rw [show h=l by omega,Bool.and_self]
 ·refine Eq.trans ?_ (sym ins).symm;rw [show l=1 by omega,wf.v1];rfl
 have hP:bothR i j=plR (.and l h):=by rw [hR,if_neg (by omega),if_neg (by omega),if_neg (by omega)]
 rw [nt.at,r_onMO]
 refine ⟨lkNo (by decide +kernel) (by decide +kernel),M0,p,a,b,gs,.and l h,rfl,rfl,nt,rfl,wf.nd,hl,fun k hk=>Dn.of (q gs k .refl wf (List.getElem?_eq_some_iff.mp hk).1 (fun ins=>(vl_is wf hk).trans (sym ins).symm) (by rw [hP];exact .inl ⟨hk,rfl⟩)),fun ng=>?_⟩
 have wf':=wf.snoc ng ⟨by omega,hl2.2⟩
 refine Dn.of (q _ gs.length ⟨_,rfl,Nat.le_refl _,fun s m p h=>by cases List.mem_singleton.mp h⟩ wf' (by simp) (fun ins=>?_) (by rw [hP];exact .inr ⟨ng,rfl,rfl⟩))
 refine Eq.trans ?_ (sym ins).symm
 rw [vl_is wf' (g:=.and l h) (by simp)]
 dsimp only
 rw [vl_left hl2.1,vl_left hl2.2]
theorem sc_Net_differ:FnScope ["self", "i", "j", "low", "high"] ["self", "i", "j"] (dfS s_Net_differ):=⟨rfl,rfl,rfl,by decide +kernel,rfl,by decide +kernel,by decide +kernel⟩
def sp_Net_differ (C:Addr) (ds:List D) (M:Mp) (Q:VK2):Prop:=on3 ds fun x1 x2 x3=>∃ (M0:Mp) (p a b:Addr) (gs:List Gt) (i j:Nat),x1=.ref p/\x2=.int i/\x3=.int j/\Nt C M0 p a b/\M=netM M0 a b gs/\WF gs/\gs.length<1000000/\(i<gs.length/\j<gs.length)/\PlS (diffR i j) 1 gs (fun ins=>Bool.xor (vl ins gs i) (vl ins gs j)) M0 a b Q
theorem ok_Net_differ (T:Tx K w mg):Ok P w K mg base 2 T.x4.f T.x4.g ["self", "i", "j"] (sp_Net_differ T.C_Net):=by
 refine Fun.o3 T.x4.d.F sc_Net_differ fun cdv A outer s H E x1 x2 x3 M Q hr h=>?_
 obtain ⟨M0,p,a,b,gs,i,j,rfl,rfl,rfl,nt,rfl,wf,hl,⟨hi,hj⟩,q⟩:=h
 refine ⟨_,(qC (qs_set (i:=3) sc_Net_differ.nd rfl (Or.inl rfl) (qcallB (c_min rfl) T.B.min boot_min (qA (qv 1) (qA (qv 2) qN)))) (qC (qs_set (i:=4) sc_Net_differ.nd rfl (Or.inl rfl) (qcallB (c_max rfl) T.B.max boot_max (qA (qv 1) (qA (qv 2) qN)))) (qC (qs_if (qtcmp o_eq (qv 3) (qv 4) (nomark _)) (qO (qs_ret qint)) qE) (qC (qs_if (qtcmp o_eq (qv 3) qint (nomark _)) (qO (qs_ret (qv 4))) qE) (qO (qs_ret (qmeth T.cl_Net T.x1.d (ok_Net_placed T) (hr.mono (by first | decide | omega)) (qv 0) (qA (qtup (qA qstr (qA (qv 3) (qA (qv 4) qN)))) qN)))))))),?_⟩
 obtain ⟨l,h,e1,e2,lh,hlh⟩:=minmax i j
 have sym:∀ ins,Bool.xor (vl ins gs i) (vl ins gs j)=Bool.xor (vl ins gs l) (vl ins gs h):=fun ins=>by
  rcases hlh with ⟨rfl,rfl⟩|⟨rfl,rfl⟩
  ·rfl
  ·exact Bool.xor_comm _ _
 have hR:diffR i j=if i=j then retR 0 else if l=0 then retR h else plR (.xor l h):=by unfold diffR;rw [show min i j=l by omega,show max i j=h by omega]
 have hl2:l<gs.length/\h<gs.length:=by omega
 walk_at "in"
 simp only [e1,e2]
 refine ite2 (fun c=>Dn.of (q gs 0 .refl wf (by omega) (fun ins=>?_) (by rw [hR,if_pos (by omega)];exact ⟨rfl,rfl⟩))) fun c1=>ite2 (fun c=>Dn.of (q gs h .refl wf hl2.2 (fun ins=>?_) (by rw [hR,if_neg (by omega),if_pos (by omega)];exact ⟨rfl,rfl⟩))) fun c2=>?_
 ·refine Eq.trans ?_ (sym ins).symm;rw [show h=l by omega,wf.v0,Bool.xor_self]
 ·refine Eq.trans ?_ (sym ins).symm;rw [show l=0 by omega,wf.v0,Bool.false_xor]
 have hP:diffR i j=plR (.xor l h):=by rw [hR,if_neg (by omega),if_neg (by omega)]
 rw [nt.at,r_onMO]
 refine ⟨lkNo (by decide +kernel) (by decide +kernel),M0,p,a,b,gs,.xor l h,rfl,rfl,nt,rfl,wf.nd,hl,fun k hk=>Dn.of (q gs k .refl wf (List.getElem?_eq_some_iff.mp hk).1 (fun ins=>(vl_is wf hk).trans (sym ins).symm) (by rw [hP];exact .inl ⟨hk,rfl⟩)),fun ng=>?_⟩
 have wf':=wf.snoc ng ⟨by omega,hl2.2⟩
 refine Dn.of (q _ gs.length ⟨_,rfl,Nat.le_refl _,fun s m p h=>by cases List.mem_singleton.mp h⟩ wf' (by simp) (fun ins=>?_) (by rw [hP];exact .inr ⟨ng,rfl,rfl⟩))
 refine Eq.trans ?_ (sym ins).symm
 rw [vl_is wf' (g:=.xor l h) (by simp)]
 dsimp only
 rw [vl_left hl2.1,vl_left hl2.2]
theorem sc_Net_told:FnScope ["self"] ["self"] (dfS s_Net_told):=⟨rfl,rfl,rfl,by decide +kernel,rfl,by decide +kernel,by decide +kernel⟩
def sp_Net_told (C:Addr) (ds:List D) (M:Mp) (Q:VK2):Prop:=on1 ds fun x=>∃ (M0:Mp) (p a b:Addr) (gs:List Gt),x=.ref p/\Nt C M0 p a b/\M=netM M0 a b gs/\Q (.lst (gs.map gD)) M
theorem ok_Net_told (T:Tx K w mg):Ok P w K mg base 1 T.x5.f T.x5.g ["self"] (sp_Net_told T.C_Net):=by
 refine Fun.o1 T.x5.d.F sc_Net_told fun cdv A outer s H E x M Q hr h=>?_
 obtain ⟨M0,p,a,b,gs,rfl,nt,rfl,q⟩:=h
 refine ⟨_,(qO (qs_ret (qcallTy c_listF T.B.list boot_list (qA (qfld T.cl_Net T.na_Net_rows (qv 0)) qN)))),?_⟩
 walk_at "in"
 rw [nt.at,r_onMO,lkR,r_onO,netM_sq nt.ab,r_onO]
 exact Dn.of q
theorem sc__law_mix:FnScope ["number", "salt", "mixed"] ["number", "salt"] (dfS s__law_mix):=⟨rfl,rfl,rfl,by decide +kernel,rfl,by decide +kernel,by decide +kernel⟩
def sp__law_mix (ds:List D) (M:Mp) (Q:VK2):Prop:=on2 ds fun x y=>onI x fun _=>onI y fun _=>∀ r:Int,0<=r->r<2147483629->Q (.int r) M
theorem ok__law_mix (T:Tx K w mg):Ok P w K mg base 1 T.x6.f T.x6.g ["number", "salt"] sp__law_mix:=by
 refine Fun.o2 T.x6.d.F sc__law_mix fun cdv A outer s H E x y M Q hr h1=>?_
 obtain ⟨n,rfl,h2⟩:=of_I h1
 obtain ⟨k,rfl,q⟩:=of_I h2
 refine ⟨_,(qC (qs_set (i:=2) sc__law_mix.nd rfl (Or.inl rfl) (qop o_mod (qop o_add (qop o_add (qop o_mul (qv 0) qint) (qop o_mul (qv 1) qint)) qint) qint)) (qO (qs_ret (qop o_mod (qop o_mul (qv 2) (qv 2)) qint)))),?_⟩
 walk_at "in"
 have h0:=Int.emod_nonneg (n*69621+k*16807+1013) (show (2147483647:Int)≠0 by decide)
 have h1:=Int.emod_lt_of_pos (n*69621+k*16807+1013) (show (0:Int)<2147483647 by decide)
 exact ⟨.inr ⟨by decide,by decide⟩,.inr ⟨by decide,by decide⟩,.inl ⟨by omega,by omega⟩,Dn.of (q _ (Int.emod_nonneg _ (by decide)) (Int.emod_lt_of_pos _ (by decide)))⟩
theorem sc__law_deed:FnScope ["number", "known", "one", "other"] ["number", "known"] (dfS s__law_deed):=⟨rfl,rfl,rfl,by decide +kernel,rfl,by decide +kernel,by decide +kernel⟩
local macro_rules | `(tactic| walk_at "rd")=>`(tactic| simp_arith [true_and,↓sp__law_mix])
theorem ls_ty {M:Mp}{x:D}{ys:List D}(h:lsOf M x=some ys):tyD M x=some "list"/\sqOf M x=some ys:=by
 cases x with
 | lst _=>exact ⟨rfl,h⟩
 | ref q =>
  refine ⟨?_,h⟩
  unfold lsOf at h
  unfold tyD
  simp only at h ⊢
  split at h
  ·next e=>rw [e]
  ·cases h
 | _=>cases h
theorem ls_of {M:Mp}{q:Addr}{l:List D}(h:M q=some (.lst l)):lsOf M (.ref q)=some l:=by unfold lsOf;simp only [h]
def psD (ps:List Nat):List D:=ps.map fun (i:Nat)=>D.int (i:Int)
def InP (gs:List Gt) (ps:List Nat):Prop:=∀ i∈ps,i<gs.length
theorem InP.vl {J:Str->Str->Int->Prop}{n:Nat}{gs gs':List Gt}{ps:List Nat}{ins:Ins}(h:InP gs ps) (g:GrI J n gs gs'):ps.map (My.vl ins gs')=ps.map (My.vl ins gs):=List.map_congr_left fun i hi=>g.vl (h i hi)
inductive Dd where
 | inp (s n:Str) (k:Int) | and (i j:Nat) | xor (i j:Nat)
def dD:Dd->D
 | .inp s n k=>.tup [.str "in",.str s,.str n,.int k]
 | .and i j=>.tup [.str "and",.int (i:Int),.int (j:Int)]
 | .xor i j=>.tup [.str "xor",.int (i:Int),.int (j:Int)]
def DdOk (m:Nat):Dd->Prop
 | .inp ..=>True
 | .and i j=>i<m/\j<m
 | .xor i j=>i<m/\j<m
def doneR:Dd->Rel Nat
 | .inp s n k=>plR (.inp s n k)
 | .and i j=>bothR i j
 | .xor i j=>diffR i j
def sp__law_deed (ds:List D) (M:Mp) (Q:VK2):Prop:=on2 ds fun x y=>∃ (n:Int) (kn:List Nat) (m:Nat),x=.int n/\(0<=n/\n<2^62)/\lsOf M y=some (psD kn)/\kn≠[]/\(∀ i∈kn,i<m)/\∀ dd:Dd,DdOk m dd->Q (dD dd) M
theorem ok__law_deed (T:Tx K w mg):Ok P w K mg base 2 T.x7.f T.x7.g ["number", "known"] sp__law_deed:=by
 refine Fun.o2 T.x7.d.F sc__law_deed fun cdv A outer s H E x y M Q hr h=>?_
 obtain ⟨n,kn,m,rfl,⟨n0,n1⟩,hy,kne,hk,q⟩:=h
 refine ⟨_,(qC (qs_set (i:=2) sc__law_deed.nd rfl (Or.inl rfl) (qix i_list (qv 1) (qop o_mod (qop o_fdiv (qv 0) qint) (qcallB c_len T.B.len PySem.boot_len (qA (qv 1) qN))) (fun _ _=>rfl))) (qC (qs_set (i:=3) sc__law_deed.nd rfl (Or.inl rfl) (qix i_list (qv 1) (qop o_mod (qcall T.x6.d (ok__law_mix T) (hr.mono (by first | decide | omega)) (qA (qv 0) (qA qint qN))) (qcallB c_len T.B.len PySem.boot_len (qA (qv 1) qN))) (fun _ _=>rfl))) (qC (qs_if (qtcmp o_eq (qop o_mod (qv 0) qint) qint (nomark _)) (qO (qs_ret (qtup (qA qstr (qA (qix i_list (qlstF (qa_cs (.str (.str (.str .nil))))) (qop o_mod (qop o_fdiv (qv 0) qint) qint) (fun _ _=>rfl)) (qA (qslice s_str qstr qo_none (qo_some (qop o_add qint (qop o_mod (qop o_fdiv (qv 0) qint) qint)))) (qA (qop o_mod (qop o_fdiv (qv 0) qint) qint) qN))))))) qE) (qO (qs_ret (qtup (qA (qix i_list (qlstF (qa_cs (.str (.str (.str .nil))))) (qop o_mod (qv 0) qint) (fun _ _=>rfl)) (qA (qv 2) (qA (qv 3) qN))))))))),?_⟩
 obtain ⟨t1,t2⟩:=ls_ty hy
 have kp:0<kn.length:=List.length_pos_iff.mpr kne
 have atk:∀ i:Int,∃ e∈kn,atI (psD kn) (i%((psD kn).length:Int))=some (.int (e:Int)):=fun i=>by
  unfold psD
  rw [List.length_map]
  have h0:=Int.emod_nonneg i (b:=(kn.length:Int)) (by omega)
  have h1:=Int.emod_lt_of_pos i (b:=(kn.length:Int)) (by omega)
  obtain ⟨j,hj⟩:∃ j:Nat,i%(kn.length:Int)=j:=⟨_,(Int.toNat_of_nonneg h0).symm⟩
  have hl:j<kn.length:=by omega
  rw [hj]
  exact ⟨kn[j],List.getElem_mem hl,atI_nat (by rw [List.getElem?_map,List.getElem?_eq_getElem hl];rfl)⟩
 obtain ⟨e1,m1,h1⟩:=atk (n / 3)
 walk_at "in"
 have cd:∀ k:Int,0<k->k<2^30->CDiv n k:=fun k h1 h2=>by unfold CDiv;omega
 rw [t2,hy,r_onO,r_onO,h1,r_onO]
 refine ⟨cd 3 (by decide) (by decide),by unfold psD;rw [List.length_map];omega,fun r r0 r1=>?_⟩
 obtain ⟨e2,m2,h2⟩:=atk r
 rw [r_onO,r_onO,h2,r_onO]
 refine ⟨by unfold psD;rw [List.length_map];omega,ite2 (fun c=>⟨cd _ (by decide) (by decide),?_⟩) fun c=>?_⟩
 ·obtain ⟨x,hx⟩:∃ x:Str,atI [D.str "box",D.str "door",D.str "one"] (n / 64%3)=some (.str x):=by
   rcases (show n / 64%3=0\/n / 64%3=1\/n / 64%3=2 by omega) with h|h|h<;>rw [h]
   ·exact ⟨"box",rfl⟩
   ·exact ⟨"door",rfl⟩
   ·exact ⟨"one",rfl⟩
  rw [hx,r_onO]
  exact ⟨cd _ (by decide) (by decide),Nat.le_of_lt (small1000 (by decide +kernel)),cd _ (by decide) (by decide),Dn.of (q (.inp _ _ _) trivial)⟩
 ·rcases (show n%3=1\/n%3=2 by omega) with h|h<;>rw [h]
  ·exact Dn.of (q (.and e1 e2) ⟨hk _ m1,hk _ m2⟩)
  ·exact Dn.of (q (.xor e1 e2) ⟨hk _ m1,hk _ m2⟩)
theorem sc__law_done:FnScope ["net", "deed"] ["net", "deed"] (dfS s__law_done):=⟨rfl,rfl,rfl,by decide +kernel,rfl,by decide +kernel,by decide +kernel⟩
local macro_rules | `(tactic| simp_all_arith! [$xs,*])=>`(tactic| simp_arith [ List.set_cons_zero,List.set_cons_succ,$xs,*])
local macro_rules | `(tactic| walk_at "rd")=>`(tactic| simp_all_arith! [true_and,↓sp_Net_differ,↓sp_Net_asked,↓sp_Net_both])
def sp__law_done (C:Addr) (ds:List D) (M:Mp) (Q:VK2):Prop:=on2 ds fun x y=>∃ (M0:Mp) (p a b:Addr) (gs:List Gt) (dd:Dd),x=.ref p/\y=dD dd/\Nt C M0 p a b/\M=netM M0 a b gs/\WF gs/\gs.length<1000000/\DdOk gs.length dd/\∀ (gs':List Gt) (i:Nat),gs <+: gs'->gs'.length<=gs.length+1->WF gs'->i<gs'.length->doneR dd gs gs' i->Q (.int i) (netM M0 a b gs')
theorem ok__law_done (T:Tx K w mg):Ok P w K mg base 4 T.x8.f T.x8.g ["net", "deed"] (sp__law_done T.C_Net):=by
 refine Fun.o2 T.x8.d.F sc__law_done fun cdv A outer s H E x y M Q hr h=>?_
 obtain ⟨M0,p,a,b,gs,dd,rfl,rfl,nt,rfl,wf,hl,ok,q⟩:=h
 have pre:∀ {n:Nat} {gs':List Gt},Gr n gs gs'->gs <+: gs':=fun {n gs'} g=>by obtain ⟨e,rfl,_⟩:=g;exact List.prefix_append _ _
 cases dd with
 | inp s n k =>
  refine ⟨_,(qC (qs_if (qtcmp o_eq (qix i_tup (qv 1) qint (fun _ _=>rfl)) qstr (nomark _)) (qO (qs_ret (qmeth T.cl_Net T.x2.d (ok_Net_asked T) (hr.mono (by first | decide | omega)) (qv 0) (qA (qix i_tup (qv 1) qint (fun _ _=>rfl)) (qA (qix i_tup (qv 1) qint (fun _ _=>rfl)) (qA (qix i_tup (qv 1) qint (fun _ _=>rfl)) qN)))))) qE) (qC (qs_if (qtcmp o_eq (qix i_tup (qv 1) qint (fun _ _=>rfl)) qstr (nomark _)) (qO (qs_ret (qmeth T.cl_Net T.x3.d (ok_Net_both T) (hr.mono (by first | decide | omega)) (qv 0) (qA (qix i_tup (qv 1) qint (fun _ _=>rfl)) (qA (qix i_tup (qv 1) qint (fun _ _=>rfl)) qN))))) qE) (qO (qs_ret (qmeth T.cl_Net T.x4.d (ok_Net_differ T) (hr.mono (by first | decide | omega)) (qv 0) (qA (qix i_tup (qv 1) qint (fun _ _=>rfl)) (qA (qix i_tup (qv 1) qint (fun _ _=>rfl)) qN))))))),?_⟩
  simp only [dD]
  walk_at "in"
  exact nt.mt ⟨M0,p,a,b,gs,s,n,k,rfl,rfl,rfl,rfl,nt,rfl,wf,hl,fun gs' i h1 h2 w' hi r=>Dn.of (q gs' i h1 h2 w' hi r)⟩
 | and i j =>
  refine ⟨_,(qC (qs_if (qtcmp o_eq (qix i_tup (qv 1) qint (fun _ _=>rfl)) qstr (nomark _)) (qO (qs_ret (qmeth T.cl_Net T.x2.d (ok_Net_asked T) (hr.mono (by first | decide | omega)) (qv 0) (qA (qix i_tup (qv 1) qint (fun _ _=>rfl)) (qA (qix i_tup (qv 1) qint (fun _ _=>rfl)) (qA (qix i_tup (qv 1) qint (fun _ _=>rfl)) qN)))))) qE) (qC (qs_if (qtcmp o_eq (qix i_tup (qv 1) qint (fun _ _=>rfl)) qstr (nomark _)) (qO (qs_ret (qmeth T.cl_Net T.x3.d (ok_Net_both T) (hr.mono (by first | decide | omega)) (qv 0) (qA (qix i_tup (qv 1) qint (fun _ _=>rfl)) (qA (qix i_tup (qv 1) qint (fun _ _=>rfl)) qN))))) qE) (qO (qs_ret (qmeth T.cl_Net T.x4.d (ok_Net_differ T) (hr.mono (by first | decide | omega)) (qv 0) (qA (qix i_tup (qv 1) qint (fun _ _=>rfl)) (qA (qix i_tup (qv 1) qint (fun _ _=>rfl)) qN))))))),?_⟩
  simp only [dD]
  walk_at "in"
  repeat (refine ite2 (fun c=>absurd c (by decide +kernel)) fun _=>?_)
  exact nt.mt (gate_c nt wf hl ok.1 ok.2 fun gs' k g' w' hk _ r=>Dn.of (q gs' k (pre g') g'.le.2 w' hk r))
 | xor i j =>
  refine ⟨_,(qC (qs_if (qtcmp o_eq (qix i_tup (qv 1) qint (fun _ _=>rfl)) qstr (nomark _)) (qO (qs_ret (qmeth T.cl_Net T.x2.d (ok_Net_asked T) (hr.mono (by first | decide | omega)) (qv 0) (qA (qix i_tup (qv 1) qint (fun _ _=>rfl)) (qA (qix i_tup (qv 1) qint (fun _ _=>rfl)) (qA (qix i_tup (qv 1) qint (fun _ _=>rfl)) qN)))))) qE) (qC (qs_if (qtcmp o_eq (qix i_tup (qv 1) qint (fun _ _=>rfl)) qstr (nomark _)) (qO (qs_ret (qmeth T.cl_Net T.x3.d (ok_Net_both T) (hr.mono (by first | decide | omega)) (qv 0) (qA (qix i_tup (qv 1) qint (fun _ _=>rfl)) (qA (qix i_tup (qv 1) qint (fun _ _=>rfl)) qN))))) qE) (qO (qs_ret (qmeth T.cl_Net T.x4.d (ok_Net_differ T) (hr.mono (by first | decide | omega)) (qv 0) (qA (qix i_tup (qv 1) qint (fun _ _=>rfl)) (qA (qix i_tup (qv 1) qint (fun _ _=>rfl)) qN))))))),?_⟩
  simp only [dD]
  walk_at "in"
  repeat (refine ite2 (fun c=>absurd c (by decide +kernel)) fun _=>?_)
  exact nt.mt (gate_c nt wf hl ok.1 ok.2 fun gs' k g' w' hk _ r=>Dn.of (q gs' k (pre g') g'.le.2 w' hk r))
theorem sc__law_well:FnScope ["rows", "k", "row"] ["rows"] (dfS s__law_well):=⟨rfl,rfl,rfl,by decide +kernel,rfl,by decide +kernel,by decide +kernel⟩
theorem cmpL_ks {M:Mp}{n:Nat}:∀ ks:List Key,cmpL (cmpD M n) (ks.map kD) (ks.map kD)=some true
 | []=>rfl
 | .inl i::ks=>by
  rw [List.map_cons,cmpL,show kD (.inl i)=.int i from rfl,cmpD_int,cmpL_ks ks,decide_eq_true rfl]
  rfl
 | .inr x::ks=>by
  rw [List.map_cons,cmpL,show kD (.inr x)=.str x from rfl,cmpD_str,cmpL_ks ks,decide_eq_true rfl]
  rfl
theorem cmpL_gs {M:Mp}{n:Nat}:∀ gs:List Gt,cmpL (cmpD M (n+1)) (gs.map gD) (gs.map gD)=some true
 | []=>rfl
 | g::gs=>by
  rw [List.map_cons,cmpL,show cmpD M (n+1) (gD g) (gD g)=some true from cmpL_ks g.ks,cmpL_gs gs]
  rfl
def sp__law_well (ds:List D) (M:Mp) (Q:VK2):Prop:=on1 ds fun x=>∃ gs:List Gt,x=.lst (gs.map gD)/\WF gs/\gs.length<300/\Q (.bl true) M
theorem ks_nd:∀ {gs:List Gt},gs.Nodup->(gs.map Gt.ks).Nodup
 | [],_=>List.nodup_nil
 | g::gs,h=>by
  obtain ⟨h1,h2⟩:=List.nodup_cons.mp h
  rw [List.map_cons,List.nodup_cons]
  refine ⟨fun hm=>?_,ks_nd h2⟩
  obtain ⟨x,hx,e⟩:=List.mem_map.mp hm
  exact h1 (by rw [<- Gt.ks_inj e];exact hx)
theorem cut_two {a b:D}{r:List D}:L3.cutD (a::b::r) none (some 2)=[a,b]:=by
 unfold L3.cutD
 rw [show (some (2:Int))=some ((2:Nat):Int) from rfl,HT.sIx_nat,show HT.sIx (a::b::r).length 0 none=0 from rfl,List.drop_zero,List.length_cons,List.length_cons,show min 2 (r.length+1+1)-0=2 by omega]
 rfl
local macro_rules | `(tactic| simp_all_arith! [$xs,*])=>`(tactic| simp_arith [ List.set_cons_zero,List.set_cons_succ,r_LS,r_chain3,$xs,*])
local macro_rules | `(tactic| walk_at "rd")=>`(tactic| simp_all_arith! [true_and,↓sp__law_well])
theorem ok__law_well (T:Tx K w mg):Ok P w K mg base 1 T.x9.f T.x9.g ["rows"] sp__law_well:=by
 refine Fun.o1 T.x9.d.F sc__law_well fun cdv A outer s H E x M Q hr h=>?_
 obtain ⟨gs,rfl,wf,hl,q⟩:=h
 refine ⟨_,(qC (qs_if ((qw_or (qtnot (qtval (qcallB (c_isi "list") T.B.isinstance boot_isinstance (qA (qv 0) (qA (qty T.B.list boot_list) qN))))) (qw_or (qtcmp (o_neS (hu41 hr)) (qslice s_listF (qv 0) qo_none (qo_some qint)) (qlstF (qA (qtup (qA qstr qN)) (qA (qtup (qA qstr qN)) qN))) (nomark _)) (qw_or1 (qtcmp o_ne (qLS rfl (hu45 hr) T.B.len T.B.set (qv 0)) (qcallB c_len T.B.len PySem.boot_len (qA (qv 0) qN)) (nomark _)))))).pt (qO (qs_ret qbl)) qE) (qss_cut (qs_for PassesOwn.never rfl (qi_range2 T.B.range (qA qint (qA (qcallB c_len T.B.len PySem.boot_len (qA (qv 0) qN)) qN))) (qg_name (i:=1) sc__law_well.nd rfl (Or.inl rfl)) (qC (qs_set (i:=2) sc__law_well.nd rfl (Or.inl rfl) (qix i_list (qv 0) (qv 1) (fun _ _=>rfl))) (qC (qs_if ((qw_or (qtnot (qtval (qcallB (c_isi "tuple") T.B.isinstance boot_isinstance (qA (qv 2) (qA (qty T.B.tuple boot_tuple) qN))))) (qw_or1 (qtcmp o_notin (qcallB c_len T.B.len PySem.boot_len (qA (qv 2) qN)) (qtup (qA qint (qA qint qN))) (by with_unfolding_all rfl))))).pt (qO (qs_ret qbl)) qE) (qC (qs_if ((qw_or ((qw_and (qtcmp o_eq (qcallB c_len T.B.len PySem.boot_len (qA (qv 2) qN)) qint (nomark _)) (qw_and1 (qtcmp o_ne (qix i_tup (qv 2) qint (fun _ _=>rfl)) qstr (nomark _))))).pt (qw_or1 ((qw_and (qtcmp o_eq (qcallB c_len T.B.len PySem.boot_len (qA (qv 2) qN)) qint (nomark _)) (qw_and1 (qtcmp o_notin (qix i_tup (qv 2) qint (fun _ _=>rfl)) (qtup (qA qstr (qA qstr qN))) (by with_unfolding_all rfl))))).pt))).pt (qO (qs_ret qbl)) qE) (qO (qs_if ((qw_and (qtcmp o_eq (qcallB c_len T.B.len PySem.boot_len (qA (qv 2) qN)) qint (nomark _)) (qw_and1 (qtnot (qtchain3 o_le o_lt o_lt qint (qix i_tup (qv 2) qint (fun _ _=>rfl)) (qix i_tup (qv 2) qint (fun _ _=>rfl)) (qv 1)))))).pt (qO (qs_ret qbl)) qE)))))) (qO (qs_ret qbl)))),?_⟩
 obtain ⟨r,hr'⟩:∃ r,gs=.no::.yes::r:=by
  cases gs with
  | nil=>cases wf.n
  | cons g gs =>
   cases gs with
   | nil=>cases wf.y
   | cons g' r =>
    have h1:=wf.n
    have h2:=wf.y
    cases h1
    cases h2
    exact ⟨r,rfl⟩
 have cu:L3.cutD (gs.map gD) none (some 2)=[Gt.no,.yes].map gD:=by rw [hr'];exact cut_two
 walk_at "in"
 rw [cu,show cmpL (cmpD M 40) ([Gt.no,.yes].map gD) [D.tup [D.str "no"],D.tup [D.str "yes"]]=some true from cmpL_gs [.no,.yes],r_onO]
 refine ite2 (fun c=>nomatch c) fun _=>?_
 refine ⟨gs.map Gt.ks,by rw [List.map_map];rfl,ks_nd wf.nd,by rw [List.length_map];exact hl,?_⟩
 rw [List.length_map]
 walk_at "rd"
 refine ite2 (fun c=>absurd trivial c) fun _=>?_
 refine ⟨fun τ M'=>M'=M/\∃ v1 v2:Option D,τ=[some (.lst (gs.map gD)),v1,v2],?_,?_⟩
 ·walk_at "rd"
  refine ⟨?_,fun k τ M'=>M'=M/\∃ v1 v2:Option D,τ=[some (.lst (gs.map gD)),v1,v2],⟨rfl,none,none,rfl⟩,fun _ _ _ _=>trivial,?_,fun τ M' h=>h⟩
  rotate_left
  ·rintro k d τ M' hd ⟨rfl,v1,v2,rfl⟩
   obtain ⟨hk,rfl⟩:=rng_get hd
   have hk2:2+k<gs.length:=by omega
   obtain ⟨g,hg⟩:∃ g,gs[2+k]? = some g:=⟨_,List.getElem?_eq_getElem hk2⟩
   have ok:=wf.g _ g hg
   have e:atI (gs.map gD) (2+(k:Int))=some (gD g):=by
    rw [show (2:Int)+(k:Int)=((2+k:Nat):Int) by omega]
    exact atI_nat (by rw [List.getElem?_map,hg];rfl)
   have ne:∀ j:Nat,j<2->gs[j]?≠some g:=fun j hj h=>by
    have hj':=(List.getElem?_eq_some_iff.mp h).1
    have:=(List.getElem_inj wf.nd).mp ((List.getElem?_eq_some_iff.mp h).2.trans (List.getElem?_eq_some_iff.mp hg).2.symm)
    omega
   walk_at "rd"
   rw [e,r_onO]
   cases g with
   | no=>exact absurd wf.n (ne 0 (by decide))
   | yes=>exact absurd wf.y (ne 1 (by decide))
   | inp s n x =>
    simp only [gD,L3.tkD,Gt.ks,List.map_cons,List.map_nil,kD]
    walk_at "rd"
    exact ⟨_,_,rfl⟩
   | and l h =>
    obtain ⟨o1,o2⟩:=ok
    simp only [gD,L3.tkD,Gt.ks,List.map_cons,List.map_nil,kD]
    walk_at "rd"
    refine ite2 (fun c=>nomatch c) fun _=>?_
    rw [if_pos (by omega),if_pos (by omega),if_neg (by omega)]
    exact ⟨_,_,rfl⟩
   | xor l h =>
    obtain ⟨o1,o2⟩:=ok
    simp only [gD,L3.tkD,Gt.ks,List.map_cons,List.map_nil,kD]
    walk_at "rd"
    refine ite2 (fun c=>absurd c (by rw [Bool.or_true];decide)) fun _=>?_
    rw [if_pos (by omega),if_pos (by omega),if_neg (by omega)]
    exact ⟨_,_,rfl⟩
  ·omega
 rintro τ M' ⟨rfl,v1,v2,rfl⟩
 walk_at "rd"
 exact Dn.of q
theorem sc_law:FnScope ["script", "nets", "known", "deeds", "looks", "cells", "k", "at", "deed", "rows", "look"] ["script"] (dfS s_law):=⟨rfl,rfl,rfl,by decide +kernel,rfl,by decide +kernel,by decide +kernel⟩
theorem cut_ints (ns:List Int) (l u:Option Int):∃ ms:List Int,L3.cutD (ns.map D.int) l u=ms.map D.int/\ms.length<=ns.length:=by
 unfold L3.cutD
 rw [<- List.map_drop,<- List.map_take]
 exact ⟨_,rfl,by rw [List.length_take,List.length_drop];omega⟩
def up1 {α:Type}(f:Nat->α) (t:Nat) (v:α):Nat->α:=fun u=>if u=t then v else f u
theorem up1_s {α:Type}{f:Nat->α}{t:Nat}{v:α}:up1 f t v t=v:=if_pos rfl
theorem up1_n {α:Type}{f:Nat->α}{t u:Nat}{v:α}(h:u≠t):up1 f t v u=f u:=if_neg h
structure MI (C:Addr) (M:Mp) (tag pp:Nat->Addr) (g:Nat->List Gt) (kn:Nat->List Nat) (de:Nat->List Dd) (lo:Nat->List (List Gt)):Prop where
 j:∀ i j,i<10->j<10->tag i=tag j->i=j
 o:∀ t,t<2->M (pp t)=some (.obj C [("rows",.ref (tag t)),("places",.ref (tag (2+t)))])
 r:∀ t,t<2->M (tag t)=some (.lst ((g t).map gD))
 p:∀ t,t<2->M (tag (2+t))=some (.dct (pls (g t)))
 k:∀ t,t<2->M (tag (4+t))=some (.lst (psD (kn t)))
 d:∀ t,t<2->M (tag (6+t))=some (.lst ((de t).map dD))
 l:∀ t,t<2->M (tag (8+t))=some (.lst ((lo t).map fun x=>.lst (x.map gD)))
section
variable {C:Addr}{M:Mp}{tag pp:Nat->Addr}{g:Nat->List Gt}{kn:Nat->List Nat}{de:Nat->List Dd}{lo:Nat->List (List Gt)}
theorem MI.ne (h:MI C M tag pp g kn de lo) {i j:Nat}(hi:i<10) (hj:j<10) (n:i≠j):tag i≠tag j:=fun e=>n (h.j i j hi hj e)
theorem MI.np (h:MI C M tag pp g kn de lo) {t i:Nat}(ht:t<2) (hi:i<10):pp t≠tag i:=fun e=>by
 have h0:=h.o t ht
 rw [e] at h0
 rcases (show i=0\/i=1\/i=2+0\/i=2+1\/i=4+0\/i=4+1\/i=6+0\/i=6+1\/i=8+0\/i=8+1 by omega) with rfl|rfl|rfl|rfl|rfl|rfl|rfl|rfl|rfl|rfl
 ·rw [h.r 0 (by decide)] at h0;cases h0
 ·rw [h.r 1 (by decide)] at h0;cases h0
 ·rw [h.p 0 (by decide)] at h0;cases h0
 ·rw [h.p 1 (by decide)] at h0;cases h0
 ·rw [h.k 0 (by decide)] at h0;cases h0
 ·rw [h.k 1 (by decide)] at h0;cases h0
 ·rw [h.d 0 (by decide)] at h0;cases h0
 ·rw [h.d 1 (by decide)] at h0;cases h0
 ·rw [h.l 0 (by decide)] at h0;cases h0
 ·rw [h.l 1 (by decide)] at h0;cases h0
theorem MI.net (h:MI C M tag pp g kn de lo) {t:Nat}(ht:t<2):∃ X,Nt C X (pp t) (tag t) (tag (2+t))/\M=netM X (tag t) (tag (2+t)) (g t)/\∀ g',MI C (netM X (tag t) (tag (2+t)) g') tag pp (up1 g t g') kn de lo:=by
 have ab:=h.ne (i:=t) (j:=2+t) (by omega) (by omega) (by omega)
 have xo:∀ {y},y≠tag t->y≠tag (2+t)->del (del M (tag t)) (tag (2+t)) y=M y:=fun {y} h1 h2=>by unfold del;rw [if_neg h2,if_neg h1]
 have em:M=netM (del (del M (tag t)) (tag (2+t))) (tag t) (tag (2+t)) (g t):=by
  funext y
  unfold netM
  by_cases h2:y=tag (2+t)
  ·rw [h2,put_same];exact h.p t ht
  ·rw [put_ne h2]
   by_cases h1:y=tag t
   ·rw [h1,put_same];exact h.r t ht
   ·rw [put_ne h1,xo h1 h2]
 refine ⟨_,⟨by rw [xo (h.np ht (by omega)) (h.np ht (by omega))];exact h.o t ht,h.np ht (by omega),h.np ht (by omega),ab,by unfold del;rw [if_neg ab,if_pos rfl],by unfold del;rw [if_pos rfl]⟩,em,fun g'=>?_⟩
 have no:∀ {y},y≠tag t->y≠tag (2+t)->netM (del (del M (tag t)) (tag (2+t))) (tag t) (tag (2+t)) g' y=M y:=fun {y} h1 h2=>by rw [netM_o h1 h2,xo h1 h2]
 refine ⟨h.j,fun u hu=>?_,fun u hu=>?_,fun u hu=>?_,fun u hu=>?_,fun u hu=>?_,fun u hu=>?_⟩
 ·rw [no (h.np hu (by omega)) (h.np hu (by omega))];exact h.o u hu
 ·by_cases e:u=t
  ·rw [e,up1_s,netM_a ab]
  ·rw [up1_n e,no (h.ne (by omega) (by omega) e) (h.ne (by omega) (by omega) (by omega))];exact h.r u hu
 ·by_cases e:u=t
  ·rw [e,up1_s,netM_b]
  ·rw [up1_n e,no (h.ne (by omega) (by omega) (by omega)) (h.ne (by omega) (by omega) (by omega))];exact h.p u hu
 ·rw [no (h.ne (by omega) (by omega) (by omega)) (h.ne (by omega) (by omega) (by omega))];exact h.k u hu
 ·rw [no (h.ne (by omega) (by omega) (by omega)) (h.ne (by omega) (by omega) (by omega))];exact h.d u hu
 ·rw [no (h.ne (by omega) (by omega) (by omega)) (h.ne (by omega) (by omega) (by omega))];exact h.l u hu
theorem MI.put (h:MI C M tag pp g kn de lo) {i:Nat}(hi:i<10) (h4:4<=i) {o:MO}{kn':Nat->List Nat}{de':Nat->List Dd}{lo':Nat->List (List Gt)}(hk:∀ t,t<2->(i=4+t->o=.lst (psD (kn' t)))/\(i≠4+t->kn' t=kn t)) (hd:∀ t,t<2->(i=6+t->o=.lst ((de' t).map dD))/\(i≠6+t->de' t=de t)) (hl:∀ t,t<2->(i=8+t->o=.lst ((lo' t).map fun x=>.lst (x.map gD)))/\(i≠8+t->lo' t=lo t)):MI C (L3.put M (tag i) o) tag pp g kn' de' lo':=by
 refine ⟨h.j,fun u hu=>?_,fun u hu=>?_,fun u hu=>?_,fun u hu=>?_,fun u hu=>?_,fun u hu=>?_⟩
 ·rw [put_ne (h.np hu hi)];exact h.o u hu
 ·rw [put_ne (h.ne (by omega) hi (by omega))];exact h.r u hu
 ·rw [put_ne (h.ne (by omega) hi (by omega))];exact h.p u hu
 ·by_cases e:i=4+u
  ·rw [e,put_same,((hk u hu).1 e)]
  ·rw [put_ne (h.ne (by omega) hi (Ne.symm e)),(hk u hu).2 e];exact h.k u hu
 ·by_cases e:i=6+u
  ·rw [e,put_same,((hd u hu).1 e)]
  ·rw [put_ne (h.ne (by omega) hi (Ne.symm e)),(hd u hu).2 e];exact h.d u hu
 ·by_cases e:i=8+u
  ·rw [e,put_same,((hl u hu).1 e)]
  ·rw [put_ne (h.ne (by omega) hi (Ne.symm e)),(hl u hu).2 e];exact h.l u hu
theorem MI.pk (h:MI C M tag pp g kn de lo) {t:Nat}(ht:t<2) (v:List Nat):MI C (L3.put M (tag (4+t)) (.lst (psD v))) tag pp g (up1 kn t v) de lo:=h.put (by omega) (by omega) (fun u hu=>⟨fun e=>by rw [show u=t by omega,up1_s],fun e=>up1_n (by omega)⟩) (fun u hu=>⟨fun e=>by omega,fun _=>rfl⟩) (fun u hu=>⟨fun e=>by omega,fun _=>rfl⟩)
theorem MI.pd (h:MI C M tag pp g kn de lo) {t:Nat}(ht:t<2) (v:List Dd):MI C (L3.put M (tag (6+t)) (.lst (v.map dD))) tag pp g kn (up1 de t v) lo:=h.put (by omega) (by omega) (fun u hu=>⟨fun e=>by omega,fun _=>rfl⟩) (fun u hu=>⟨fun e=>by rw [show u=t by omega,up1_s],fun e=>up1_n (by omega)⟩) (fun u hu=>⟨fun e=>by omega,fun _=>rfl⟩)
theorem MI.pl (h:MI C M tag pp g kn de lo) {t:Nat}(ht:t<2) (v:List (List Gt)):MI C (L3.put M (tag (8+t)) (.lst (v.map fun x=>.lst (x.map gD)))) tag pp g kn de (up1 lo t v):=h.put (by omega) (by omega) (fun u hu=>⟨fun e=>by omega,fun _=>rfl⟩) (fun u hu=>⟨fun e=>by omega,fun _=>rfl⟩) (fun u hu=>⟨fun e=>by rw [show u=t by omega,up1_s],fun e=>up1_n (by omega)⟩)
structure CI (N:Nat) (g:List Gt) (kn:List Nat) (de:List Dd) (lo:List (List Gt)):Prop where
 w:WF g
 n:g.length<=2+N
 kl:kn.length=de.length+2
 dl:de.length<=N
 ll:lo.length<=N
 kb:∀ i∈kn,i<g.length
 h:∀ (k:Nat) dd,de[k]? = some dd->DdOk g.length dd/\∃ i ga gb,kn[k+2]? = some i/\doneR dd ga gb i/\gb <+: g
 lk:∀ x∈lo,x <+: g
end
structure Hs (M:Mp) (L:List (Addr×MO)):Prop where
 nd:(L.map Prod.fst).Nodup
 ma:∀ x∈L,M x.1=some x.2
theorem Hs.nil {M:Mp}:Hs M []:=⟨List.nodup_nil,fun _ h=>nomatch h⟩
theorem Hs.snoc {M:Mp}{L:List (Addr×MO)}{c:Addr}{o:MO}(h:Hs M L) (hc:M c=none):Hs (put M c o) (L++[(c,o)]):=by
 have ne:∀ x∈L,x.1≠c:=fun x hx e=>by have:=h.ma x hx;rw [e,hc] at this;cases this
 refine ⟨?_,fun x hx=>?_⟩
 ·rw [List.map_append,List.nodup_append]
  refine ⟨h.nd,List.nodup_cons.mpr ⟨fun h=>(nomatch h),List.nodup_nil⟩,fun a ha b hb e=>?_⟩
  obtain ⟨x,hx,rfl⟩:=List.mem_map.mp ha
  rw [List.mem_singleton.mp hb] at e
  exact ne x hx e
 ·rcases List.mem_append.mp hx with hx|hx
  ·rw [put_ne (ne x hx)];exact h.ma x hx
  ·rw [List.mem_singleton.mp hx];exact put_same
theorem Hs.net {C:Addr}{M:Mp}{L:List (Addr×MO)}{p a b:Addr}{gs:List Gt}(h:Hs M L) (hp:M p=none) (nt:Nt C (put M p (.obj C [("rows",.ref a),("places",.ref b)])) p a b):Hs (netM (put M p (.obj C [("rows",.ref a),("places",.ref b)])) a b gs) (L++[(p,.obj C [("rows",.ref a),("places",.ref b)]),(a,.lst (gs.map gD)),(b,.dct (pls gs))]):=by
 have h2:=((h.snoc hp).snoc (o:=.lst (gs.map gD)) nt.na).snoc (c:=b) (o:=.dct (pls gs)) (by rw [put_ne nt.ab.symm];exact nt.nb)
 rw [List.append_assoc,List.append_assoc] at h2
 exact h2
def ixs:List Nat:=[1,4,2,5,6,7,8,9,10,11]
theorem MI.of {C:Addr}{M:Mp}{p0 a0 b0 p1 a1 b1 k0 k1 d0 d1 l0 l1:Addr}(h:Hs M [(p0,.obj C [("rows",.ref a0),("places",.ref b0)]),(a0,.lst ([Gt.no,.yes].map gD)),(b0,.dct (pls [.no,.yes])),(p1,.obj C [("rows",.ref a1),("places",.ref b1)]),(a1,.lst ([Gt.no,.yes].map gD)),(b1,.dct (pls [.no,.yes])),(k0,.lst (psD [0,1])),(k1,.lst (psD [0,1])),(d0,.lst []),(d1,.lst []),(l0,.lst []),(l1,.lst [])]) :
  MI C M (fun i=>[p0,a0,b0,p1,a1,b1,k0,k1,d0,d1,l0,l1].getD (ixs.getD i 0) p0) (fun t=>if t=0 then p0 else p1) (fun _=>[.no,.yes]) (fun _=>[0,1]) (fun _=>[]) (fun _=>[]):=by
 have nd:[p0,a0,b0,p1,a1,b1,k0,k1,d0,d1,l0,l1].Nodup:=h.nd
 have go:∀ (n:Nat) x,([(p0,MO.obj C [("rows",.ref a0),("places",.ref b0)]),(a0,.lst ([Gt.no,.yes].map gD)),(b0,.dct (pls [.no,.yes])),(p1,.obj C [("rows",.ref a1),("places",.ref b1)]),(a1,.lst ([Gt.no,.yes].map gD)),(b1,.dct (pls [.no,.yes])),(k0,.lst (psD [0,1])),(k1,.lst (psD [0,1])),(d0,.lst []),(d1,.lst []),(l0,.lst []),(l1,.lst [])]:List (Addr×MO))[n]? = some x->M x.1=some x.2:=fun n x hx=>h.ma x (List.mem_of_getElem? hx)
 have two:∀ {P:Nat->Prop},P 0->P 1->∀ t,t<2->P t:=fun {P} h0 h1 t ht=>by
  rcases (show t=0\/t=1 by omega) with rfl|rfl
  ·exact h0
  ·exact h1
 refine ⟨fun i j hi hj e=>?_,two (go 0 _ rfl) (go 3 _ rfl),two (go 1 _ rfl) (go 4 _ rfl),two (go 2 _ rfl) (go 5 _ rfl),two (go 6 _ rfl) (go 7 _ rfl),two (go 8 _ rfl) (go 9 _ rfl),two (go 10 _ rfl) (go 11 _ rfl)⟩
 have lt:∀ i,i<10->ixs.getD i 0<12:=by decide
 have inj:∀ i,i<10->∀ j,j<10->ixs.getD i 0=ixs.getD j 0->i=j:=by decide
 refine inj i hi j hj ?_
 have e2:∀ n,n<12->∀ m,m<12->[p0,a0,b0,p1,a1,b1,k0,k1,d0,d1,l0,l1].getD n p0=[p0,a0,b0,p1,a1,b1,k0,k1,d0,d1,l0,l1].getD m p0->n=m:=fun n hn m hm e=>by
  rw [List.getD_eq_getElem?_getD,List.getD_eq_getElem?_getD,List.getElem?_eq_getElem (show n<12 from hn),List.getElem?_eq_getElem (show m<12 from hm)] at e
  exact (List.getElem_inj nd).mp e
 exact e2 _ (lt i hi) _ (lt j hj) e
theorem DdOk.mono {m m':Nat}(h:m<=m'):∀ {dd:Dd},DdOk m dd->DdOk m' dd
 | .inp ..,_=>trivial
 | .and ..,⟨h1,h2⟩=>⟨Nat.lt_of_lt_of_le h1 h,Nat.lt_of_lt_of_le h2 h⟩
 | .xor ..,⟨h1,h2⟩=>⟨Nat.lt_of_lt_of_le h1 h,Nat.lt_of_lt_of_le h2 h⟩
theorem Rp.done:∀ {dd:Dd},Rp (doneR dd)
 | .inp ..=>Rp.pl
 | .and ..=>Rp.both
 | .xor ..=>Rp.diff
theorem CI.mono {N:Nat}{g:List Gt}{kn:List Nat}{de:List Dd}{lo:List (List Gt)}(h:CI N g kn de lo):CI (N+1) g kn de lo:=⟨h.w,by have:=h.n;omega,h.kl,by have:=h.dl;omega,by have:=h.ll;omega,h.kb,h.h,h.lk⟩
theorem CI.step {N i:Nat}{g g':List Gt}{kn:List Nat}{de:List Dd}{dd:Dd}{lo:List (List Gt)}(h:CI N g kn de lo) (hp:g <+: g') (hl:g'.length<=g.length+1) (w:WF g') (hi:i<g'.length) (ok:DdOk g.length dd) (r:doneR dd g g' i):CI (N+1) g' (kn++[i]) (de++[dd]) lo:=by
 have gl:=hp.length_le
 refine ⟨w,by have:=h.n;omega,by rw [List.length_append,List.length_append,h.kl];rfl,by rw [List.length_append];have:=h.dl;show _+1<=_;omega,by have:=h.ll;omega,fun x hx=>?_,fun k x hx=>?_,fun x hx=>(h.lk x hx).trans hp⟩
 ·rcases List.mem_append.mp hx with hx|hx
  ·exact Nat.lt_of_lt_of_le (h.kb x hx) gl
  ·rw [List.mem_singleton.mp hx];exact hi
 ·rcases Nat.lt_or_ge k de.length with c|c
  ·rw [List.getElem?_append_left c] at hx
   obtain ⟨h1,i',ga,gb,h2,h3,h4⟩:=h.h k x hx
   exact ⟨h1.mono gl,i',ga,gb,by rw [List.getElem?_append_left (by rw [h.kl];omega)];exact h2,h3,h4.trans hp⟩
  ·rw [List.getElem?_append_right c] at hx
   have e:k=de.length:=by
    have:=(List.getElem?_eq_some_iff.mp hx).1
    simp at this
    omega
   subst e
   rw [Nat.sub_self] at hx
   cases hx
   exact ⟨ok.mono gl,i,g,g',by rw [<- h.kl,List.getElem?_append_right (Nat.le_refl _),Nat.sub_self];rfl,r,List.prefix_refl _⟩
theorem CI.look {N:Nat}{g:List Gt}{kn:List Nat}{de:List Dd}{lo:List (List Gt)}(h:CI (N+1) g kn de lo) (hl:lo.length<=N):CI (N+1) g kn de (lo++[g]):=⟨h.w,h.n,h.kl,h.dl,by rw [List.length_append];show _+1<=_;omega,h.kb,h.h,fun x hx=>by
 rcases List.mem_append.mp hx with hx|hx
 ·exact h.lk x hx
 ·rw [List.mem_singleton.mp hx];exact List.prefix_refl _⟩
theorem at2 {x y:Addr}{f:Nat->Addr}{t:Nat}(ht:t<2) (h0:x=f 0) (h1:y=f 1):atI [D.ref x,.ref y] ((t:Nat):Int)=some (.ref (f t)):=by
 rcases (show t=0\/t=1 by omega) with rfl|rfl
 ·rw [h0];rfl
 ·rw [h1];rfl
theorem cut_pre {x gs:List Gt}(h:x <+: gs):L3.cutD (gs.map gD) none (some (x.length:Int))=x.map gD:=by
 obtain ⟨r,rfl⟩:=h
 rw [<- List.length_map (f:=gD) (as:=x)]
 unfold L3.cutD
 rw [HT.sIx_nat,show HT.sIx ((x++r).map gD).length 0 none=0 from rfl,List.drop_zero,Nat.sub_zero,List.map_append,List.length_append,Nat.min_eq_left (Nat.le_add_right _ _),List.take_left']
 rfl
abbrev sW (s:List Int) (v1 v2 v3 v4 v5 v6 v7 v8 v9 v10:Option D:=none):St2:=[some (.lst (s.map D.int)),v1,v2,v3,v4,v5,v6,v7,v8,v9,v10]
local macro_rules | `(tactic| walk_at "rd")=>`(tactic| simp_all_arith! [true_and,↓sp_Net___init__,↓sp__law_deed,↓sp_Net_told,↓sp__law_mix,↓sp__law_done,↓sp__law_well])
theorem ok_law (T:Tx K w mg):Ok P w K mg base 60 T.x10.f T.x10.g ["script"] spLaw2:=by
 refine Fun.ok2 T.x10.d.F sc_law (fun ds M Q h=>?_) (fun cdv A outer s H E ds M Q hr h=>?_)
 ·obtain ⟨ns,rfl,_⟩:=h
  rfl
 obtain ⟨ns,rfl,h63,q⟩:=h
 refine ⟨_,(qss_cut (qs_set (i:=1) sc_law.nd rfl (Or.inl rfl) (qlstF (qA (qmake0 T.mk_Net T.x0.d (ok_Net___init__ T) (hr.mono (by first | decide | omega)) T.mgc_Net) (qA (qmake0 T.mk_Net T.x0.d (ok_Net___init__ T) (hr.mono (by first | decide | omega)) T.mgc_Net) qN)))) (qss_cut (qs_set (i:=2) sc_law.nd rfl (Or.inl rfl) (qlstF (qA (qlst (qA qint (qA qint qN))) (qA (qlst (qA qint (qA qint qN))) qN)))) (qss_cut (qs_set (i:=3) sc_law.nd rfl (Or.inl rfl) (qlstF (qA (qlst qN) (qA (qlst qN) qN)))) (qss_cut (qs_set (i:=4) sc_law.nd rfl (Or.inl rfl) (qlstF (qA (qlst qN) (qA (qlst qN) qN)))) (qss_cut (qs_set (i:=5) sc_law.nd rfl (Or.inl rfl) (qslice s_listF (qv 0) qo_none (qo_some qint))) (qss_cut (qs_for PassesOwn.never rfl (qi_range1 T.B.range (qA (qcallB c_len T.B.len PySem.boot_len (qA (qv 5) qN)) qN)) (qg_name (i:=6) sc_law.nd rfl (Or.inl rfl)) (qss_cut (qs_set (i:=7) sc_law.nd rfl (Or.inl rfl) (qop o_mod (qv 6) qint)) (qss_cut (qs_set (i:=8) sc_law.nd rfl (Or.inl rfl) (qcall T.x7.d (ok__law_deed T) (hr.mono (by first | decide | omega)) (qA (qcall T.x6.d (ok__law_mix T) (hr.mono (by first | decide | omega)) (qA (qop o_mod (qix i_list (qv 5) (qv 6) (fun _ _=>rfl)) qint) (qA qint qN))) (qA (qix i_list (qv 2) (qv 7) (fun _ _=>rfl)) qN)))) (qss_cut (qs_expr (qbm PySem.F.plainAttrs_list PySem.F.slot_list_append PySem.F.type_list_append m_append (qix i_list (qv 3) (qv 7) (fun _ _=>rfl)) (qA (qv 8) qN))) (qss_cut (qs_expr (qbm PySem.F.plainAttrs_list PySem.F.slot_list_append PySem.F.type_list_append m_append (qix i_list (qv 2) (qv 7) (fun _ _=>rfl)) (qA (qcall T.x8.d (ok__law_done T) (hr.mono (by first | decide | omega)) (qA (qix i_list (qv 1) (qv 7) (fun _ _=>rfl)) (qA (qv 8) qN))) qN))) (qO (qs_if (qtcmp o_eq (qop o_mod (qv 6) qint) qint (nomark _)) (qO (qs_expr (qbm PySem.F.plainAttrs_list PySem.F.slot_list_append PySem.F.type_list_append m_append (qix i_list (qv 4) (qv 7) (fun _ _=>rfl)) (qA (qmeth0 T.cl_Net T.x5.d (ok_Net_told T) (hr.mono (by first | decide | omega)) (qix i_list (qv 1) (qv 7) (fun _ _=>rfl))) qN)))) qE))))))) (qss_cut (qs_for PassesOwn.never rfl (qi_list (qlstF (qA qint (qA qint qN)))) (qg_name (i:=7) sc_law.nd rfl (Or.inl rfl)) (qss_cut (qs_set (i:=9) sc_law.nd rfl (Or.inl rfl) (qmeth0 T.cl_Net T.x5.d (ok_Net_told T) (hr.mono (by first | decide | omega)) (qix i_list (qv 1) (qv 7) (fun _ _=>rfl)))) (qss_cut (qs_if (qtnot (qtval (qcall T.x9.d (ok__law_well T) (hr.mono (by first | decide | omega)) (qA (qv 9) qN)))) (qO (qs_ret qbl)) qE) (qss_cut (qs_for PassesOwn.never rfl (qi_list (qix i_list (qv 4) (qv 7) (fun _ _=>rfl))) (qg_name (i:=10) sc_law.nd rfl (Or.inl rfl)) (qO (qs_if (qtcmp (o_neS (hu41 hr)) (qv 10) (qslice s_listF (qv 9) qo_none (qo_some (qcallB c_len T.B.len PySem.boot_len (qA (qv 10) qN)))) (nomark _)) (qO (qs_ret qbl)) qE))) (qss_cut (qs_for PassesOwn.never rfl (qi_range1 T.B.range (qA (qcallB c_len T.B.len PySem.boot_len (qA (qix i_list (qv 3) (qv 7) (fun _ _=>rfl)) qN)) qN)) (qg_name (i:=6) sc_law.nd rfl (Or.inl rfl)) (qO (qs_if (qtcmp o_ne (qcall T.x8.d (ok__law_done T) (hr.mono (by first | decide | omega)) (qA (qix i_list (qv 1) (qv 7) (fun _ _=>rfl)) (qA (qix i_list (qix i_list (qv 3) (qv 7) (fun _ _=>rfl)) (qv 6) (fun _ _=>rfl)) qN))) (qix i_list (qix i_list (qv 2) (qv 7) (fun _ _=>rfl)) (qop o_add (qv 6) qint) (fun _ _=>rfl)) (nomark _)) (qO (qs_ret qbl)) qE))) (qO (qs_if (qtcmp (o_neS (hu41 hr)) (qmeth0 T.cl_Net T.x5.d (ok_Net_told T) (hr.mono (by first | decide | omega)) (qix i_list (qv 1) (qv 7) (fun _ _=>rfl))) (qv 9) (nomark _)) (qO (qs_ret qbl)) qE))))))) (qO (qs_ret qbl))))))))),?_⟩
 (try simp only [st_c,st_n,st_e])
 refine ⟨fun τ M'=>∃ p0 a0 b0 p1 a1 b1:Addr,Hs M' [(p0,.obj T.C_Net [("rows",.ref a0),("places",.ref b0)]),(a0,.lst ([Gt.no,.yes].map gD)),(b0,.dct (pls [.no,.yes])),(p1,.obj T.C_Net [("rows",.ref a1),("places",.ref b1)]),(a1,.lst ([Gt.no,.yes].map gD)),(b1,.dct (pls [.no,.yes]))]/\τ=sW ns (some (.lst [.ref p0,.ref p1])),?_,?_⟩
 ·walk_at "rd"
  refine fun p0 h0=>⟨M,p0,rfl,rfl,h0,fun a0 b0 _ _ nt0 p1 h1=>⟨_,p1,rfl,rfl,h1,fun a1 b1 _ _ nt1=>?_⟩⟩
  exact ⟨p0,a0,b0,p1,a1,b1,((Hs.nil (M:=M)).net h0 nt0).net h1 nt1,rfl⟩
 rintro τ M1 ⟨p0,a0,b0,p1,a1,b1,H1,rfl⟩
 refine ⟨fun τ M'=>∃ k0 k1:Addr,Hs M' [(p0,.obj T.C_Net [("rows",.ref a0),("places",.ref b0)]),(a0,.lst ([Gt.no,.yes].map gD)),(b0,.dct (pls [.no,.yes])),(p1,.obj T.C_Net [("rows",.ref a1),("places",.ref b1)]),(a1,.lst ([Gt.no,.yes].map gD)),(b1,.dct (pls [.no,.yes])),(k0,.lst (psD [0,1])),(k1,.lst (psD [0,1]))]/\τ=sW ns (some (.lst [.ref p0,.ref p1])) (some (.lst [.ref k0,.ref k1])),?_,?_⟩
 ·walk_at "rd"
  exact fun k0 h0 k1 h1=>⟨k0,k1,(H1.snoc h0).snoc h1,rfl⟩
 rintro τ M2 ⟨k0,k1,H2,rfl⟩
 refine ⟨fun τ M'=>∃ d0 d1:Addr,Hs M' [(p0,.obj T.C_Net [("rows",.ref a0),("places",.ref b0)]),(a0,.lst ([Gt.no,.yes].map gD)),(b0,.dct (pls [.no,.yes])),(p1,.obj T.C_Net [("rows",.ref a1),("places",.ref b1)]),(a1,.lst ([Gt.no,.yes].map gD)),(b1,.dct (pls [.no,.yes])),(k0,.lst (psD [0,1])),(k1,.lst (psD [0,1])),(d0,.lst []),(d1,.lst [])]/\τ=sW ns (some (.lst [.ref p0,.ref p1])) (some (.lst [.ref k0,.ref k1])) (some (.lst [.ref d0,.ref d1])),?_,?_⟩
 ·walk_at "rd"
  exact fun d0 h0 d1 h1=>⟨d0,d1,(H2.snoc h0).snoc h1,rfl⟩
 rintro τ M3 ⟨d0,d1,H3,rfl⟩
 refine ⟨fun τ M'=>∃ tag pp:Nat->Addr,MI T.C_Net M' tag pp (fun _=>[.no,.yes]) (fun _=>[0,1]) (fun _=>[]) (fun _=>[])/\τ=sW ns (some (.lst [.ref (pp 0),.ref (pp 1)])) (some (.lst [.ref (tag 4),.ref (tag 5)])) (some (.lst [.ref (tag 6),.ref (tag 7)])) (some (.lst [.ref (tag 8),.ref (tag 9)])),?_,?_⟩
 ·walk_at "rd"
  exact fun l0 h0 l1 h1=>⟨_,_,MI.of ((H3.snoc h0).snoc h1),rfl⟩
 rintro τ M4 ⟨tag,pp,I0,rfl⟩
 obtain ⟨sV,hsV⟩:∃ sV:Option D->Option D->Option D->Option D->Option D->Option D->St2,sV=fun v5 v6 v7 v8 v9 v10=>sW ns (some (.lst [.ref (pp 0),.ref (pp 1)])) (some (.lst [.ref (tag 4),.ref (tag 5)])) (some (.lst [.ref (tag 6),.ref (tag 7)])) (some (.lst [.ref (tag 8),.ref (tag 9)])) v5 v6 v7 v8 v9 v10:=⟨_,rfl⟩
 refine ⟨fun τ M'=>∃ ms:List Int,ms.length<=63/\M'=M4/\τ=sV (some (.lst (ms.map D.int))) none none none none none,?_,?_⟩
 ·walk_at "rd"
  obtain ⟨ms,hms,ml⟩:=cut_ints ns none (some 90)
  rw [hms,hsV]
  exact ⟨ms,by omega,rfl⟩
 rintro τ M5 ⟨ms,ml,rfl,rfl⟩
 have c0:CI 0 [.no,.yes] [0,1] [] []:=⟨wf0,Nat.le_refl _,rfl,Nat.le_refl _,Nat.le_refl _,fun i hi=>by simp only [List.mem_cons,List.not_mem_nil,or_false] at hi;rcases hi with rfl | rfl<;>decide,fun k dd h=>by simp at h,(fun x h=>nomatch h)⟩
 have aP:∀ {t:Nat},t<2->atI [D.ref (pp 0),.ref (pp 1)] (t:Int)=some (.ref (pp t)):=fun {t} ht=>at2 ht rfl rfl
 have aK:∀ {t:Nat},t<2->atI [D.ref (tag 4),.ref (tag 5)] (t:Int)=some (.ref (tag (4+t))):=fun {t} ht=>at2 (f:=fun t=>tag (4+t)) ht rfl rfl
 have aD:∀ {t:Nat},t<2->atI [D.ref (tag 6),.ref (tag 7)] (t:Int)=some (.ref (tag (6+t))):=fun {t} ht=>at2 (f:=fun t=>tag (6+t)) ht rfl rfl
 have aL:∀ {t:Nat},t<2->atI [D.ref (tag 8),.ref (tag 9)] (t:Int)=some (.ref (tag (8+t))):=fun {t} ht=>at2 (f:=fun t=>tag (8+t)) ht rfl rfl
 obtain ⟨J,hJ⟩:∃ J:Nat->St2->Mp->Prop,∀ k τ M',J k τ M'=∃ (g:Nat->List Gt) (kn:Nat->List Nat) (de:Nat->List Dd) (lo:Nat->List (List Gt)) (v6 v7 v8:Option D),MI T.C_Net M' tag pp g kn de lo/\(∀ t,t<2->CI k (g t) (kn t) (de t) (lo t))/\τ=sV (some (.lst (ms.map D.int))) v6 v7 v8 none none:=⟨_,fun _ _ _=>rfl⟩
 refine ⟨fun τ M'=>J ms.length τ M',?_,?_⟩
 ·rw [hsV]
  walk_at "rd"
  refine ⟨by omega,fun k=>J k,(hJ _ _ _).mpr ⟨_,_,_,_,none,none,none,I0,fun _ _=>c0,by rw [hsV]⟩,fun _ _ _ _=>trivial,?_,fun τ M' h=>?_⟩
  rotate_left
  ·rw [rng_len] at h
   exact h
  intro k d τ M' hd hI
  obtain ⟨g,kn,de,lo,v6,v7,v8,I1,C1,rfl⟩:=(hJ _ _ _).mp hI
  obtain ⟨hk,rfl⟩:=rng_get hd
  clear hI
  have hk':k<ms.length:=by omega
  obtain ⟨c,hc⟩:∃ c,ms[k]? = some c:=⟨_,List.getElem?_eq_getElem hk'⟩
  have ac:atI (ms.map D.int) (0+(k:Int))=some (.int c):=by rw [Int.zero_add];exact atI_nat (by rw [List.getElem?_map,hc];rfl)
  obtain ⟨t,ht,ht2⟩:∃ t:Nat,(0+(k:Int))%2=(t:Int)/\t<2:=⟨k%2,by omega,by omega⟩
  have CT:=C1 t ht2
  obtain ⟨sU,hsU⟩:∃ sU:Option D->St2,sU=fun v8=>sV (some (.lst (ms.map D.int))) (some (.int (0+(k:Int)))) (some (.int (t:Int))) v8 none none:=⟨_,rfl⟩
  rw [hsV]
  walk_at "rd"
  refine ⟨fun τ M2=>M2=M'/\τ=sU v8,?_,?_⟩
  ·walk_at "rd"
   rw [ht,hsU,hsV]
  rintro τ M2 ⟨rfl,rfl⟩
  refine ⟨fun τ M3=>∃ dd,DdOk (g t).length dd/\M3=M2/\τ=sU (some (dD dd)),?_,?_⟩
  ·rw [hsU,hsV]
   walk_at "rd"
   rw [ac,r_onO]
   walk_at "rd"
   intro r r0 r1
   rw [aK ht2,r_onO]
   exact ⟨r,kn t,(g t).length,rfl,⟨r0,by omega⟩,ls_of (I1.k t ht2),fun e=>by have:=CT.kl;rw [e] at this;exact absurd this (by show ¬ 0=_+2;omega),CT.kb,fun dd od=>⟨dd,od,rfl⟩⟩
  rintro τ M3 ⟨dd,od,rfl,rfl⟩
  have I2:=I1.pd ht2 (de t++[dd])
  refine ⟨fun τ M4=>MI T.C_Net M4 tag pp g kn (up1 de t (de t++[dd])) lo/\τ=sU (some (dD dd)),?_,?_⟩
  ·rw [hsU,hsV]
   walk_at "rd"
   rw [aD ht2,r_onO]
   walk_at "rd"
   have ld:=I1.d t ht2
   refine ⟨(ls_ty (ls_of ld)).1,?_⟩
   simp only [sAppend,r_onR,on1,ld]
   have:=CT.dl
   refine ⟨small1000 (by rw [List.length_map];omega),?_⟩
   rw [List.map_append] at I2
   exact I2
  rintro τ M4 ⟨I3,rfl⟩
  obtain ⟨X,nt,eM,up⟩:=I3.net ht2
  refine ⟨fun τ M5=>∃ (g':List Gt) (i:Nat),g t <+: g'/\g'.length<=(g t).length+1/\WF g'/\i<g'.length/\doneR dd (g t) g' i/\MI T.C_Net M5 tag pp (up1 g t g') (up1 kn t (kn t++[i])) (up1 de t (de t++[dd])) lo/\τ=sU (some (dD dd)),?_,?_⟩
  ·rw [hsU,hsV]
   walk_at "rd"
   rw [aK ht2,r_onO]
   walk_at "rd"
   refine ⟨(ls_ty (ls_of (I3.k t ht2))).1,?_⟩
   rw [aP ht2,r_onO]
   have:=CT.n
   have:=CT.dl
   have:=CT.kl
   refine ⟨X,pp t,tag t,tag (2+t),g t,dd,rfl,rfl,nt,eM,CT.w,by omega,od,fun g' i h1 h2 w' hi rr=>?_⟩
   have I4:=up g'
   have lk:=I4.k t ht2
   simp only [sAppend,r_onR,on1,lk]
   have I5:=I4.pk ht2 (kn t++[i])
   refine ⟨small1000 (by unfold psD;rw [List.length_map];omega),g',i,h1,h2,w',hi,rr,?_⟩
   unfold psD at I5
   rw [List.map_append] at I5
   exact I5
  rintro τ M5 ⟨g',i,h1,h2,w',hi,rr,I6,rfl⟩
  have C2:CI (k+1) g' (kn t++[i]) (de t++[dd]) (lo t):=CT.step h1 h2 w' hi od rr
  have al:∀ {lo':Nat->List (List Gt)},CI (k+1) g' (kn t++[i]) (de t++[dd]) (lo' t)->(∀ u,u≠t->lo' u=lo u)->∀ u,u<2->CI (k+1) (up1 g t g' u) (up1 kn t (kn t++[i]) u) (up1 de t (de t++[dd]) u) (lo' u):=fun {lo'} hc ho u hu=>by
   by_cases e:u=t
   ·rw [e,up1_s,up1_s,up1_s];exact hc
   ·rw [up1_n e,up1_n e,up1_n e,ho u e];exact (C1 u hu).mono
  rw [hsU,hsV]
  walk_at "rd"
  refine ite2 (fun _=>?_) fun _=>(hJ _ _ _).mpr ⟨_,_,_,_,_,_,_,I6,al C2 fun _ _=>rfl,by rw [hsV]⟩
  rw [aL ht2,r_onO]
  walk_at "rd"
  have ll:=I6.l t ht2
  refine ⟨(ls_ty (ls_of ll)).1,?_⟩
  rw [aP ht2,r_onO]
  walk_at "rd"
  obtain ⟨X6,nt6,e6,_⟩:=I6.net ht2
  rw [I6.o t ht2,r_onMO]
  refine ⟨lkNo (by decide +kernel) (by decide +kernel),X6,pp t,_,_,_,rfl,nt6,e6,?_⟩
  simp only [sAppend,r_onR,on1,ll]
  have hll:=CT.ll
  have I7:=I6.pl ht2 (lo t++[g'])
  rw [List.map_append] at I7
  refine ⟨small1000 (by rw [List.length_map];omega),?_⟩
  rw [up1_s]
  exact (hJ _ _ _).mpr ⟨_,_,_,_,_,_,_,I7,al (lo':=up1 lo t (lo t++[g'])) (by rw [up1_s];exact C2.look hll) fun u hu=>up1_n hu,by rw [hsV]⟩
 rintro τ M6 hI
 obtain ⟨g,kn,de,lo,v6,v7,v8,I1,C1,rfl⟩:=(hJ _ _ _).mp hI
 clear hI
 obtain ⟨N,hN⟩:∃ N:St2->Mp->Prop,∀ τ M',N τ M'=(M'=M6/\∃ x6 x7 x9 x10:Option D,τ=sV (some (.lst (ms.map D.int))) x6 x7 v8 x9 x10):=⟨_,fun _ _=>rfl⟩
 refine ⟨N,?_,?_⟩
 ·rw [hsV]
  walk_at "rd"
  refine ⟨fun _=>N,(hN _ _).mpr ⟨rfl,_,_,_,_,by rw [hsV]⟩,fun _ _ _ _=>trivial,?_,fun τ M' h=>h⟩
  intro i d τ M' hd hI
  obtain ⟨rfl,x6,x7,x9,x10,rfl⟩:=(hN _ _).mp hI
  clear hI
  obtain ⟨t,ht2,rfl⟩:∃ t:Nat,t<2/\d=.int (t:Int):=by
   rcases (show i=0\/i=1 by have:=(List.getElem?_eq_some_iff.mp hd).1;simp at this;omega) with rfl|rfl<;>cases hd
   ·exact ⟨0,by decide,rfl⟩
   ·exact ⟨1,by decide,rfl⟩
  have CT:=C1 t ht2
  obtain ⟨X,nt,eM,up⟩:=I1.net ht2
  obtain ⟨sU,hsU⟩:∃ sU:Option D->Option D->Option D->St2,sU=fun x6 x9 x10=>sV (some (.lst (ms.map D.int))) x6 (some (.int (t:Int))) v8 x9 x10:=⟨_,rfl⟩
  rw [hsV]
  walk_at "rd"
  refine ⟨fun τ M2=>M2=M'/\τ=sU x6 (some (.lst ((g t).map gD))) x10,?_,?_⟩
  ·walk_at "rd"
   rw [aP ht2,r_onO]
   walk_at "rd"
   rw [I1.o t ht2,r_onMO]
   exact ⟨lkNo (by decide +kernel) (by decide +kernel),X,pp t,_,_,_,rfl,nt,eM,by rw [hsU,hsV]⟩
  rintro τ M2 ⟨rfl,rfl⟩
  refine ⟨fun τ M3=>M3=M2/\τ=sU x6 (some (.lst ((g t).map gD))) x10,?_,?_⟩
  ·rw [hsU,hsV]
   walk_at "rd"
   exact ⟨g t,rfl,CT.w,by have:=CT.n;omega⟩
  rintro τ M3 ⟨rfl,rfl⟩
  refine ⟨fun τ M4=>M4=M3/\∃ x10,τ=sU x6 (some (.lst ((g t).map gD))) x10,?_,?_⟩
  ·rw [hsU,hsV]
   walk_at "rd"
   rw [aL ht2,r_onO]
   walk_at "rd"
   have ll:=ls_of (I1.l t ht2)
   rw [ll,r_onO]
   refine ⟨fun _ τ M4=>M4=M3/\∃ x10,τ=sU x6 (some (.lst ((g t).map gD))) x10,⟨rfl,x10,by rw [hsU,hsV]⟩,fun _ _ _ h=>by rw [h.1];exact ll,?_,fun τ M4 h=>by rw [hsU,hsV] at h;exact h⟩
   rintro k d τ M4 hd ⟨rfl,y10,rfl⟩
   obtain ⟨x,hx,rfl⟩:=map_got hd
   rw [hsU,hsV]
   walk_at "rd"
   rw [cut_pre (CT.lk x (List.mem_of_getElem? hx)),cmpL_gs x,r_onO]
   exact ite2 (fun c=>nomatch c) fun _=>⟨_,rfl⟩
  rintro τ M4 ⟨rfl,y10,rfl⟩
  refine ⟨fun τ M5=>M5=M4/\∃ y6,τ=sU y6 (some (.lst ((g t).map gD))) y10,?_,?_⟩
  ·rw [hsU,hsV]
   walk_at "rd"
   rw [aD ht2,r_onO]
   walk_at "rd"
   have ld:=ls_of (I1.d t ht2)
   rw [(ls_ty ld).2,r_onO]
   have:=CT.dl
   refine ⟨by rw [List.length_map];omega,fun _ τ M5=>M5=M4/\∃ y6,τ=sU y6 (some (.lst ((g t).map gD))) y10,⟨rfl,x6,by rw [hsU,hsV]⟩,fun _ _ _ _=>trivial,?_,fun τ M5 h=>by rw [hsU,hsV] at h;exact h⟩
   rintro k d τ M5 hd ⟨rfl,y6,rfl⟩
   obtain ⟨hk,rfl⟩:=rng_get hd
   have hk':k<(de t).length:=by rw [List.length_map] at hk;omega
   obtain ⟨dd,hdd⟩:∃ dd,(de t)[k]? = some dd:=⟨_,List.getElem?_eq_getElem hk'⟩
   obtain ⟨od,i,ga,gb,hi,rr,hp⟩:=CT.h k dd hdd
   rw [hsU,hsV]
   walk_at "rd"
   rw [aP ht2,r_onO,aD ht2,r_onO]
   walk_at "rd"
   rw [ld,r_onO,Int.zero_add,show atI ((de t).map dD) (k:Int)=some (dD dd) from atI_nat (by rw [List.getElem?_map,hdd];rfl),r_onO]
   have:=CT.n
   refine ⟨X,pp t,tag t,tag (2+t),g t,dd,rfl,rfl,nt,eM,CT.w,by omega,od,fun g' i' _ _ _ _ r'=>?_⟩
   obtain ⟨rfl,rfl⟩:=Rp.done.r rr hp CT.w r'
   rw [<- eM,aK ht2,r_onO]
   walk_at "rd"
   rw [ls_of (I1.k t ht2),r_onO,show atI (psD (kn t)) ((k:Int)+2)=some (.int (i':Int)) from atI_nat (j:=k+2) (by unfold psD;rw [List.getElem?_map,hi];rfl),r_onO]
   walk_at "rd"
   exact ⟨_,rfl⟩
  rintro τ M5 ⟨rfl,y6,rfl⟩
  rw [hsU,hsV]
  walk_at "rd"
  rw [aP ht2,r_onO,r_onR,I1.o t ht2,r_onMO]
  refine ⟨lkNo (by decide +kernel) (by decide +kernel),X,pp t,_,_,_,rfl,nt,eM,?_⟩
  rw [cmpL_gs (g t),r_onO]
  exact ite2 (fun c=>nomatch c) fun _=>(hN _ _).mpr ⟨rfl,_,_,_,_,by rw [hsV]⟩
 rintro τ M7 _
 walk_at "rd"
 exact Dn.of (q _)
end
end My
namespace My
open PySem PySem.W PyProof.Rows
open L2 (dfA dfB dfS NoAttr)
abbrev kE (P:Params) (n:Str) (t:Nat) (v:Value):DictEntry:=⟨PyData.keyHash P n,.str n t,v⟩
abbrev fF (n:Str) (s:Stmt) (m:Value) (c:Nat):FuncData:=fnOf n n (dfA s) (dfB s) (dfS s) .none .none .none m none (.ref c) .none
abbrev fO (n:Str) (s:Stmt) (m:Value) (c:Nat):Obj:=⟨.type "function",none,.func (fF n s m c),#[]⟩
abbrev fFm (n q:Str) (s:Stmt) (m:Value) (c:Nat):FuncData:=fnOf n q (dfA s) (dfB s) (dfS s) .none .none .none m none (.ref c) .none
abbrev fOm (n q:Str) (s:Stmt) (m:Value) (c:Nat):Obj:=⟨.type "function",none,.func (fFm n q s m c),#[]⟩
abbrev cO (n:Str) (t l a f:Nat) (x y z u v r:Value) (i j:Nat):Obj:=⟨.type "code",none,.fields #[.str n t,.str n (t+1),.str "/claim/cut.py" (t+2),.int l 0,.int a 0,.int 0 0,.int 0 0,.int f 0,x,.bool true,.int 181 0,y,z,u,v,r,.int i 0,.int l 0,.str "/claim/cut.py" j],#[]⟩
abbrev mo0:Value:=.str "beatwright.gates" 187
abbrev mo1:Value:=.str "law_beatwright_k56_rows_well_made" 265
noncomputable def hK (P:Params):Frag:=[(3,⟨(.type "dict"),none,.dict #[kE P "__name__" 165 (.str "law_beatwright_k56_rows_well_made" 265),kE P "__doc__" 166 .none,kE P "__package__" 167 .none,kE P "__loader__" 168 (.builtin "__main__.__loader__#opaque"),kE P "__spec__" 169 .none,kE P "__annotations__" 170 (.ref 6),kE P "__builtins__" 171 (.ref 4),kE P "__file__" 173 (.str "/claim/cut.py" 172),kE P "__cached__" 174 .none,kE P "Net" 264 (.ref 66),kE P "_law_mix" 275 (.ref 77),kE P "_law_deed" 285 (.ref 84),kE P "_law_done" 293 (.ref 91),kE P "_law_well" 302 (.ref 98),kE P "law" 319 (.ref 105)] 15,#[]⟩),
 (27,⟨(.type "code"),none,.fields #[(.str "__init__" 201),(.str "Net.__init__" 202),(.str "/claim/cut.py" 203),(.int (4) 0),(.int (1) 0),(.int (0) 0),(.int (0) 0),(.int (3) 0),(.ref 22),(.bool true),(.int (181) 0),(.ref 23),.none,(.ref 24),(.ref 25),(.ref 26),(.int (205) 0),(.int (4) 0),(.str "/claim/cut.py" 206)],#[]⟩),
 (28,fOm "__init__" "Net.__init__" s_Net___init__ mo0 27),
 (34,⟨(.type "code"),none,.fields #[(.str "placed" 208),(.str "Net.placed" 209),(.str "/claim/cut.py" 210),(.int (10) 0),(.int (2) 0),(.int (0) 0),(.int (0) 0),(.int (3) 0),(.ref 29),(.bool true),(.int (181) 0),(.ref 30),.none,(.ref 31),(.ref 32),(.ref 33),(.int (213) 0),(.int (10) 0),(.str "/claim/cut.py" 214)],#[]⟩),
 (35,fOm "placed" "Net.placed" s_Net_placed mo0 34),
 (41,⟨(.type "code"),none,.fields #[(.str "asked" 216),(.str "Net.asked" 217),(.str "/claim/cut.py" 218),(.int (16) 0),(.int (4) 0),(.int (0) 0),(.int (0) 0),(.int (3) 0),(.ref 36),(.bool true),(.int (181) 0),(.ref 37),.none,(.ref 38),(.ref 39),(.ref 40),(.int (223) 0),(.int (16) 0),(.str "/claim/cut.py" 224)],#[]⟩),
 (42,fOm "asked" "Net.asked" s_Net_asked mo0 41),
 (48,⟨(.type "code"),none,.fields #[(.str "both" 226),(.str "Net.both" 227),(.str "/claim/cut.py" 228),(.int (19) 0),(.int (3) 0),(.int (0) 0),(.int (0) 0),(.int (3) 0),(.ref 43),(.bool true),(.int (181) 0),(.ref 44),.none,(.ref 45),(.ref 46),(.ref 47),(.int (234) 0),(.int (19) 0),(.str "/claim/cut.py" 235)],#[]⟩),
 (49,fOm "both" "Net.both" s_Net_both mo0 48),
 (55,⟨(.type "code"),none,.fields #[(.str "differ" 237),(.str "Net.differ" 238),(.str "/claim/cut.py" 239),(.int (28) 0),(.int (3) 0),(.int (0) 0),(.int (0) 0),(.int (3) 0),(.ref 50),(.bool true),(.int (181) 0),(.ref 51),.none,(.ref 52),(.ref 53),(.ref 54),(.int (245) 0),(.int (28) 0),(.str "/claim/cut.py" 246)],#[]⟩),
 (56,fOm "differ" "Net.differ" s_Net_differ mo0 55),
 (62,⟨(.type "code"),none,.fields #[(.str "told" 248),(.str "Net.told" 249),(.str "/claim/cut.py" 250),(.int (37) 0),(.int (1) 0),(.int (0) 0),(.int (0) 0),(.int (3) 0),(.ref 57),(.bool true),(.int (181) 0),(.ref 58),.none,(.ref 59),(.ref 60),(.ref 61),(.int (252) 0),(.int (37) 0),(.str "/claim/cut.py" 253)],#[]⟩),
 (63,fOm "told" "Net.told" s_Net_told mo0 62),
 (65,⟨(.type "dict"),none,.dict #[kE P "__module__" 196 (.str "beatwright.gates" 187),kE P "__firstlineno__" 200 (.int (2) 199),kE P "__init__" 207 (.ref 28),kE P "placed" 215 (.ref 35),kE P "asked" 225 (.ref 42),kE P "both" 236 (.ref 49),kE P "differ" 247 (.ref 56),kE P "told" 254 (.ref 63),kE P "__static_attributes__" 257 (.ref 64),kE P "__dict__" 259 (.ref 67),kE P "__weakref__" 261 (.ref 68),kE P "__doc__" 262 .none] 4,#[]⟩),
 (66,⟨(.type "type"),none,.cls { name:="Net",bases:=[(.type "object")],mro:=[(.ref 66),(.type "object")],ns:=65,qualname:="Net",hasDict:=true,slotNames:=[],subclasses:=[],abstract:=false,collection:=none,hasDel:=false },#[none,none,some (.str "Net" 189),some (.str "Net" 197),some (.builtin "object.__new__"),some (.bool true)]⟩),
 (76,cO "_law_mix" 267 40 2 3 (.ref 71) (.ref 72) .none (.ref 73) (.ref 74) (.ref 75) 273 274),
 (77,fO "_law_mix" s__law_mix mo1 76),
 (83,cO "_law_deed" 276 43 2 3 (.ref 78) (.ref 79) .none (.ref 80) (.ref 81) (.ref 82) 283 284),
 (84,fO "_law_deed" s__law_deed mo1 83),
 (90,cO "_law_done" 286 49 2 3 (.ref 85) (.ref 86) .none (.ref 87) (.ref 88) (.ref 89) 291 292),
 (91,fO "_law_done" s__law_done mo1 90),
 (97,cO "_law_well" 294 55 1 3 (.ref 92) (.ref 93) .none (.ref 94) (.ref 95) (.ref 96) 300 301),
 (98,fO "_law_well" s__law_well mo1 97),
 (104,cO "law" 303 67 1 3 (.ref 99) (.ref 100) .none (.ref 101) (.ref 102) (.ref 103) 317 318),
 (105,fO "law" s_law mo1 104)]
noncomputable def has:List Addr:=[3,27,28,34,35,41,42,48,49,55,56,62,63,65,66,76,77,83,84,90,91,97,98,104,105]
def hq:Program:=view PySem.Challenge.pw_beatwright_k56_rows_well_made [7]
noncomputable def hloose:List Str:="Net"::"_law_mix"::"_law_deed"::"_law_done"::"_law_well"::[]
def hXt (q:Program) (s:Shared):Bool:=xlAt q [] s && recOk [] s
noncomputable def hrun (H₀:Params->Heap) (p q:Program) (w:World) (os:OsState):=SH.whole (H₀ w.params) p q hloose (hXt q) (fun s=>has.map s.heap.get?) 11 (some (.ref 6)) 593 w os
noncomputable def hgood (K:Params->Frag) (q:Program) (w:World):=some (true,openGood q hloose,(K w.params).map fun p=>some p.2)
theorem hrun_self:hrun=hrun:=rfl
theorem hgood_self:hgood=hgood:=rfl
lay_quick My.hrun My.hgood
name_quick hrunQ for My.hrun by My.hrun_self
name_quick hgoodQ for My.hgood by My.hgood_self
theorem hrunQ_good (w:World):(fun os=>PySem.W.Fast.hrunQ boot_heap PySem.Challenge.pw_beatwright_k56_rows_well_made hq w os)=fun _=>PySem.W.Fast.hgoodQ hK hq w:=by kernel_rfl
noncomputable def hYf (s:Shared):List (Option Obj):=has.map s.heap.get?
noncomputable def hYa (w:World):List (Option Obj):=(hK w.params).map fun p=>some p.2
theorem ws_self:OpenLaw.wellSaid=OpenLaw.wellSaid:=rfl
lay_quick PySem.W.OpenLaw.wellSaid
name_quick wsQ for PySem.W.OpenLaw.wellSaid by My.ws_self
theorem hsaid:PySem.W.Fast.wsQ PySem.Challenge.rw_beatwright_k56_rows_well_made=true:=by kernel_rfl
theorem hleft:LeftO PySem.Challenge.pw_beatwright_k56_rows_well_made hq hloose (hXt hq) hYf hYa 1886:=SH.left_of (Yf:=hYf) (Ya:=hYa) (M:=593) (n₀:=11) (ann:=(some (.ref 6))) (by kernel_rfl) (by decide) (fun s=>by kernel_rfl) (fun P=>by kernel_rfl) (fun w=>by kernel_rfl) (by decide) fun w os=>(congrFun (congrFun (congrFun (congrFun (congrFun PySem.W.Fast.hrunQ_eq _) _) _) w) os).trans ((congrFun (hrunQ_good w) os).trans (congrFun (congrFun (congrFun PySem.W.Fast.hgoodQ_eq _) _) w).symm)
structure Hd (w:World) (n:Str) (s:Stmt) (f c:Nat) (m:Value):Prop where
 a:nsIn (hK w.params) mainGlobals n=some (some (.ref f))
 l:(hK w.params).lookup f=some (fO n s m c)
 c:codeIn (hK w.params) (.ref c) n=true
 k:keepIn (hK w.params) (.ref f)=true
structure Hm (w:World) (C:Addr) (n q:Str) (s:Stmt) (f c:Nat) (m:Value):Prop where
 a:findIn (hK w.params) (.ref C) n=some (some (.ref f))
 i:isFn (hK w.params) (.ref f)=true
 l:(hK w.params).lookup f=some (fOm n q s m c)
 c:codeIn (hK w.params) (.ref c) q=true
 k:keepIn (hK w.params) (.ref f)=true
theorem unC {α:Type}{us:List α}{n:Nat}(h:us.length=n+1):∃ a t,us=a::t/\t.length=n:=by
 cases us with
 | nil=>cases h
 | cons a t=>exact ⟨a,t,rfl,Nat.succ.inj h⟩
theorem lenU1 {fd:FuncData}{ps:List Str}{us:List Value}(hl:us.length=1) (h:∀ a0,bindArgs fd ⟨[a0],[]⟩=pure (ps.zip [a0])):bindArgs fd ⟨us,[]⟩=pure (ps.zip us):=by
 obtain ⟨a0,u0,rfl,l0⟩:=unC hl
 cases List.eq_nil_of_length_eq_zero l0
 exact h a0
theorem lenU2 {fd:FuncData}{ps:List Str}{us:List Value}(hl:us.length=2) (h:∀ a0 a1,bindArgs fd ⟨[a0,a1],[]⟩=pure (ps.zip [a0,a1])):bindArgs fd ⟨us,[]⟩=pure (ps.zip us):=by
 obtain ⟨a0,u0,rfl,l0⟩:=unC hl
 obtain ⟨a1,u1,rfl,l1⟩:=unC l0
 cases List.eq_nil_of_length_eq_zero l1
 exact h a0 a1
theorem lenU3 {fd:FuncData}{ps:List Str}{us:List Value}(hl:us.length=3) (h:∀ a0 a1 a2,bindArgs fd ⟨[a0,a1,a2],[]⟩=pure (ps.zip [a0,a1,a2])):bindArgs fd ⟨us,[]⟩=pure (ps.zip us):=by
 obtain ⟨a0,u0,rfl,l0⟩:=unC hl
 obtain ⟨a1,u1,rfl,l1⟩:=unC l0
 obtain ⟨a2,u2,rfl,l2⟩:=unC l1
 cases List.eq_nil_of_length_eq_zero l2
 exact h a0 a1 a2
theorem lenU4 {fd:FuncData}{ps:List Str}{us:List Value}(hl:us.length=4) (h:∀ a0 a1 a2 a3,bindArgs fd ⟨[a0,a1,a2,a3],[]⟩=pure (ps.zip [a0,a1,a2,a3])):bindArgs fd ⟨us,[]⟩=pure (ps.zip us):=by
 obtain ⟨a0,u0,rfl,l0⟩:=unC hl
 obtain ⟨a1,u1,rfl,l1⟩:=unC l0
 obtain ⟨a2,u2,rfl,l2⟩:=unC l1
 obtain ⟨a3,u3,rfl,l3⟩:=unC l2
 cases List.eq_nil_of_length_eq_zero l3
 exact h a0 a1 a2 a3
section
variable {w:World}{h:Heap}{mg:Str->Option Value}
noncomputable def hd {n:Str} {s:Stmt} {ps:List Str} (X:(hK w.params).In h) (G:h.Ns mainGlobals mg) (f c:Nat) (m:Value) (H:Hd w n s f c m:=by exact ⟨by kernel_rfl,by kernel_rfl,by kernel_rfl,by kernel_rfl⟩)
  (b:∀ (kV dc pm:Value) (an:Option Addr) (cd ct:Value) (us:List Value),us.length=ps.length->bindArgs (fnOf n n (dfA s) (dfB s) (dfS s) .none kV dc pm an cd ct) ⟨us,[]⟩=pure (ps.zip us):=by intro _ _ _ _ _ _ us h;first | exact lenU1 h (fun _=>rfl) | exact lenU2 h (fun _ _=>rfl) | exact lenU3 h (fun _ _ _=>rfl) | exact lenU4 h (fun _ _ _ _=>rfl)):DF (hK w.params) mg n s ps :=
 ⟨f,fF n s m c,L2.fun_mk (st:=s) H.l H.c H.k,(L2.fun_mk (st:=s) H.l H.c H.k).binds b,mg_of X G H.a⟩
noncomputable def hdm {n q:Str} {s:Stmt} {ps:List Str} {C:Addr} (f c:Nat) (m:Value) (H:Hm w C n q s f c m:=by exact ⟨by kernel_rfl,by kernel_rfl,by kernel_rfl,by kernel_rfl,by kernel_rfl⟩)
  (b:∀ (kV dc pm:Value) (an:Option Addr) (cd ct:Value) (us:List Value),us.length=ps.length->bindArgs (fnOf n q (dfA s) (dfB s) (dfS s) .none kV dc pm an cd ct) ⟨us,[]⟩=pure (ps.zip us):=by intro _ _ _ _ _ _ us h;first | exact lenU1 h (fun _=>rfl) | exact lenU2 h (fun _ _=>rfl) | exact lenU3 h (fun _ _ _=>rfl) | exact lenU4 h (fun _ _ _ _=>rfl)):DM (hK w.params) C n q s ps :=
 ⟨f,fFm n q s m c,L2.fun_mk (st:=s) H.l H.c H.k,(L2.fun_mk (st:=s) H.l H.c H.k).binds b,⟨H.a,H.i,H.k⟩⟩
theorem hs {n:Str}{v:Value}(X:(hK w.params).In h) (G:h.Ns mainGlobals mg) (e:nsIn (hK w.params) mainGlobals n=some (some v):=by kernel_rfl):mg n=some v:=mg_of X G e
theorem hn {n:Str}(X:(hK w.params).In h) (G:h.Ns mainGlobals mg) (e:nsIn (hK w.params) mainGlobals n=some none:=by kernel_rfl):mg n=none:=mg_none_of X G e
end
theorem all_mk {P:Program}{w:World}{h:Heap}{mg:Str->Option Value}{fa:Addr}(X:(hK w.params).In h) (G:h.Ns mainGlobals mg) (hfa:mg "law" = some (.ref fa)):∃ fd:FuncData,(∀ (s:Shared) (v:Value),BindsTo s fd ⟨[v],[]⟩ [("script",v)])/\∀ base:Heap,(hK w.params).In base->base.Ns mainGlobals mg->L2.FnOk P w (hK w.params) mg base L2.CX0 60 fa fd ["script"] (L3.lSp (hK w.params) L3.spLaw2):=by
 have e:=hfa.symm.trans (hs X G (v:=.ref 105))
 cases e
 let T:Tx (hK w.params) w mg:=⟨66,
  ⟨by kernel_rfl,by kernel_rfl,by kernel_rfl,by kernel_rfl⟩,
  hs X G,
  (show NoAttr _ _ _ by unfold NoAttr;kernel_rfl),
  (show NoAttr _ _ _ by unfold NoAttr;kernel_rfl),
  hdm 28 27 mo0,
  ⟨by kernel_rfl,by kernel_rfl,by kernel_rfl,by kernel_rfl⟩,
  hdm 35 34 mo0,
  hdm 42 41 mo0,
  hdm 49 48 mo0,
  hdm 56 55 mo0,
  hdm 63 62 mo0,
  hd X G 77 76 mo1,
  hd X G 84 83 mo1,
  hd X G 91 90 mo1,
  hd X G 98 97 mo1,
  hd X G 105 104 mo1,
  ⟨hn X G,hn X G,hn X G,hn X G,hn X G,hn X G,hn X G,hn X G,hn X G,hn X G,hn X G,hn X G,hn X G,hn X G,hn X G,hn X G,hn X G,hn X G⟩⟩
 exact ⟨_,fun s v=>.of_eq rfl,fun base _ _=>ok_law T⟩
end My
open PySem PySem.W PyProof.Rows
set_option maxRecDepth 100000 in
set_option maxHeartbeats 0 in
theorem PySem.Challenge.cw_beatwright_k56_rows_well_made_holds : PySem.Challenge.rw_beatwright_k56_rows_well_made.Holds := by
 refine holds_law ((congrFun PySem.W.Fast.wsQ_eq _).trans My.hsaid) fun said=>?_
 refine PySem.W.holds_open (q:=My.hq) (loose:=My.hloose) (Xt:=My.hXt My.hq) (XP:=XL My.hq []) (Yf:=My.hYf) (Ya:=My.hYa) (YP:=InK My.hK) (N:=1886) My.hleft (InK.of fun _=>rfl) InK.keeps (fun s e=>xl_of s (Bool.and_eq_true_iff.mp e).1) XL.keeps (by rfl) (by rfl) (by rfl) (fun s e=>recFacts_of (Bool.and_eq_true_iff.mp e).2) (by rfl) (by first | assumption | decide +kernel) (by decide +kernel) ⟨rfl,rfl,rfl,rfl,rfl,by decide +kernel⟩ ?hw ?hc
 case hw=>w_witness2
 refine L3.walk2 (l:=PySem.Challenge.rw_beatwright_k56_rows_well_made) (k:=60) rfl rfl ⟨rfl,by decide,by decide⟩ (fun w h Y=>Y) ?F
 intro w mg fa h KX G hmg
 exact My.all_mk KX G hmg
#print axioms PySem.Challenge.cw_beatwright_k56_rows_well_made_holds
