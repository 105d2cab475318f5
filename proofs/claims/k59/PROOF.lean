import PyProof.Rows.All
import Wide.All
import OpenK.AllK
import Wide.FinOn
import Lean
import PyProof.EqAt
import PyProof.EqKinds
import PyProof.TupleCall
import PySem.Challenge.RW_holebook_k59_alive_by_ranks
set_option linter.all false
set_option Elab.async false
set_option maxRecDepth 100000
set_option maxHeartbeats 4000000
noncomputable section
namespace L2
open PySem PySem.Spec PyProof.Rows
abbrev Key:=Sum Int Str
def l9:Key->Value->Bool
 | .inl k,v=>Value.isInt k v
 | .inr x,v=>Value.isStrOf x v
def keyH (w:World):Key->Int
 | .inl k=>hashInt k
 | .inr x=>hashStr w x
theorem Br:∀{k:Key}{v:Value},l9 k v=true->(∃ i t,k=Sum.inl i/\v=Value.int i t)\/(∃ x t,k=Sum.inr x/\v=Value.str x t)
 | .inl i,v,h=>by
   obtain⟨t,e⟩:=Value.isInt_shape (k:=i) (v:=v) h
   exact .inl ⟨i,t,rfl,e⟩
 | .inr x,v,h=>by
   obtain⟨t,e⟩:=Value.isStrOf_shape (x:=x) (v:=v) h
   exact .inr ⟨x,t,rfl,e⟩
theorem Ah3 (i:Int) (t:Tok):l9 (.inl i) (.int i t)=true:=by simp [l9,Value.isInt]
theorem Ah2 (x:Str) (t:Tok):l9 (.inr x) (.str x t)=true:=by simp [l9,Value.isStrOf]
theorem Bb8 (a b:Int):decide ((Sum.inl a:Key)=Sum.inl b)=(a==b):=by
 by_cases e:a=b
 . subst e;simp
 . have h:¬(Sum.inl a:Key)=Sum.inl b:=fun q=>e (Sum.inl.inj q)
   rw [decide_eq_false h]
   exact (beq_eq_false_iff_ne.mpr e).symm
theorem Bb5 (a b:Str):decide ((Sum.inr a:Key)=Sum.inr b)=decide (a=b):=by
 by_cases e:a=b
 . subst e;simp
 . have h:¬(Sum.inr a:Key)=Sum.inr b:=fun q=>e (Sum.inr.inj q)
   rw [decide_eq_false h,decide_eq_false e]
theorem Bb7 (a:Int) (b:Str):decide ((Sum.inl a:Key)=Sum.inr b)=false:=decide_eq_false (fun q=>nomatch q)
theorem Bb6 (a:Str) (b:Int):decide ((Sum.inr a:Key)=Sum.inl b)=false:=decide_eq_false (fun q=>nomatch q)
def mixKind (prog:Program) (w:World):PySem.KeyKind prog w Key where
 is:=l9
 hash:=keyH w
 inj:=fun v a b ha hb=>by
  rcases Br ha with ⟨i,t,rfl,rfl⟩|⟨x,t,rfl,rfl⟩
  . rcases Br hb with ⟨j,u,rfl,e⟩|⟨y,u,rfl,e⟩
    . injection e with e1 _;rw [e1]
    . exact nomatch e
  . rcases Br hb with ⟨j,u,rfl,e⟩|⟨y,u,rfl,e⟩
    . exact nomatch e
    . injection e with e1 _;rw [e1]
 byValue:=fun k v h=>by
  rcases Br h with ⟨i,t,rfl,rfl⟩|⟨x,t,rfl,rfl⟩<;>rfl
 pyHash:=fun hv h=>by
  rcases Br hv with ⟨i,t,rfl,rfl⟩|⟨x,t,rfl,rfl⟩
  . exact wpAny_pyHash_int h
  . exact wpAny_pyHash_str h
 eqBool:=fun hu hv h=>by
  rcases Br hu with ⟨i,t,rfl,rfl⟩|⟨x,t,rfl,rfl⟩
  . rcases Br hv with ⟨j,u,rfl,rfl⟩|⟨y,u,rfl,rfl⟩
    . rw [Bb8] at h;exact wpAny_eqBool_int h
    . rw [Bb7] at h;exact SeqAt.EqAt.int_str i t y u _ _ _ _ h
  . rcases Br hv with ⟨j,u,rfl,rfl⟩|⟨y,u,rfl,rfl⟩
    . rw [Bb6] at h;exact SeqAt.EqAt.str_int x t j u _ _ _ _ h
    . rw [Bb5] at h;exact wpAny_eqBool_str h
 «strs»:=fun k x t v h=>by
  rcases Br h with ⟨i,u,rfl,e⟩|⟨y,u,rfl,e⟩
  . exact nomatch e
  . injection e with e1 _
    subst e1
    cases v<;>rfl
theorem X6 (prog:Program) (w:World) (i:Int) (t:Tok):(mixKind prog w).is (.inl i) (.int i t)=true:=Ah3 i t
theorem X5 (prog:Program) (w:World) (x:Str) (t:Tok):(mixKind prog w).is (.inr x) (.str x t)=true:=Ah2 x t
end L2
namespace L2
open PySem PySem.Spec PyProof.Rows
inductive V where
 | non | bl (b:Bool) | int (i:Int) | str (x:Str) | byt (b:Array UInt8) | flt (b:UInt64) | ref (a:Addr) | ty (n:String)
 deriving DecidableEq
def RelV:V->Value->Prop
 | .non,u=>u=Value.none
 | .bl b,u=>u=Value.bool b
 | .int i,u=>∃ t,u=Value.int i t
 | .str x,u=>∃ t,u=Value.str x t
 | .byt b,u=>∃ t,u=Value.bytes b t
 | .flt b,u=>∃ t,u=Value.float b t
 | .ref a,u=>u=Value.ref a
 | .ty n,u=>u=Value.type n
abbrev Vals:List V->List Value->Prop:=Paired RelV
theorem Vals.length {xs:List V}{us:List Value} (r:Vals xs us):xs.length=us.length:=Paired.length r
theorem Vals.get:∀{xs:List V}{us:List Value}{i:Nat}{x:V},Vals xs us->xs[i]?=some x->∃ u,us[i]?=some u/\RelV x u
 | _,_,_,_,.nil,e=>by simp at e
 | _,_,0,_,.cons r _,e=>by simp at e;subst e;exact ⟨_,rfl,r⟩
 | _,_,i+1,x,.cons _ t,e=>by
   obtain⟨u,h1,h2⟩:=Vals.get (i:=i) (x:=x) t (by simpa using e)
   exact ⟨u,by simpa using h1,h2⟩
theorem Vals.set {x:V}{u:Value} (r:RelV x u):∀{xs:List V}{us:List Value} (i:Nat),Vals xs us->Vals (xs.set i x) (us.set i u)
 | _,_,_,.nil=>.nil
 | _,_,0,.cons _ t=>.cons r t
 | _,_,i+1,.cons q t=>.cons q (Vals.set r i t)
theorem Vals.append:∀{xs ys:List V}{us ws:List Value},Vals xs us->Vals ys ws->Vals (xs++ys) (us++ws)
 | _,_,_,_,.nil,s=>s
 | _,_,_,_,.cons r t,s=>.cons r (Vals.append t s)
theorem Vals.take:∀{xs:List V}{us:List Value} (n:Nat),Vals xs us->Vals (xs.take n) (us.take n)
 | _,_,0,_=>.nil
 | _,_,_+1,.nil=>.nil
 | _,_,n+1,.cons r t=>.cons r (Vals.take n t)
theorem Vals.drop:∀{xs:List V}{us:List Value} (n:Nat),Vals xs us->Vals (xs.drop n) (us.drop n)
 | _,_,0,r=>r
 | _,_,_+1,.nil=>.nil
 | _,_,n+1,.cons _ t=>Vals.drop n t
def RelO:Option V->Option Value->Prop
 | some v,some u=>RelV v u
 | none,none=>True
 | _,_=>False
def KV {κ:Type}:List (κ × V)->List (κ × Value)->Prop:=Paired fun (p:κ × V) (q:κ × Value)=>p.1=q.1/\RelV p.2 q.2
def kV:Key->V
 | .inl i=>.int i
 | .inr x=>.str x
inductive HO where
 | lst (xs:List V)
 | tup (xs:List V)
 | dK (kvs:List (Key × V)) | dT (kvs:List (List Key × V))
 | set (S:Int->Bool) (n:Nat)
 | ins (C dx:Addr) (fs:List (Str × V))
 | own (x:Addr)
 | xd (fs:List (Str × V))
 | met (f x:Addr)
 | rng (lo hi:Int)
 | frz (o:Obj) (u:HO)
 | tbl (ps:Array Value)
 | ext (φ:Heap->Prop)
abbrev Hp:=Addr->Option HO
def upd (H:Hp) (a:Addr) (o:HO):Hp:=fun b=>if b=a then some o else H b
theorem Ad {H:Hp}{a:Addr}{o:HO}:upd H a o a=some o:=by unfold upd;rw [if_pos rfl]
theorem Ah {H:Hp}{a b:Addr}{o:HO} (h:b≠a):upd H a o b=H b:=by unfold upd;rw [if_neg h]
theorem Fw {H:Hp}{a b:Addr}{o u:HO} (h:H a=some o) (h':H b=some u) (d:o≠u):a≠b:=by
 intro e;subst e;rw [h] at h';exact d (Option.some.inj h')
theorem Ap {H:Hp}{a b:Addr}{o:HO} (h:H a=some o) (h':H b=none):a≠b:=by
 intro e;subst e;rw [h] at h';cases h'
def Jr (h:Heap) (a:Addr) (items:Array Value):Prop:=∃ o,h.get? a=some o/\o.cls=.type "tuple"/\o.dict=none/\∃ n,o.data=.seq items n
theorem Jr.tup {h:Heap}{a:Addr}{items:Array Value} (x:Jr h a items):IsTup h a items:=let ⟨o,e,c,_,d⟩:=x;⟨o,e,c,d⟩
theorem Jr.lt {h:Heap}{a:Addr}{items:Array Value} (x:Jr h a items):a<h.objs.size:=x.tup.lt
theorem Jr.new (h:Heap) (items:Array Value):Jr (h.push { cls:=.type "tuple",data:=.seq items }) h.objs.size items:=⟨_,Heap.get?_push_size _ rfl,rfl,rfl,_,rfl⟩
section
variable (P:Program) (w:World)
def ObjOk (H:Hp) (h:Heap) (a:Addr):HO->Prop
 | .lst xs=>xs.length<=sizeLine/\∃ (its:List Value) (n:Nat),Vals xs its/\h.get? a=some { cls:=.type "list",data:=.seq its.toArray n }
 | .tup xs=>xs.length<=sizeLine/\∃ its:List Value,Vals xs its/\Jr h a its.toArray
 | .dK kvs=>kvs.length<=sizeLine/\(a==sysModules)=false/\∃ vs,KV kvs vs/\h.DictOf (mixKind P w) a vs
 | .dT kvs=>kvs.length<=sizeLine/\(a==sysModules)=false/\∃ xs:List (List Key × Addr × Value),
    Paired (fun (p:List Key × V) (q:List Key × Addr × Value)=>p.1=q.1/\H q.2.1=some (.tup (p.1.map kV))/\RelV p.2 q.2.2) kvs xs ∧
    ∃ o es ep,h.get? a=some o/\o.ExactDict/\o.data=.dict es ep/\es.toList=xs.map (entryOfKey (tupleKind (mixKind P w)))/\(xs.map (·.1)).Nodup
 | .set S n=>h.SetOf (intKind P w) a S n
 | .ins C dx fs=>H dx=some (.own a)/\fs.length<=1000/\dx≠a/\h.get? a=some (PySem.W.instObj C dx) ∧
    ∃ mA,h.Ns1 dx mA/\(∀ f,RelO (fs.lookup f) (mA f))/\PySem.Within mA (fs.map (·.1))
 | .own _=>∃ o,h.get? a=some o
 | .xd fs=>∃ mA,h.Ns1 a mA/\∀ f,RelO (fs.lookup f) (mA f)
 | .rng lo hi=>∃ t u v,h.get? a=some { cls:=.type "range",data:=.fields #[.int lo t,.int hi u,.int 1 v] }
 | .frz o u=>h.get? a=some o/\ObjOk H h a u
 | .tbl ps=>h.get? a=some { cls:=.none,data:=.fields ps }
 | .met f x=>h.get? a=some (PySem.W.methodObj (.ref f) (.ref x))
 | .ext φ=>φ h/\(∃ o,h.get? a=some o)/\∀ h1 h2:Heap,φ h1->(∀ o,h1.get? a=some o->h2.get? a=some o)->φ h2
def HOk (H:Hp) (h:Heap):Prop:=∀ a o,H a=some o->ObjOk P w H h a o
end
section
variable {P:Program}{w:World}{H H':Hp}{h h':Heap}{a:Addr}{o:HO}
theorem ObjOk.lt (x:ObjOk P w H h a o):a<h.objs.size:=by
 cases o with
 | lst xs=>obtain⟨_,_,_,_,e⟩:=x;exact Heap.lt_size e
 | tup xs=>obtain⟨_,_,_,p⟩:=x;exact p.lt
 | dK kvs=>obtain⟨_,_,_,_,o,_,_,e,_⟩:=x;exact Heap.lt_size e
 | dT kvs=>obtain⟨_,_,_,_,o,_,_,e,_⟩:=x;exact Heap.lt_size e
 | set S n=>obtain⟨o,_,_,_,e,_⟩:=x;exact Heap.lt_size e
 | ins C dx fs=>obtain⟨_,_,_,e,_⟩:=x;exact Heap.lt_size e
 | own y=>obtain⟨_,e⟩:=x;exact Heap.lt_size e
 | xd fs=>obtain⟨_,⟨_,_,_,e,_⟩,_⟩:=x;exact Heap.lt_size e
 | rng lo hi=>obtain⟨_,_,_,e⟩:=x;exact Heap.lt_size e
 | frz ob u=>obtain⟨e,_⟩:=x;exact Heap.lt_size e
 | tbl ps=>exact Heap.lt_size (show h.get? a=some _ from x)
 | met f y=>exact Heap.lt_size (show h.get? a=some _ from x)
 | ext φ=>obtain⟨_,⟨_,e⟩,_⟩:=x;exact Heap.lt_size e
theorem Paired.mapP {α β:Type}{F G:α->β->Prop}:∀{l₁:List α}{l₂:List β},Paired F l₁ l₂->(∀ a b,F a b->G a b)->Paired G l₁ l₂
 | _,_,.nil,_=>.nil
 | _,_,.cons r t,f=>.cons (f _ _ r) (Paired.mapP t f)
theorem ObjOk.stay (x:ObjOk P w H h a o) (k:∀ b u,(b=a\/H b=some (.own a))->h.get? b=some u->h'.get? b=some u)
 (ho:∀ b,H b=some (.own a)->H' b=some (.own a)) (ht:∀ b xs,H b=some (.tup xs)->H' b=some (.tup xs)):ObjOk P w H' h' a o:=by
 induction o with
 | lst xs=>obtain⟨z,its,n,r,e⟩:=x;exact ⟨z,its,n,r,k _ _ (.inl rfl) e⟩
 | tup xs=>obtain⟨z,its,r,ob,e,c⟩:=x;exact ⟨z,its,r,ob,k _ _ (.inl rfl) e,c⟩
 | dK kvs=>obtain⟨z,y,vs,r,ob,es,ep,e,c⟩:=x;exact ⟨z,y,vs,r,ob,es,ep,k _ _ (.inl rfl) e,c⟩
 | dT kvs =>
   obtain⟨z,y,xs,r,ob,es,ep,e,c⟩:=x
   exact ⟨z,y,xs,Paired.mapP r fun p q z=>⟨z.1,ht _ _ z.2.1,z.2.2⟩,ob,es,ep,k _ _ (.inl rfl) e,c⟩
 | set S n=>obtain⟨ob,es,ep,t,e,c⟩:=x;exact ⟨ob,es,ep,t,k _ _ (.inl rfl) e,c⟩
 | ins C dx fs =>
   obtain⟨d,z,ne,e,mA,⟨od,es,ep,e2,c⟩,r⟩:=x
   exact ⟨ho _ d,z,ne,k _ _ (.inl rfl) e,mA,⟨od,es,ep,k _ _ (.inr d) e2,c⟩,r⟩
 | own y=>obtain⟨ob,e⟩:=x;exact ⟨ob,k _ _ (.inl rfl) e⟩
 | xd fs=>obtain⟨mA,⟨od,es,ep,e,c⟩,r⟩:=x;exact ⟨mA,⟨od,es,ep,k _ _ (.inl rfl) e,c⟩,r⟩
 | rng lo hi=>obtain⟨t,u,v,e⟩:=x;exact ⟨t,u,v,k _ _ (.inl rfl) e⟩
 | frz ob u ih=>obtain⟨e,q⟩:=x;exact ⟨k _ _ (.inl rfl) e,ih q⟩
 | tbl ps =>
   have e:h.get? a=some { cls:=.none,data:=.fields ps }:=x
   show h'.get? a=some { cls:=.none,data:=.fields ps }
   exact k a _ (.inl rfl) e
 | met f y =>
   have e:h.get? a=some (PySem.W.methodObj (.ref f) (.ref y)):=x
   show h'.get? a=some (PySem.W.methodObj (.ref f) (.ref y))
   exact k a _ (.inl rfl) e
 | ext φ=>obtain⟨p,⟨o,e⟩,st⟩:=x;exact ⟨st _ _ p fun o q=>k _ _ (.inl rfl) q,⟨o,k _ _ (.inl rfl) e⟩,st⟩
theorem HOk.lt (x:HOk P w H h) (e:H a=some o):a<h.objs.size:=(x a o e).lt
theorem HOk.fresh (x:HOk P w H h) (e:h.objs.size<=a):H a=none:=by
 cases q:H a with
 | none=>rfl
 | some u=>exact absurd (Nat.lt_of_lt_of_le (x.lt q) e) (Nat.lt_irrefl _)
theorem HOk.kept (x:HOk P w H h) (k:∀ b u,h.get? b=some u->h'.get? b=some u):HOk P w H h':=fun a o e =>
 (x a o e).stay (fun b u _ q=>k b u q) (fun _ q=>q) fun _ _ q=>q
theorem HOk.laid (x:HOk P w H h) (k:∀ b u,h.get? b=some u->h'.get? b=some u) (hp:h.objs.size<=a) (new:ObjOk P w (upd H a o) h' a o):HOk P w (upd H a o) h':=fun b u e=>by
 have hn:=x.fresh hp
 by_cases hb:b=a
 . subst hb;rw [Ad] at e;cases e;exact new
 . rw [Ah hb] at e
   exact (x b u e).stay (fun c v _ q=>k c v q) (fun c q=>by rw [Ah (Ap q hn)];exact q) fun c xs q=>by rw [Ah (Ap q hn)];exact q
end
def Rd (H:Hp) (a:Addr) (u:HO):Prop:=H a=some u\/∃ o,H a=some (.frz o u)
theorem Rd.ok {P:Program}{w:World}{H:Hp}{h:Heap}{a:Addr}{u:HO} (r:Rd H a u) (x:HOk P w H h):ObjOk P w H h a u:=by
 rcases r with r|⟨o,r⟩
 . exact x a u r
 . obtain⟨_,q⟩:=x a _ r
   exact q
def Mut:Option HO->Prop
 | some (.lst _)=>True
 | some (.dK _)=>True
 | some (.dT _)=>True
 | some (.set _ _)=>True
 | some (.ins _ _ _)=>True
 | some (.ext _)=>True
 | _=>False
section
variable {P:Program}{w:World}{H:Hp}{h h':Heap}{x e:Addr}{o':HO}
theorem HOk.write (ok:HOk P w H h) (mu:Mut (H x)) (he:e=x\/H e=some (.own x)) (k:∀ b u,b≠e->h.get? b=some u->h'.get? b=some u) (heo:∃ u,h'.get? e=some u)
 (new:ObjOk P w (upd H x o') h' x o'):HOk P w (upd H x o') h':=fun b u q=>by
 have nown:∀ c y,H c=some (.own y)->c≠x:=fun c y r z=>by subst z;rw [r] at mu;exact mu
 have ntup:∀ c xs,H c=some (.tup xs)->c≠x:=fun c xs r z=>by subst z;rw [r] at mu;exact mu
 by_cases hb:b=x
 . subst hb;rw [Ad] at q;cases q;exact new
 . rw [Ah hb] at q
   by_cases hbe:b=e
   . have q':H b=some (.own x):=by
      rcases he with z | z
      . exact absurd (hbe.trans z) hb
      . rw [hbe];exact z
     rw [q] at q';cases q'
     obtain⟨v,hv⟩:=heo
     exact ⟨v,by rw [hbe];exact hv⟩
   . refine (ok b u q).stay (fun c v hc r=>k c v ?_ r) (fun c r=>by rw [Ah (nown c b r)];exact r) fun c xs r=>by rw [Ah (ntup c xs r)];exact r
     rcases hc with rfl | hc
     . exact hbe
     . rintro rfl
       rcases he with z | z
       . exact nown c b hc z
       . rw [hc] at z;cases z;exact hb rfl
end
structure Un (fs ex:List Addr) (H H':Hp) (h h':Heap):Prop where
 keep:∀ b o,h.get? b=some o->H b=none->b ∉ fs->b ∉ ex->h'.get? b=some o
 slot:∀ b o,h.get? b=some o->H b=none->b∈fs->b ∉ ex->∃ sl,h'.get? b=some { o with slots:=sl }
 free:∀ b o,h.get? b=some o->H b=none->b ∉ ex->H' b=none
 there:∀ b o,h.get? b=some o->b ∉ ex->∃ o',h'.get? b=some o'
 tups:∀ b xs,H b=some (.tup xs)->H' b=some (.tup xs)
 frzs:∀ b o u,H b=some (.frz o u)->H' b=some (.frz o u)
 tbls:∀ b ps,H b=some (.tbl ps)->∃ more,H' b=some (.tbl (ps++more))
section
variable {fs fs' ex ex':List Addr}{H H1 H2:Hp}{h h1 h2 h':Heap}{a x e:Addr}{o:HO}
theorem Un.any (u:Un fs ex H H1 h h1) {b:Addr}{ob:Obj} (q:h.get? b=some ob) (n:H b=none) (hx:b ∉ ex):∃ sl,h1.get? b=some { ob with slots:=sl }:=by
 by_cases hb:b∈fs
 . exact u.slot b ob q n hb hx
 . exact ⟨ob.slots,u.keep b ob q n hb hx⟩
theorem Un.kept (k:∀ b u,h.get? b=some u->h'.get? b=some u):Un fs ex H H h h' :=
 ⟨fun b ob q _ _ _=>k b ob q,fun b ob q _ _ _=>⟨ob.slots,k b ob q⟩,fun _ _ _ n _=>n,fun b ob q _=>⟨ob,k b ob q⟩,fun _ _ q=>q,fun _ _ _ q=>q,fun _ ps q=>⟨#[],by rw [q];simp⟩⟩
theorem Un.refl:Un fs ex H H h h:=Un.kept fun _ _ q=>q
theorem Un.laid (k:∀ b u,h.get? b=some u->h'.get? b=some u) (hp:h.objs.size<=a) (hn:H a=none):Un fs ex H (upd H a o) h h' where
 keep:=fun b u q _ _ _=>k b u q
 slot:=fun b u q _ _ _=>⟨u.slots,k b u q⟩
 free:=fun b u q n _=>by rw [Ah (Nat.ne_of_lt (Nat.lt_of_lt_of_le (Heap.lt_size q) hp))];exact n
 there:=fun b u q _=>⟨u,k b u q⟩
 tups:=fun b xs q=>by rw [Ah (Ap q hn)];exact q
 frzs:=fun b u xs q=>by rw [Ah (Ap q hn)];exact q
 tbls:=fun b ps q=>⟨#[],by rw [Ah (Ap q hn),q];simp⟩
theorem Un.write (mu:Mut (H x)) (he:e=x\/H e=some (.own x)) (k:∀ b u,b≠e->h.get? b=some u->h'.get? b=some u) (heo:∃ u,h'.get? e=some u):Un fs ex H (upd H x o) h h':=by
 have hx:∀ b,H b=none->b≠x:=fun b n z=>by subst z;rw [n] at mu;exact mu
 have hb:∀ b,H b=none->b≠e:=fun b n z=>by
  subst z
  rcases he with r | r
  . exact hx b n r
  . rw [n] at r;cases r
 have hm:∀ b u,H b=some u->¬Mut (some u)->b≠x:=fun b u q nm z=>by subst z;rw [q] at mu;exact nm mu
 refine⟨fun b u q n _ _=>k b u (hb b n) q,fun b u q n _ _=>⟨u.slots,k b u (hb b n) q⟩,fun b u q n _=>by rw [Ah (hx b n)];exact n,fun b u q _=>?_,
  fun b xs q=>by rw [Ah (hm b _ q fun z=>z)];exact q,fun b u xs q=>by rw [Ah (hm b _ q fun z=>z)];exact q,fun b ps q=>⟨#[],by rw [Ah (hm b _ q fun z=>z),q];simp⟩⟩
 by_cases hbe:b=e
 . subst hbe;exact heo
 . exact ⟨u,k b u hbe q⟩
end
def trk (h:Heap) (H:Hp):List Addr:=(List.range h.objs.size).filter fun a=>(H a).isSome
def hidT (h:Heap) (H:Hp):Heap:=PySem.W.hideAll h (trk h H)
theorem Ai6 (h:Heap) (H:Hp):(hidT h H).objs.size=h.objs.size:=PySem.W.hideAll_size _ _
theorem Au4 {h:Heap}{H:Hp}{b:Addr}{o:Obj} (e:h.get? b=some o) (n:H b=none):(hidT h H).get? b=some o :=
 PySem.W.hideAll_get _ e fun hm=>by
  have q:(H b).isSome=true:=(List.mem_filter.mp hm).2
  rw [n] at q;simp at q
theorem A23 {h:Heap}{H:Hp}{b:Addr}{o:Obj} (e:(hidT h H).get? b=some o):h.get? b=some o/\H b=none:=by
 have e':h.get? b=some o:=PySem.W.of_hideAll (trk h H) e
 refine⟨e',?_⟩
 cases q:H b with
 | none=>rfl
 | some x =>
   have hm:b∈trk h H:=List.mem_filter.mpr ⟨List.mem_range.mpr (Heap.lt_size e'),by simp [q]⟩
   have z:(hidT h H).get? b=none:=PySem.W.hideAll_none (trk h H) hm
   rw [z] at e;cases e
def A62 (g h:Heap) (L:Addr):List (Addr × Obj):=(List.range h.objs.size).filterMap fun a=>if a=L\/(g.get? a).isSome=true then none else (h.get? a).map fun o=>(a,o)
def rest (g h:Heap) (L d:Addr):List (Addr × Obj):=(A62 g h L).filter fun p=>decide (p.1≠d)
end L2
namespace L2
open PySem PySem.Spec PyProof.Rows
structure Mod (K:W.Frag) (mg:Str->Option Value) (base:Heap):Prop where
 kin:K.In base
 glob:base.Ns mainGlobals mg
 blt:∃ mb,base.Ns builtinsNs mb/\∀ x:Str,x≠"__name__"->mb x=bootBuiltins x
 nolimit:base.NoLimit
structure Cx where
 prog:Program
 w:World
 K:PySem.W.Frag
 mg:Str->Option Value
 base:Heap
 A:Around
 N:List Str
 s₀:Shared
 H₀:Hp
 env:Env
 outer:List Env
 stack:List Env
 ex:List Addr
 fn:Str->Bool
 calm:Bool
 pn:List (Addr × Obj)
 xe:Value->Shared->Prop
def frs (l:List Env):List Addr:=l.filterMap (·.frame)
abbrev Cx.fs (X:Cx):List Addr:=frs X.outer
def Vis (sc:Scope) (x:Str):Prop:=sc.names.lookup x=some .local\/sc.names.lookup x=some .cell\/sc.names.lookup x=some .free
def Loc (sc:Scope) (x:Str):Prop:=sc.names.lookup x=some .local\/sc.names.lookup x=some .cell
def Look (env:Env) (h:Heap) (m:Str->Option Value) (x:Str) (u:Value):Prop :=
 (env.kindOf x=some .local/\m x=some u)\/((env.kindOf x=some .cell\/env.kindOf x=some .free)/\∃ c,env.cells.lookup x=some c/\h.IsCell c (some u))
structure Cx.Ok (X:Cx):Prop where
 mod:Mod X.K X.mg X.base
 kind:X.env.scope.kind=.function
 glob:X.env.globals=mainGlobals
 blt:X.env.builtins=builtinsNs
 above:X.s₀.heap.objs.size<=X.env.locals
 inj:∀ x y c,X.env.cells.lookup x=some c->X.env.cells.lookup y=some c->x=y
 has:∀ x,(X.env.kindOf x=some .cell\/X.env.kindOf x=some .free)->∃ c,X.env.cells.lookup x=some c
 cab:∀ x c,X.fn x=true->X.env.cells.lookup x=some c->X.s₀.heap.objs.size<=c
 hd:X.calm=true->X.A.handled=none
 frames:X.A.frames=some X.stack
 stk:X.stack=X.outer\/(X.stack=X.env::X.outer/\X.env.frame=some X.env.locals)
 exf:∀ b∈X.ex,b≠X.env.locals/\∀ x c,X.env.cells.lookup x=some c->c≠b
 bs:∀ b o,X.base.get? b=some o->X.s₀.heap.get? b=some o/\X.H₀ b=none
 bsz:X.base.objs.size<=X.s₀.heap.objs.size
 noex:∀ b o,X.base.get? b=some o->b ∉ X.ex
 exfs:∀ b∈X.ex,b ∉ X.fs
 funs:X.s₀.heap.FunFrames X.base X.outer
 frf:∀ b∈X.fs,X.H₀ b=none
structure Inv (X:Cx) (Aa:List (Addr × Obj)) (σ:List (Option V)) (H:Hp) (s:Shared):Prop where
 ok:X.Ok
 os:s.os=X.s₀.os
 bare:AllBare s.gens
 base:Un X.fs X.ex X.H₀ H X.s₀.heap s.heap
 loc:∃ m,s.heap.Ns X.env.locals m/\∀ (i:Nat) (x:Str) (v:V),X.N[i]?=some x->σ[i]?=some (some v)->Vis X.env.scope x->∃ u,RelV v u/\Look X.env s.heap m x u
 cell:∀ x c,X.env.cells.lookup x=some c->∃ v,s.heap.IsCell c v
 free:H X.env.locals=none
 freeC:∀ x c,X.env.cells.lookup x=some c->H c=none
 pin:∀ p∈X.pn++Aa,s.heap.get? p.1=some p.2/\H p.1=none/\p.1≠X.env.locals/\p.1 ∉ X.fs/\∀ v,p.2.data≠.cell v
 hok:HOk X.prog X.w H s.heap
 len:σ.length=X.N.length
section
variable {X:Cx}{Aa:List (Addr × Obj)}{σ:List (Option V)}{H H':Hp}{s:Shared}{h':Heap}
theorem Cx.Ok.nofr (ok:X.Ok) {b:Addr}{o:Obj} (e:X.base.get? b=some o):b ∉ X.fs:=fun hb=>by
 have:=(ok.funs.mem hb).1
 rw [e] at this;cases this
theorem Inv.bs (I:Inv X Aa σ H s):∀ b o,X.base.get? b=some o->s.heap.get? b=some o/\H b=none:=fun b o e =>
 ⟨I.base.keep b o (I.ok.bs b o e).1 (I.ok.bs b o e).2 (I.ok.nofr e) (I.ok.noex b o e),I.base.free b o (I.ok.bs b o e).1 (I.ok.bs b o e).2 (I.ok.noex b o e)⟩
theorem Inv.bk (I:Inv X Aa σ H s):∀ b o,X.base.get? b=some o->s.heap.get? b=some o:=fun b o e=>(I.bs b o e).1
theorem Inv.mod (I:Inv X Aa σ H s):Mod X.K X.mg X.base:=I.ok.mod
theorem Inv.kIn (I:Inv X Aa σ H s):X.K.In s.heap:=I.ok.mod.kin.keeps I.bk
theorem Inv.lt (I:Inv X Aa σ H s):X.env.locals<s.heap.objs.size:=let ⟨_,hn,_⟩:=I.loc;hn.lt
theorem Inv.sz (I:Inv X Aa σ H s):X.s₀.heap.objs.size<=s.heap.objs.size:=Nat.le_trans I.ok.above (Nat.le_of_lt I.lt)
theorem Inv.nofs (I:Inv X Aa σ H s) {a:Addr} (h:s.heap.objs.size<=a):a ∉ X.fs:=fun hb=>by
 obtain⟨_,o,ho,_⟩:=I.ok.funs.mem hb
 exact absurd (Nat.lt_of_lt_of_le (Heap.lt_size ho) (Nat.le_trans I.sz h)) (Nat.lt_irrefl _)
theorem Inv.cne (I:Inv X Aa σ H s):∀ x c,X.env.cells.lookup x=some c->c≠X.env.locals:=fun x c e z=>by
 obtain⟨v,o,ho,hd⟩:=I.cell x c e
 obtain⟨m,⟨o',es,ep,ho',hd',_⟩,_⟩:=I.loc
 rw [z,ho'] at ho;cases ho;rw [hd'] at hd;cases hd
theorem Inv.funs (I:Inv X Aa σ H s):s.heap.FunFrames X.base X.outer:=by
 have all:∀ (l:List Env),(∀ b∈frs l,b∈X.fs)->X.s₀.heap.FunFrames X.base l->s.heap.FunFrames X.base l:=by
  intro l
  induction l with
  | nil=>intro _ _;trivial
  | cons env r ih =>
    intro hs hl
    obtain⟨hk,⟨L,o,hf,hn,ho,hd⟩,hr⟩:=hl
    have hL:L∈X.fs:=hs L (by unfold frs;rw [List.filterMap_cons,hf];exact List.mem_cons_self)
    obtain⟨sl,e⟩:=I.base.slot L o ho (I.ok.frf L hL) hL fun z=>I.ok.exfs L z hL
    exact ⟨hk,⟨L,_,hf,hn,e,hd⟩,ih (fun b hb=>hs b (by unfold frs;rw [List.filterMap_cons,hf];exact List.mem_cons_of_mem _ hb)) hr⟩
 exact all X.outer (fun _ hb=>hb) I.ok.funs
theorem Inv.stack (I:Inv X Aa σ H s):s.heap.FunFrames X.base X.stack:=by
 rcases I.ok.stk with e|⟨e,hf⟩
 . rw [e];exact I.funs
 . rw [e]
   obtain⟨m,hn,_⟩:=I.loc
   refine .cons (by rw [I.ok.kind];decide) hf hn ?_ I.funs
   exact Heap.get?_none_of_le (Nat.le_trans I.ok.bsz I.ok.above)
theorem Inv.stkSub (I:Inv X Aa σ H s):∀ b∈frs X.stack,b∈X.env.locals::X.fs:=fun b hb=>by
 rcases I.ok.stk with e|⟨e,hf⟩
 . rw [e] at hb;exact List.mem_cons_of_mem _ hb
 . rw [e] at hb
   unfold frs at hb
   rw [List.filterMap_cons,hf] at hb
   exact hb
theorem Inv.stkFree (I:Inv X Aa σ H s):∀ b∈frs X.stack,H b=none:=fun b hb=>by
 rcases List.mem_cons.mp (I.stkSub b hb) with e | hb
 . rw [e];exact I.free
 . obtain⟨_,o,ho,_⟩:=I.ok.funs.mem hb
   exact I.base.free b o ho (I.ok.frf b hb) fun z=>I.ok.exfs b z hb
theorem Inv.step {g':Array GenState}{t':Nat}{d':Drawn}{ch:List Addr} (I:Inv X Aa σ H s)
 (hch:∀ b∈ch,(b∈X.ex\/X.s₀.heap.objs.size<=b)/\b≠X.env.locals/\(∀ x c,X.env.cells.lookup x=some c->c≠b)/\∀ p∈X.pn++Aa,p.1≠b)
 (keep:∀ b o,b≠X.env.locals->b ∉ X.fs->b ∉ ch->s.heap.get? b=some o->H b=none->h'.get? b=some o)
 (slot:∀ b o,b≠X.env.locals->b∈X.fs->b ∉ ch->s.heap.get? b=some o->H b=none->∃ sl,h'.get? b=some { o with slots:=sl }) (free:∀ b o,b ∉ ch->s.heap.get? b=some o->H b=none->H' b=none)
 (there:∀ b o,b ∉ ch->s.heap.get? b=some o->∃ o',h'.get? b=some o')
 (tups:∀ b xs,H b=some (.tup xs)->H' b=some (.tup xs)) (frzs:∀ b o u,H b=some (.frz o u)->H' b=some (.frz o u)) (tbls:∀ b ps,H b=some (.tbl ps)->∃ more,H' b=some (.tbl (ps++more)))
 (ns:∀ m,s.heap.Ns X.env.locals m->h'.Ns X.env.locals m) (hok:HOk X.prog X.w H' h') (hg:AllBare g') :
 Inv X Aa σ H' { s with heap:=h',gens:=g',drawn:=d',toks:=t' }:=by
 have neL:∀ b o,X.s₀.heap.get? b=some o->b≠X.env.locals:=fun b o e=>Nat.ne_of_lt (Nat.lt_of_lt_of_le (Heap.lt_size e) I.ok.above)
 have neC:∀ b o,X.s₀.heap.get? b=some o->b ∉ X.ex->b ∉ ch:=fun b o e hx hb=>by
  rcases (hch b hb).1 with z | z
  . exact hx z
  . exact absurd (Nat.lt_of_lt_of_le (Heap.lt_size e) z) (Nat.lt_irrefl _)
 have cellK:∀ x c,X.env.cells.lookup x=some c->∀ v,s.heap.IsCell c v->h'.IsCell c v:=fun x c e v ⟨o,ho,hd⟩=>by
  have nch:c ∉ ch:=fun z=>(hch c z).2.2.1 x c e rfl
  by_cases hc:c∈X.fs
  . obtain⟨sl,q⟩:=slot c o (I.cne x c e) hc nch ho (I.freeC x c e)
    exact ⟨_,q,hd⟩
  . exact ⟨o,keep c o (I.cne x c e) hc nch ho (I.freeC x c e),hd⟩
 refine⟨I.ok,I.os,hg,⟨fun b o e n hb hx=>?_,fun b o e n hb hx=>?_,fun b o e n hx=>?_,fun b o e hx=>?_,fun b xs e=>tups b xs (I.base.tups b xs e),fun b o xs e=>frzs b o xs (I.base.frzs b o xs e),fun b ps e=>?_⟩,?_,fun x c e=>?_,?_,fun x c e=>?_,fun p hp=>?_,hok,I.len⟩
 . exact keep b o (neL b o e) hb (neC b o e hx) (I.base.keep b o e n hb hx) (I.base.free b o e n hx)
 . obtain⟨sl,e1⟩:=I.base.slot b o e n hb hx
   obtain⟨sl',e2⟩:=slot b _ (neL b o e) hb (neC b o e hx) e1 (I.base.free b o e n hx)
   exact ⟨sl',e2⟩
 . obtain⟨o',e1⟩:=I.base.there b o e hx
   exact free b o' (neC b o e hx) e1 (I.base.free b o e n hx)
 . obtain⟨o',e1⟩:=I.base.there b o e hx
   exact there b o' (neC b o e hx) e1
 . obtain⟨m1,e1⟩:=I.base.tbls b ps e
   obtain⟨m2,e2⟩:=tbls b _ e1
   exact ⟨m1++m2,by rw [e2,Array.append_assoc]⟩
 . obtain⟨m,hn,hl⟩:=I.loc
   refine⟨m,ns m hn,fun i x v e1 e2 e3=>?_⟩
   obtain⟨u,r,l⟩:=hl i x v e1 e2 e3
   refine⟨u,r,?_⟩
   rcases l with l|⟨k,c,e,z⟩
   . exact .inl l
   . exact .inr ⟨k,c,e,cellK x c e _ z⟩
 . obtain⟨v,z⟩:=I.cell x c e
   exact ⟨v,cellK x c e v z⟩
 . obtain⟨m,⟨o,_,_,ho,_⟩,_⟩:=I.loc
   exact free _ o (fun z=>(hch _ z).2.1 rfl) ho I.free
 . obtain⟨v,o,ho,hd⟩:=I.cell x c e
   exact free c o (fun z=>(hch c z).2.2.1 x c e rfl) ho (I.freeC x c e)
 . obtain⟨e,n,ne,nf,d⟩:=I.pin p hp
   have nch:p.1 ∉ ch:=fun z=>(hch p.1 z).2.2.2 p hp rfl
   exact ⟨keep p.1 p.2 ne nf nch e n,free p.1 p.2 nch e n,ne,nf,d⟩
theorem Inv.un {t':Nat} (I:Inv X Aa σ H s) (u:Un X.fs [] H H' s.heap h') (hok:HOk X.prog X.w H' h'):Inv X Aa σ H' { s with heap:=h',toks:=t' }:=by
 obtain⟨m,⟨o,es,ep,ho,r⟩,_⟩:=id I.loc
 obtain⟨sl,hL⟩:=u.any ho I.free (by simp)
 exact I.step (g':=s.gens) (d':=s.drawn) (ch:=[]) (fun _ z=>nomatch z) (fun b o _ hb _ e n=>u.keep b o e n hb (by simp)) (fun b o _ hb _ e n=>u.slot b o e n hb (by simp)) (fun b o _ e n=>u.free b o e n (by simp)) (fun b o _ e=>u.there b o e (by simp)) u.tups u.frzs u.tbls (fun m' hm=>by
  obtain⟨o',es',ep',ho',r'⟩:=hm
  rw [ho] at ho';cases ho'
  exact ⟨_,es',ep',hL,r'⟩) hok I.bare
theorem Inv.call {g':Array GenState}{t':Nat}{d':Drawn}{ch:List Addr} (I:Inv X Aa σ H s) (u:Un (frs X.stack) ch H H' s.heap h') (hok:HOk X.prog X.w H' h') (hg:AllBare g')
 (hch:∀ b∈ch,(b∈X.ex\/X.s₀.heap.objs.size<=b)/\b≠X.env.locals/\(∀ x c,X.env.cells.lookup x=some c->c≠b)/\∀ p∈X.pn++Aa,p.1≠b) :
 Inv X Aa σ H' { s with heap:=h',gens:=g',drawn:=d',toks:=t' }:=by
 obtain⟨m,⟨o,es,ep,ho,r⟩,_⟩:=id I.loc
 obtain⟨sl,hL⟩:=u.any ho I.free fun z=>(hch _ z).2.1 rfl
 exact I.step (ch:=ch) hch (fun b o hL hb hc e n=>u.keep b o e n (fun z=>(List.mem_cons.mp (I.stkSub b z)).elim hL hb) hc) (fun b o _ _ hc e n=>u.any e n hc) (fun b o hc e n=>u.free b o e n hc) (fun b o hc e=>u.there b o e hc) u.tups u.frzs u.tbls (fun m' hm=>by
  obtain⟨o',es',ep',ho',r'⟩:=hm
  rw [ho] at ho';cases ho'
  exact ⟨_,es',ep',hL,r'⟩) hok hg
theorem Inv.turned {t':Nat}{it:Addr} (I:Inv X Aa σ H s) (k:∀ b o,b≠it->s.heap.get? b=some o->h'.get? b=some o) (hn:H it=none) (hL:it≠X.env.locals)
 (h1:it∈X.ex\/X.s₀.heap.objs.size<=it) (h2:∀ x c,X.env.cells.lookup x=some c->c≠it) (h3:∀ p∈X.pn++Aa,p.1≠it):Inv X Aa σ H { s with heap:=h',toks:=t' }:=by
 have nit:∀ b u,H b=some u->b≠it:=fun b u e z=>by rw [z,hn] at e;cases e
 refine I.step (g':=s.gens) (d':=s.drawn) (ch:=[it]) (fun b hb=>?_) (fun b o _ _ hc e _=>k b o (fun z=>hc (by simp [z])) e) (fun b o _ _ hc e _=>⟨o.slots,k b o (fun z=>hc (by simp [z])) e⟩) (fun _ _ _ _ n=>n)
  (fun b o hc e=>⟨o,k b o (fun z=>hc (by simp [z])) e⟩) (fun _ _ e=>e) (fun _ _ _ e=>e) (fun b ps e=>⟨#[],by rw [e];simp⟩) (fun m hm=>?_) (fun b u e=>?_) I.bare
 . have e:b=it:=by simpa using hb
   subst e
   exact ⟨h1,hL,h2,h3⟩
 . obtain⟨o,es,ep,ho,r⟩:=hm
   exact ⟨o,es,ep,k _ o (Ne.symm hL) ho,r⟩
 . refine (I.hok b u e).stay (fun c v hc q=>k c v ?_ q) (fun _ q=>q) fun _ _ q=>q
   rcases hc with z | z
   . rw [z];exact nit b u e
   . exact nit c _ z
theorem Inv.tok (I:Inv X Aa σ H s) (t:Nat):Inv X Aa σ H { s with toks:=t }:=I.un (h':=s.heap) (t':=t) Un.refl I.hok
theorem Inv.kept {t':Nat} (I:Inv X Aa σ H s) (k:∀ b u,s.heap.get? b=some u->h'.get? b=some u):Inv X Aa σ H { s with heap:=h',toks:=t' }:=I.un (Un.kept k) (I.hok.kept k)
theorem Inv.laid {a:Addr}{o:HO}{t':Nat} (I:Inv X Aa σ H s) (k:∀ b u,s.heap.get? b=some u->h'.get? b=some u) (hp:s.heap.objs.size<=a) (new:ObjOk X.prog X.w (upd H a o) h' a o) :
 Inv X Aa σ (upd H a o) { s with heap:=h',toks:=t' }:=I.un (Un.laid k hp (I.hok.fresh hp)) (I.hok.laid k hp new)
theorem Inv.write {x e:Addr}{o:HO}{t':Nat} (I:Inv X Aa σ H s) (mu:Mut (H x)) (he:e=x\/H e=some (.own x)) (k:∀ b u,b≠e->s.heap.get? b=some u->h'.get? b=some u) (heo:∃ u,h'.get? e=some u)
 (new:ObjOk X.prog X.w (upd H x o) h' x o):Inv X Aa σ (upd H x o) { s with heap:=h',toks:=t' }:=I.un (Un.write mu he k heo) (I.hok.write mu he k heo new)
theorem Inv.pins_of {pins':List (Addr × Obj)} (I:Inv X Aa σ H s) (h:∀ p∈pins',s.heap.get? p.1=some p.2/\H p.1=none/\p.1≠X.env.locals/\p.1 ∉ X.fs/\∀ v,p.2.data≠.cell v):Inv X pins' σ H s :=
 ⟨I.ok,I.os,I.bare,I.base,I.loc,I.cell,I.free,I.freeC,fun p hp=>(List.mem_append.mp hp).elim (fun z=>I.pin p (List.mem_append_left _ z)) (h p),I.hok,I.len⟩
theorem Zi {N:List Str} (hN:N.Nodup) {i j:Nat}{x:Str} (a:N[i]?=some x) (b:N[j]?=some x):i=j:=by
 obtain⟨h1,e1⟩:=List.getElem?_eq_some_iff.mp a
 obtain⟨h2,e2⟩:=List.getElem?_eq_some_iff.mp b
 exact (List.getElem_inj hN).mp (e1.trans e2.symm)
theorem Nv {M:Model}{A:Around}{E:Value->Shared->Prop}{i:Nat}{x:Str}{v:V}{u:Value}{Q:Unit->Shared->Prop} (I:Inv X Aa σ H s) (hN:X.N.Nodup) (hi:X.N[i]?=some x) (hx:Loc X.env.scope x) (r:RelV v u)
 (h:∀ s',Inv X Aa (σ.set i (some v)) H s'->(∃ a,Heap.SameBut a s.heap s'.heap/\(a=X.env.locals\/X.env.cells.lookup x=some a))->Q () s') (hf:X.fn x=true\/X.env.scope.names.lookup x=some .local:=by first | exact .inl rfl | exact .inr rfl | assumption):wpAny M A (storeName X.env x u) Q E s:=by
 obtain⟨m,hn,hl⟩:=id I.loc
 have hcls:(X.env.scope.kind==.class || (X.env.scope.kind==.module&&X.env.locals != X.env.globals))=false:=by rw [I.ok.kind];rfl
 have hiσ:i<σ.length:=by rw [I.len];exact (List.getElem?_eq_some_iff.mp hi).1
 have cne:=I.cne
 have tracked:∀{a:Addr}{h':Heap},(∃ o,s.heap.get? a=some o/\H a=none)->Heap.SameBut a s.heap h'->HOk X.prog X.w H h':=fun {a h'} ha hs b ob e=>by
  obtain⟨_,_,hfree⟩:=ha
  refine (I.hok b ob e).stay (fun c w' hc q=>(hs.2 c ?_).trans q) (fun _ q=>q) fun _ _ q=>q
  rintro rfl
  rcases hc with rfl | hc
  . rw [hfree] at e;cases e
  . rw [hfree] at hc;cases hc
 rcases hx with hk | hk
 . refine wpAny_storeName_local hk hn (fun h' hn' hs=>?_) hcls
   obtain⟨oL,_,_,hoL,_⟩:=id hn
   refine h _ ⟨I.ok,I.os,I.bare,⟨fun b o e n hb hx=>?_,fun b o e n hb hx=>?_,I.base.free,fun b o e hx=>?_,I.base.tups,I.base.frzs,I.base.tbls⟩,⟨_,hn',fun j y v' e1 e2 e3=>?_⟩,fun y c e=>?_,I.free,I.freeC,fun p hp=>?_,tracked ⟨oL,hoL,I.free⟩ hs,by simpa using I.len⟩ ⟨_,hs,.inl rfl⟩
   . exact (hs.2 b (Nat.ne_of_lt (Nat.lt_of_lt_of_le (Heap.lt_size e) I.ok.above))).trans (I.base.keep b o e n hb hx)
   . obtain⟨sl,e1⟩:=I.base.slot b o e n hb hx
     exact ⟨sl,(hs.2 b (Nat.ne_of_lt (Nat.lt_of_lt_of_le (Heap.lt_size e) I.ok.above))).trans e1⟩
   . obtain⟨o',e1⟩:=I.base.there b o e hx
     exact ⟨o',(hs.2 b (Nat.ne_of_lt (Nat.lt_of_lt_of_le (Heap.lt_size e) I.ok.above))).trans e1⟩
   . by_cases hj:j=i
     . subst hj
       rw [hi] at e1;cases e1
       rw [List.getElem?_set_self hiσ] at e2
       cases e2
       exact ⟨u,r,.inl ⟨hk,by simp⟩⟩
     . rw [List.getElem?_set_ne (Ne.symm hj)] at e2
       obtain⟨u',r',q⟩:=hl j y v' e1 e2 e3
       refine⟨u',r',?_⟩
       rcases q with ⟨k,e⟩|⟨k,c,e,z⟩
       . refine .inl ⟨k,?_⟩
         have:y≠x:=fun e=>hj (Zi hN e1 (e▸hi))
         simp [this,e]
       . exact .inr ⟨k,c,e,z.sameBut hs (cne y c e)⟩
   . obtain⟨w',z⟩:=I.cell y c e
     exact ⟨w',z.sameBut hs (cne y c e)⟩
   . obtain⟨e,n,ne,nf,d⟩:=I.pin p hp
     exact ⟨(hs.2 p.1 ne).trans e,n,ne,nf,d⟩
 . have hfn:X.fn x=true:=by
    rcases hf with z | z
    . exact z
    . rw [z] at hk;cases hk
   obtain⟨c,hc⟩:=I.ok.has x (.inl hk)
   obtain⟨w',z⟩:=I.cell x c hc
   refine wpAny_storeName_cell I.ok.kind hk hc z (fun h' hc' hs=>?_)
   obtain⟨oc,hoc,hocd⟩:=id z
   refine h { s with heap:=h' } ⟨I.ok,I.os,I.bare,⟨fun b o e n hb hx=>?_,fun b o e n hb hx=>?_,I.base.free,fun b o e hx=>?_,I.base.tups,I.base.frzs,I.base.tbls⟩,⟨m,hn.sameBut hs (Ne.symm (cne x c hc)),fun j y v' e1 e2 e3=>?_⟩,fun y c' e=>?_,I.free,I.freeC,fun p hp=>?_,tracked ⟨oc,hoc,I.freeC x c hc⟩ hs,by simpa using I.len⟩ ⟨c,hs,.inr hc⟩
   . exact (hs.2 b (Nat.ne_of_lt (Nat.lt_of_lt_of_le (Heap.lt_size e) (I.ok.cab x c hfn hc)))).trans (I.base.keep b o e n hb hx)
   . obtain⟨sl,e1⟩:=I.base.slot b o e n hb hx
     exact ⟨sl,(hs.2 b (Nat.ne_of_lt (Nat.lt_of_lt_of_le (Heap.lt_size e) (I.ok.cab x c hfn hc)))).trans e1⟩
   . obtain⟨o',e1⟩:=I.base.there b o e hx
     exact ⟨o',(hs.2 b (Nat.ne_of_lt (Nat.lt_of_lt_of_le (Heap.lt_size e) (I.ok.cab x c hfn hc)))).trans e1⟩
   . by_cases hj:j=i
     . subst hj
       rw [hi] at e1;cases e1
       rw [List.getElem?_set_self hiσ] at e2
       cases e2
       exact ⟨u,r,.inr ⟨.inl hk,c,hc,hc'⟩⟩
     . rw [List.getElem?_set_ne (Ne.symm hj)] at e2
       obtain⟨u',r',q⟩:=hl j y v' e1 e2 e3
       refine⟨u',r',?_⟩
       rcases q with q|⟨k,c',e,z'⟩
       . exact .inl q
       . refine .inr ⟨k,c',e,z'.sameBut hs ?_⟩
         rintro rfl
         exact hj (Zi hN e1 (I.ok.inj _ _ _ e hc▸hi))
   . by_cases hcc:c'=c
     . subst hcc;exact ⟨_,hc'⟩
     . obtain⟨w2,z2⟩:=I.cell y c' e
       exact ⟨w2,z2.sameBut hs hcc⟩
   . obtain⟨e,n,ne,nf,d⟩:=I.pin p hp
     refine⟨(hs.2 p.1 ?_).trans e,n,ne,nf,d⟩
     intro q
     rw [q,hoc] at e
     have q':oc=p.2:=Option.some.inj e
     exact d w' (by rw [←q'];exact hocd)
theorem Sj {M:Model}{A:Around}{E:Value->Shared->Prop}{i:Nat}{x:Str}{v:V}{u:Value}{Q:Unit->Shared->Prop} (I:Inv X Aa σ H s) (hN:X.N.Nodup) (hi:X.N[i]?=some x) (hx:Loc X.env.scope x) (r:RelV v u)
 (h:∀ s',Inv X Aa (σ.set i (some v)) H s'->Q () s') (hf:X.fn x=true\/X.env.scope.names.lookup x=some .local:=by first | exact .inl rfl | exact .inr rfl | assumption):wpAny M A (storeName X.env x u) Q E s :=
 Nv I hN hi hx r (fun s' I' _=>h s' I') hf
theorem Inv.call' {s':Shared}{ch:List Addr} (I:Inv X Aa σ H s) (ho:s'.os=s.os) (u:Un (frs X.stack) ch H H' s.heap s'.heap) (hok:HOk X.prog X.w H' s'.heap) (hg:AllBare s'.gens)
 (hch:∀ b∈ch,(b∈X.ex\/X.s₀.heap.objs.size<=b)/\b≠X.env.locals/\(∀ x c,X.env.cells.lookup x=some c->c≠b)/\∀ p∈X.pn++Aa,p.1≠b):Inv X Aa σ H' s':=by
 obtain⟨h',g',d',t',o'⟩:=s'
 have e:o'=s.os:=ho
 subst e
 exact I.call (g':=g') (t':=t') (d':=d') u hok hg hch
end
abbrev XK:=Value->Option Addr->Hp->Prop
abbrev St:=List (Option V)
abbrev VK:=V->Hp->Prop
abbrev TE:=St->Hp->VK->Prop
abbrev TT:=St->Hp->(Bool->Hp->Prop)->Prop
abbrev TA:=St->Hp->(List V->Hp->Prop)->Prop
structure Ends where
 nx:St->Hp->Prop
 rt:VK
 bk:St->Hp->Prop:=fun _ _=>False
 ct:St->Hp->Prop:=fun _ _=>False
abbrev TS:=Ends->St->Hp->Prop
def EP (X:Cx) (Aa:List (Addr × Obj)) (σ:St) (Q:VK) (u:Value) (s':Shared):Prop:=∃ v H',Inv X Aa σ H' s'/\RelV v u/\Q v H'
def TP (X:Cx) (Aa:List (Addr × Obj)) (σ:St) (Q:Bool->Hp->Prop) (b:Bool) (s':Shared):Prop:=∃ H',Inv X Aa σ H' s'/\Q b H'
def AP (X:Cx) (Aa:List (Addr × Obj)) (σ:St) (Q:List V->Hp->Prop) (us:List Value) (s':Shared):Prop:=∃ vs H',Inv X Aa σ H' s'/\Vals vs us/\Q vs H'
def SP (X:Cx) (Aa:List (Addr × Obj)) (D:Ends) (f:Flow) (s':Shared):Prop :=
 match f with
 | .next=>∃ σ' H',Inv X Aa σ' H' s'/\D.nx σ' H'
 | .brk=>∃ σ' H',Inv X Aa σ' H' s'/\D.bk σ' H'
 | .cont=>∃ σ' H',Inv X Aa σ' H' s'/\D.ct σ' H'
 | .ret u=>∃ v σ' H',Inv X Aa σ' H' s'/\RelV v u/\D.rt v H'
def PE (X:Cx) (e:Expr) (t:TE):Prop :=
 ∀ (Aa:List (Addr × Obj)) (s:Shared) (σ:St) (H:Hp) (Q:VK),Inv X Aa σ H s->t σ H Q->wpAny (model X.prog X.w) X.A (eval e X.env) (EP X Aa σ Q) X.xe s
def PT (X:Cx) (e:Expr) (t:TT):Prop :=
 ∀ (Aa:List (Addr × Obj)) (s:Shared) (σ:St) (H:Hp) (Q:Bool->Hp->Prop),Inv X Aa σ H s->t σ H Q->wpAny (model X.prog X.w) X.A (isTrue e X.env (eval e X.env)) (TP X Aa σ Q) X.xe s
def PW (X:Cx) (e:Expr) (t:TT):Prop :=
 ∀ (whole:Sem Value) (Aa:List (Addr × Obj)) (s:Shared) (σ:St) (H:Hp) (Q:Bool->Hp->Prop),Inv X Aa σ H s->t σ H Q->wpAny (model X.prog X.w) X.A (isTrue e X.env whole) (TP X Aa σ Q) X.xe s
theorem PW.pt {X:Cx}{e:Expr}{t:TT} (h:PW X e t):PT X e t:=h _
def PA (X:Cx) (es:List Expr) (t:TA):Prop :=
 ∀ (pos:Pos) (Aa:List (Addr × Obj)) (s:Shared) (σ:St) (H:Hp) (Q:List V->Hp->Prop),Inv X Aa σ H s->t σ H Q->wpAny (model X.prog X.w) X.A (spliced (backTo pos (starEach es X.env))) (AP X Aa σ Q) X.xe s
def PS (X:Cx) (st:Stmt) (t:TS):Prop :=
 ∀ (Aa:List (Addr × Obj)) (s:Shared) (σ:St) (H:Hp) (D:Ends),Inv X Aa σ H s->t D σ H->wpAny (model X.prog X.w) X.A (exec st X.env) (SP X Aa D) X.xe s
def PSs (X:Cx) (st:List Stmt) (t:TS):Prop :=
 ∀ (Aa:List (Addr × Obj)) (s:Shared) (σ:St) (H:Hp) (D:Ends),Inv X Aa σ H s->t D σ H->wpAny (model X.prog X.w) X.A (execs st X.env) (SP X Aa D) X.xe s
theorem thn {α:Type}{t:Sem α}{Q Q':α->Shared->Prop}{M:Model}{A:Around}{E:Value->Shared->Prop}{s:Shared} (h:wpAny M A t Q E s) (hQ:∀ a s,Q a s->Q' a s):wpAny M A t Q' E s:=wpAny_mono h hQ fun _ _ x=>x
end L2
namespace L2
open PySem PySem.Spec PyProof.Rows
section
variable {X:Cx}
theorem bin {a b:Expr}{ta tb:TE} (ha:PE X a ta) (hb:PE X b tb) {Aa:List (Addr × Obj)}{s:Shared}{σ:St}{H:Hp}{R:V->V->Hp->Prop} (I:Inv X Aa σ H s) (h:ta σ H fun x H1=>tb σ H1 fun y H2=>R x y H2)
 {α:Type}{Q:α->Shared->Prop}{f:Value->Value->Sem α}
 (hf:∀ v u s2 x y H2,Inv X Aa σ H2 s2->RelV x v->RelV y u->R x y H2->wpAny (model X.prog X.w) X.A (f v u) Q X.xe s2) :
 wpAny (model X.prog X.w) X.A (eval a X.env) (fun v s₁=>wpAny (model X.prog X.w) X.A (eval b X.env) (fun u s₂=>wpAny (model X.prog X.w) X.A (f v u) Q X.xe s₂) X.xe s₁) X.xe s:=by
 refine thn (ha Aa s σ H _ I h) fun v s1 ⟨x,H1,I1,r1,q1⟩=>?_
 refine thn (hb Aa s1 σ H1 _ I1 q1) fun u s2 ⟨y,H2,I2,r2,q2⟩=>?_
 exact hf v u s2 x y H2 I2 r1 r2 q2
def tVar (i:Nat):TE:=fun σ H Q=>∃ v,σ[i]?=some (some v)/\Q v H
def tC (v:V):TE:=fun _ H Q=>Q v H
theorem A88 {i:Nat}{x:Str}{pos:Pos} (hN:X.N[i]?=some x) (hv:Vis X.env.scope x) (hd:(x==("__debug__":Str))=false:=by decide) (hcd:(x==("__classdict__":Str))=false:=by decide):PE X (.Name x pos) (tVar i):=by
 intro Aa s σ H Q I h
 obtain⟨v,e,h⟩:=h
 obtain⟨m,hn,hl⟩:=I.loc
 obtain⟨u,r,l⟩:=hl i x v hN e hv
 have fin:EP X Aa σ Q u s:=⟨v,H,I,r,h⟩
 rcases l with ⟨hk,hm⟩|⟨hk,c,hc,hcell⟩
 . exact wpAny_Name (wpAny_loadName_local I.ok.kind hk hn hm fin) hd
 . rcases hk with hk | hk
   . exact wpAny_Name (wpAny_loadName_cell I.ok.kind hk hc hcell fin) hd
   . exact wpAny_Name (wpAny_loadName_free I.ok.kind hk hc hcell fin hcd) hd
theorem Ai {i j pos}:PE X (.Constant (.int i) j pos) (tC (.int i)):=fun _ _ _ H _ I h=>wpAny_Constant_int ⟨.int i,H,I.tok _,⟨_,rfl⟩,h⟩
theorem J0 {b j pos}:PE X (.Constant (.bool b) j pos) (tC (.bl b)):=fun _ _ _ H _ I h=>Constant_bool ⟨.bl b,H,I,rfl,h⟩
theorem U7 {j pos}:PE X (.Constant .none j pos) (tC .non):=fun _ _ _ H _ I h=>Constant_none ⟨.non,H,I,rfl,h⟩
def Gl (X:Cx) (x:Str):Prop:=X.env.kindOf x=some .globalImplicit
theorem Ya {E:Value->Shared->Prop}{Aa:List (Addr × Obj)}{s:Shared}{σ:St}{H:Hp}{x:Str}{u:Value}{pos:Pos}{Q:Value->Shared->Prop} (I:Inv X Aa σ H s) (hg:Gl X x) (hm:X.mg x=some u) (h:Q u s)
 (hd:(x==("__debug__":Str))=false:=by decide):wpAny (model X.prog X.w) X.A (eval (.Name x pos) X.env) Q E s :=
 Calls.Name_function_global I.ok.kind hg (Calls.loadGlobal_global (by rw [I.ok.glob];exact I.mod.glob.keeps I.bk) hm h) hd
theorem Kp {E:Value->Shared->Prop}{Aa:List (Addr × Obj)}{s:Shared}{σ:St}{H:Hp}{x:Str}{u:Value}{pos:Pos}{Q:Value->Shared->Prop} (I:Inv X Aa σ H s) (hg:Gl X x) (hm:X.mg x=none) (hv:bootBuiltins x=some u) (h:Q u s)
 (hn:x≠"__name__":=by decide) (hd:(x==("__debug__":Str))=false:=by decide):wpAny (model X.prog X.w) X.A (eval (.Name x pos) X.env) Q E s:=by
 obtain⟨mb,h1,h2⟩:=I.mod.blt
 exact Calls.Name_function_global I.ok.kind hg (Calls.loadGlobal_builtin (by rw [I.ok.glob];exact I.mod.glob.keeps I.bk) hm (by rw [I.ok.blt];exact h1.keeps I.bk) ((h2 x hn).trans hv) h) hd
theorem S8 {x:Str}{v:V}{u:Value}{pos:Pos} (hg:Gl X x) (hm:X.mg x=some u) (r:RelV v u) (hd:(x==("__debug__":Str))=false:=by decide):PE X (.Name x pos) (tC v) :=
 fun _ _ _ H _ I h=>Ya I hg hm ⟨v,H,I,r,h⟩ hd
theorem Lm {x:Str}{v:V}{u:Value}{pos:Pos} (hg:Gl X x) (hm:X.mg x=none) (hv:bootBuiltins x=some u) (r:RelV v u) (hn:x≠"__name__":=by decide) (hd:(x==("__debug__":Str))=false:=by decide):PE X (.Name x pos) (tC v) :=
 fun _ _ _ H _ I h=>Kp I hg hm hv ⟨v,H,I,r,h⟩ hn hd
variable {a b:Expr}{ta tb:TE}{pos:Pos}
def PC (X:Cx) (op:CmpOp) (a b:Expr) (t:TE):Prop :=
 ∀ (Aa:List (Addr × Obj)) (s:Shared) (σ:St) (H:Hp) (Q:VK),Inv X Aa σ H s->t σ H Q →
   wpAny (model X.prog X.w) X.A (eval a X.env) (fun v s₁=>wpAny (model X.prog X.w) X.A (eval b X.env) (fun u s₂=>wpAny (model X.prog X.w) X.A (compareOp op v u) (EP X Aa σ Q) X.xe s₂) X.xe s₁) X.xe s
theorem At3 (b:Expr) {op:CmpOp} (h:op≠.In) (h2:op≠.NotIn):behindInMarks op b=false:=by
 have e1:(op==CmpOp.In)=false:=by cases op<;>first | rfl | exact absurd rfl h
 have e2:(op==CmpOp.NotIn)=false:=by cases op<;>first | rfl | exact absurd rfl h2
 cases b<;>simp [behindInMarks,e1,e2]
def tB (t:TE):TT:=fun σ H Q=>t σ H fun x H1=>∃ c,x=.bl c/\Q c H1
theorem Bg6 {op:CmpOp}{t:TE} (h:PC X op a b t) (h1:behindInMarks op b=false:=by first | exact At3 _ (by decide) (by decide) | rfl):PT X (.Compare a [op] [b] pos) (tB t):=by
 intro Aa s σ H Q I hw
 refine wpAny_isTrue_Compare1 (thn (h Aa s σ H _ I hw) fun v s1 h1=>thn h1 fun u s2 h2=>thn h2 fun c s3 ⟨x,H1,I1,r1,q1⟩=>?_) h1
 obtain⟨d,rfl,q⟩:=q1
 cases r1
 exact wpAny_truthy_bool ⟨H1,I1,q⟩
theorem Ea {e:Expr}{t:TE} (h:PE X e t) (he:∀ whole,isTrue e X.env whole=(do let v ←whole;standAt e.pos;holding [v] (truthy v)):=by intro _;rfl):PT X e (tB t):=by
 intro Aa s σ H Q I hw
 refine isTrue_plain (thn (h Aa s σ H _ I hw) fun v s1 ⟨x,H1,I1,r1,q1⟩=>?_) (he _)
 obtain⟨d,rfl,q⟩:=q1
 cases r1
 exact wpAny_truthy_bool ⟨H1,I1,q⟩
variable {tA tB':TT}{rest:List Expr}
def tAnd (t u:TT):TT:=fun σ H Q=>t σ H fun c H1=>if c=true then u σ H1 Q else Q false H1
def tOr (t u:TT):TT:=fun σ H Q=>t σ H fun c H1=>if c=true then Q true H1 else u σ H1 Q
def tNot (t:TT):TT:=fun σ H Q=>t σ H fun c H1=>Q (!c) H1
theorem Jx (ha:PT X a tA):PW X (.BoolOp .And [a] pos) tA:=by
 intro wh Aa s σ H Q I h
 refine isTrue_and (thn (ha Aa s σ H Q I h) fun c s1 e=>?_)
 cases c with
 | true=>exact isTrue_and_nil e
 | false=>exact e
theorem U2 (ha:PT X a tA):PW X (.BoolOp .Or [a] pos) tA:=by
 intro wh Aa s σ H Q I h
 refine isTrue_or (thn (ha Aa s σ H Q I h) fun c s1 e=>?_)
 cases c with
 | false=>exact isTrue_or_nil e
 | true=>exact e
theorem Of (ha:PT X a tA) (hb:PW X (.BoolOp .And (b::rest) pos) tB'):PW X (.BoolOp .And (a::b::rest) pos) (tAnd tA tB'):=by
 intro wh Aa s σ H Q I h
 refine isTrue_and (thn (ha Aa s σ H _ I h) fun c s1 ⟨H1,I1,q1⟩=>?_)
 cases c with
 | true=>exact hb wh Aa s1 σ H1 Q I1 q1
 | false=>exact ⟨H1,I1,q1⟩
theorem d3 (ha:PT X a tA) (hb:PW X (.BoolOp .Or (b::rest) pos) tB'):PW X (.BoolOp .Or (a::b::rest) pos) (tOr tA tB'):=by
 intro wh Aa s σ H Q I h
 refine isTrue_or (thn (ha Aa s σ H _ I h) fun c s1 ⟨H1,I1,q1⟩=>?_)
 cases c with
 | true=>exact ⟨H1,I1,q1⟩
 | false=>exact hb wh Aa s1 σ H1 Q I1 q1
theorem Hf (ha:PT X a tA):PT X (.UnaryOp .Not a pos) (tNot tA):=by
 intro Aa s σ H Q I h
 exact isTrue_not (ha Aa s σ H (fun c H1=>Q (!c) H1) I h)
def Be5 (ta tb:TE):TE:=fun σ H Q=>ta σ H fun x H1=>∃ c,x=.bl c/\if c=true then tb σ H1 Q else Q (.bl false) H1
def tOrV (ta tb:TE):TE:=fun σ H Q=>ta σ H fun x H1=>∃ c,x=.bl c/\if c=true then Q (.bl true) H1 else tb σ H1 Q
def Bd8 (ta:TE):TE:=fun σ H Q=>ta σ H fun x H1=>∃ c,x=.bl c/\Q (.bl (!c)) H1
theorem Oi {op}{t:TE} (h:PE X a t):PE X (.BoolOp op [a] pos) t:=fun Aa s σ H Q I hw=>BoolOp_one (h Aa s σ H Q I hw)
theorem U8 (ha:PE X a ta) (hb:PE X (.BoolOp .And (b::rest) pos) tb):PE X (.BoolOp .And (a::b::rest) pos) (Be5 ta tb):=by
 intro Aa s σ H Q I h
 refine BoolOp_and (thn (ha Aa s σ H _ I h) fun v s1 ⟨x,H1,I1,r1,q1⟩=>?_)
 obtain⟨c,rfl,q1⟩:=q1
 cases r1
 refine wpAny_truthy_bool ?_
 cases c with
 | true=>exact hb Aa s1 σ H1 Q I1 q1
 | false=>exact ⟨.bl false,H1,I1,rfl,q1⟩
theorem A89 (ha:PE X a ta) (hb:PE X (.BoolOp .Or (b::rest) pos) tb):PE X (.BoolOp .Or (a::b::rest) pos) (tOrV ta tb):=by
 intro Aa s σ H Q I h
 refine BoolOp_or (thn (ha Aa s σ H _ I h) fun v s1 ⟨x,H1,I1,r1,q1⟩=>?_)
 obtain⟨c,rfl,q1⟩:=q1
 cases r1
 refine wpAny_truthy_bool ?_
 cases c with
 | false=>exact hb Aa s1 σ H1 Q I1 q1
 | true=>exact ⟨.bl true,H1,I1,rfl,q1⟩
theorem Aw7 (ha:PE X a ta):PE X (.UnaryOp .Not a pos) (Bd8 ta):=by
 intro Aa s σ H Q I h
 refine UnaryOp_ (thn (ha Aa s σ H _ I h) fun v s1 ⟨x,H1,I1,r1,q1⟩=>?_)
 obtain⟨c,rfl,q1⟩:=q1
 cases r1
 exact not_of (wpAny_truthy_bool ⟨.bl (!c),H1,I1,rfl,q1⟩)
def tIf (t:TT) (ta tb:TE):TE:=fun σ H Q=>t σ H fun c H1=>if c=true then ta σ H1 Q else tb σ H1 Q
theorem Zg {c:Expr} (hc:PT X c tA) (ha:PE X a ta) (hb:PE X b tb):PE X (.IfExp c a b pos) (tIf tA ta tb):=by
 intro Aa s σ H Q I h
 refine wpAny_IfExp (thn (hc Aa s σ H _ I h) fun d s1 ⟨H1,I1,q1⟩=>?_)
 cases d with
 | true=>exact ha Aa s1 σ H1 Q I1 q1
 | false=>exact hb Aa s1 σ H1 Q I1 q1
end
end L2
namespace L2
open PySem PySem.Spec PyProof.Rows
def SqL (K:W.Frag) (H:Hp) (a:Addr) (xs:List V):Prop :=
 Rd H a (.lst xs) ∨
  ∃ (o:Obj) (its:Array Value) (n:Nat),K.lookup a=some o/\o.cls=.type "list"/\o.dict=none/\o.data=.seq its n/\its.size<=sizeLine/\Vals xs its.toList
def SqT (K:W.Frag) (H:Hp) (a:Addr) (xs:List V):Prop :=
 Rd H a (.tup xs) ∨
  ∃ (o:Obj) (its:Array Value) (n:Nat),K.lookup a=some o/\o.cls=.type "tuple"/\o.dict=none/\o.data=.seq its n/\its.size<=sizeLine/\Vals xs its.toList
def absV:Value->Option V
 | .none=>some .non
 | .bool b=>some (.bl b)
 | .int i _=>some (.int i)
 | .str x _=>some (.str x)
 | .bytes b _=>some (.byt b)
 | .float b _=>some (.flt b)
 | .ref a=>some (.ref a)
 | .type n=>some (.ty n)
 | _=>none
theorem RelV.abs {x:V}{u:Value} (r:RelV x u):absV u=some x:=by
 cases x with
 | non=>cases r;rfl
 | bl _=>cases r;rfl
 | int _=>obtain⟨t,rfl⟩:=r;rfl
 | str _=>obtain⟨t,rfl⟩:=r;rfl
 | byt _=>obtain⟨t,rfl⟩:=r;rfl
 | flt _=>obtain⟨t,rfl⟩:=r;rfl
 | ref _=>cases r;rfl
 | ty _=>cases r;rfl
theorem RelV.inj {x y:V}{u:Value} (r:RelV x u) (q:RelV y u):x=y:=Option.some.inj (r.abs.symm.trans q.abs)
theorem Vals.inj:∀{xs ys:List V}{us:List Value},Vals xs us->Vals ys us->xs=ys
 | _,_,_,.nil,.nil=>rfl
 | _,_,_,.cons r t,.cons r' t'=>by rw [r.inj r',Vals.inj t t']
section
variable {X:Cx}{Aa:List (Addr × Obj)}{σ:St}{H:Hp}{s:Shared}{a:Addr}{xs ys:List V}
theorem SqL.of {K:W.Frag} (h:H a=some (.lst xs)):SqL K H a xs:=.inl (.inl h)
theorem SqT.of {K:W.Frag} (h:H a=some (.tup xs)):SqT K H a xs:=.inl (.inl h)
theorem Inv.list (I:Inv X Aa σ H s) (h:SqL X.K H a xs):∃ its:List Value,Vals xs its/\PlainL s.heap a its.toArray/\xs.length<=sizeLine:=by
 rcases h with h|⟨o,its,n,hk,hc,hd,hs,hz,r⟩
 . obtain⟨z,its,n,r,e⟩:=h.ok I.hok
   exact ⟨its,r,⟨_,n,e,rfl,rfl,rfl⟩,z⟩
 . refine⟨its.toList,r,⟨o,n,I.kIn a o hk,hc,hd,by simpa using hs⟩,?_⟩
   have e:=r.length
   simp only [Array.length_toList] at e
   omega
theorem Inv.tuple (I:Inv X Aa σ H s) (h:SqT X.K H a xs):∃ its:List Value,Vals xs its/\IsTup s.heap a its.toArray/\xs.length<=sizeLine:=by
 rcases h with h|⟨o,its,n,hk,hc,_,hs,hz,r⟩
 . obtain⟨z,its,r,p⟩:=h.ok I.hok
   exact ⟨its,r,p.tup,z⟩
 . refine⟨its.toList,r,⟨o,I.kIn a o hk,hc,n,by simpa using hs⟩,?_⟩
   have e:=r.length
   simp only [Array.length_toList] at e
   omega
theorem Inv.list_inj (I:Inv X Aa σ H s) (h:SqL X.K H a xs) (h':SqL X.K H a ys):xs=ys:=by
 obtain⟨its,r,⟨o,n,e,_,_,d⟩,_⟩:=I.list h
 obtain⟨its',r',⟨o',n',e',_,_,d'⟩,_⟩:=I.list h'
 rw [e] at e';cases e'
 rw [d] at d'
 injection d' with d1 _
 have:its=its':=by simpa using congrArg Array.toList d1
 subst this
 exact r.inj r'
theorem Inv.tuple_inj (I:Inv X Aa σ H s) (h:SqT X.K H a xs) (h':SqT X.K H a ys):xs=ys:=by
 obtain⟨its,r,⟨o,e,_,n,d⟩,_⟩:=I.tuple h
 obtain⟨its',r',⟨o',e',_,n',d'⟩,_⟩:=I.tuple h'
 rw [e] at e';cases e'
 rw [d] at d'
 injection d' with d1 _
 have:its=its':=by simpa using congrArg Array.toList d1
 subst this
 exact r.inj r'
end
abbrev Cx.wish (X:Cx) (E:Value->Shared->Prop):Cx:={ X with xe:=E }
abbrev Cx.nox (X:Cx):Cx:=X.wish fun _ _=>False
theorem Cx.Ok.wish {X:Cx} (ok:X.Ok) (E:Value->Shared->Prop):(X.wish E).Ok :=
 ⟨ok.mod,ok.kind,ok.glob,ok.blt,ok.above,ok.inj,ok.has,ok.cab,ok.hd,ok.frames,ok.stk,ok.exf,ok.bs,ok.bsz,ok.noex,ok.exfs,ok.funs,ok.frf⟩
theorem Cx.Ok.unwish {X:Cx}{E:Value->Shared->Prop} (ok:(X.wish E).Ok):X.Ok :=
 ⟨ok.mod,ok.kind,ok.glob,ok.blt,ok.above,ok.inj,ok.has,ok.cab,ok.hd,ok.frames,ok.stk,ok.exf,ok.bs,ok.bsz,ok.noex,ok.exfs,ok.funs,ok.frf⟩
section
variable {X:Cx}{Aa:List (Addr × Obj)}{σ:St}{H:Hp}{s:Shared}{E:Value->Shared->Prop}
theorem Inv.wish (I:Inv X Aa σ H s) (E:Value->Shared->Prop):Inv (X.wish E) Aa σ H s:=⟨I.ok.wish E,I.os,I.bare,I.base,I.loc,I.cell,I.free,I.freeC,I.pin,I.hok,I.len⟩
theorem Inv.unwish (I:Inv (X.wish E) Aa σ H s):Inv X Aa σ H s:=⟨I.ok.unwish,I.os,I.bare,I.base,I.loc,I.cell,I.free,I.freeC,I.pin,I.hok,I.len⟩
theorem SP.unwish {D:Ends}{f:Flow}{s':Shared} (h:SP (X.wish E) Aa D f s'):SP X Aa D f s':=by
 cases f with
 | next=>obtain⟨σ',H',I,q⟩:=h;exact ⟨σ',H',I.unwish,q⟩
 | brk=>obtain⟨σ',H',I,q⟩:=h;exact ⟨σ',H',I.unwish,q⟩
 | cont=>obtain⟨σ',H',I,q⟩:=h;exact ⟨σ',H',I.unwish,q⟩
 | ret u=>obtain⟨v,σ',H',I,r,q⟩:=h;exact ⟨v,σ',H',I.unwish,r,q⟩
theorem PSs.nox {st:List Stmt}{t:TS} (h:PSs X.nox st t):PSs X st t:=fun Aa s σ H D I hw =>
 wpAny_mono (h Aa s σ H D (I.wish _) hw) (fun _ _ q=>q.unwish) fun _ _ z=>False.elim z
end
section
variable {X:Cx}{st:Stmt}{rest:List Stmt}{t u:TS}{e:Expr}{te:TE}{pos:Pos}
def Bd9:TS:=fun D σ H=>D.nx σ H
def tSeq (t u:TS):TS:=fun D σ H=>t { D with nx:=u D } σ H
theorem Ax:PSs X [] Bd9:=fun _ _ σ H _ I h=>wpAny_execs_nil ⟨σ,H,I,h⟩
theorem Ae (h1:PS X st t) (h2:PSs X rest u):PSs X (st::rest) (tSeq t u):=by
 intro Aa s σ H D I h
 refine wpAny_execs_cons (thn (h1 Aa s σ H { D with nx:=u D } I h) fun f s1 q=>?_)
 cases f with
 | next =>
   obtain⟨σ',H',I',q⟩:=q
   exact h2 Aa s1 σ' H' D I' q
 | ret v=>exact q
 | brk=>exact q
 | cont=>exact q
theorem Aj (h1:PS X st t):PSs X [st] t:=by
 intro Aa s σ H D I h
 refine wpAny_execs_cons (thn (h1 Aa s σ H D I h) fun f s1 q=>?_)
 cases f with
 | next=>exact wpAny_execs_nil q
 | ret v=>exact q
 | brk=>exact q
 | cont=>exact q
theorem Inv.quiet {Aa:List (Addr × Obj)}{σ:St}{H:Hp}{s:Shared} (I:Inv X Aa σ H s):interactive X.env=false:=by simp [interactive,I.ok.kind]
def Be0 (te:TE):TS:=fun D σ H=>te σ H fun _ H1=>D.nx σ H1
theorem B9 (he:PE X e te) (hs:swapsWith e none pos.line X.env=pure false:=by rfl):PS X (.Expr e pos) (Be0 te):=by
 intro Aa s σ H D I h
 exact wpAny_Expr_any (thn (he Aa s σ H _ I h) fun v s1 ⟨x,H1,I1,r1,q1⟩=>⟨σ,H1,I1,q1⟩) I.quiet hs
def tRet (te:TE):TS:=fun D σ H=>te σ H D.rt
theorem Av (he:PE X e te):PS X (.Return (some e) pos) (tRet te):=by
 intro Aa s σ H D I h
 exact wpAny_Return_some (thn (he Aa s σ H _ I h) fun v s1 ⟨x,H1,I1,r1,q1⟩=>⟨x,σ,H1,I1,r1,q1⟩)
def tIfS (c:TT) (t u:TS):TS:=fun D σ H=>c σ H fun b H1=>if b=true then t D σ H1 else u D σ H1
theorem Bi {c:Expr}{a b:List Stmt}{tc:TT} (hc:PT X c tc) (ha:PSs X a t) (hb:PSs X b u):PS X (.If c a b pos) (tIfS tc t u):=by
 intro Aa s σ H D I h
 refine wpAny_If (thn (hc Aa s σ H _ I h) fun d s1 ⟨H1,I1,q1⟩=>?_)
 cases d with
 | true=>exact ha Aa s1 σ H1 D I1 q1
 | false=>exact hb Aa s1 σ H1 D I1 q1
def A65:TS:=fun _ _ _=>False
theorem Kl:PS X st A65:=fun _ _ _ _ _ _ h=>h.elim
end
abbrev TG:=V->St->Hp->(St->Hp->Prop)->Prop
abbrev TGs:=List V->St->Hp->(St->Hp->Prop)->Prop
def PG (X:Cx) (target:Expr) (t:TG):Prop :=
 ∀ (Aa:List (Addr × Obj)) (s:Shared) (σ:St) (H:Hp) (v:V) (u:Value) (Q:St->Hp->Prop),Inv X Aa σ H s->RelV v u->t v σ H Q →
   wpAny (model X.prog X.w) X.A (assign target X.env u) (fun _ s'=>∃ σ' H',Inv X Aa σ' H' s'/\Q σ' H') X.xe s
def PGs (X:Cx) (ts:List Expr) (t:TGs):Prop :=
 ∀ (Aa:List (Addr × Obj)) (s:Shared) (σ:St) (H:Hp) (vs:List V) (us:List Value) (Q:St->Hp->Prop),Inv X Aa σ H s->Vals vs us->t vs σ H Q →
   wpAny (model X.prog X.w) X.A (assignInOrder ((assignEach ts X.env).map (·.2)) us) (fun _ s'=>∃ σ' H',Inv X Aa σ' H' s'/\Q σ' H') X.xe s
abbrev TSet:=V->V->V->Hp->(Hp->Prop)->Prop
def PSet (X:Cx) (t:TSet):Prop :=
 ∀ (Aa:List (Addr × Obj)) (s:Shared) (σ:St) (H:Hp) (o i v:V) (ov iv u:Value) (Q:Hp->Prop),Inv X Aa σ H s->RelV o ov->RelV i iv->RelV v u->t o i v H Q →
   wpAny (model X.prog X.w) X.A (setItem ov iv u) (fun _ s'=>∃ H',Inv X Aa σ H' s'/\Q H') X.xe s
abbrev TIp:=V->V->Hp->VK->Prop
def PIp (X:Cx) (op:Operator) (t:TIp):Prop :=
 ∀ (Aa:List (Addr × Obj)) (s:Shared) (σ:St) (H:Hp) (x y:V) (v u:Value) (Q:VK),Inv X Aa σ H s->RelV x v->RelV y u->t x y H Q →
   wpAny (model X.prog X.w) X.A (inplaceOp op v u) (EP X Aa σ Q) X.xe s
section
variable {X:Cx}{pos:Pos}
def n0 (i:Nat):TG:=fun v σ H Q=>Q (σ.set i (some v)) H
theorem Aq {i:Nat}{x:Str} (hN:X.N.Nodup) (hi:X.N[i]?=some x) (hx:Loc X.env.scope x) (hf:X.fn x=true\/X.env.scope.names.lookup x=some .local:=by first | exact .inl rfl | exact .inr rfl | assumption):PG X (.Name x pos) (n0 i):=by
 intro Aa s σ H v u Q I r h
 exact wpAny_assign_Name (Sj I hN hi hx r (fun s' I'=>⟨_,H,I',h⟩) hf)
def gNil:TGs:=fun vs σ H Q=>vs=[]/\Q σ H
def Bg0 (t:TG) (u:TGs):TGs:=fun vs σ H Q=>∃ v r,vs=v::r/\t v σ H fun σ' H'=>u r σ' H' Q
theorem Hh:PGs X [] gNil:=by
 intro Aa s σ H vs us Q I r h
 obtain⟨e,h⟩:=h
 subst e
 cases r
 exact assignInOrder_nil ⟨σ,H,I,h⟩
theorem Bt {e:Expr}{es:List Expr}{t:TG}{u:TGs} (h1:PG X e t) (h2:PGs X es u)
 (hs:(assignEach (e::es) X.env).map (·.2)=assign e X.env::(assignEach es X.env).map (·.2):=by rfl):PGs X (e::es) (Bg0 t u):=by
 intro Aa s σ H vs us Q I r h
 obtain⟨v,vr,e1,h⟩:=h
 subst e1
 cases r with
 | cons r rr =>
   rw [hs]
   refine assignInOrder_cons (thn (h1 Aa s σ H _ _ _ I r h) fun _ s1 ⟨σ1,H1,I1,q1⟩=>?_)
   exact h2 Aa s1 σ1 H1 _ _ Q I1 rr q1
def gTup (K:W.Frag) (n:Nat) (t:TGs):TG:=fun v σ H Q=>∃ a xs,v=.ref a/\SqT K H a xs/\xs.length=n/\t xs σ H Q
theorem A87 {es:List Expr}{k:Nat}{t:TGs}{n:Nat} (hc:X.calm=true) (h:PGs X es t)
 (hn:(assignEach es X.env).length=n:=by rfl) (hst:(assignEach es X.env).findIdx? (·.1)=none:=by rfl):PG X (.Tuple es k pos) (gTup X.K n t):=by
 intro Aa s σ H v u Q I r hw
 obtain⟨a,xs,e1,hq,hl,hw⟩:=hw
 subst e1
 cases r
 obtain⟨its,rv,ht,hz⟩:=I.tuple hq
 refine assign_Tuple_tuple (I.ok.hd hc) ht (by simp [hn,←hl,rv.length]) hst fun h' hx=>?_
 have I1:Inv X Aa σ H { s with heap:=h' }:=I.kept (t':=s.toks) fun b o e=>hx b o (Nat.ne_of_lt (Heap.lt_size e)) e
 exact h Aa _ σ H xs _ Q I1 (by simpa using rv) hw
def tAsg (te:TE) (g:TG):TS:=fun D σ H=>te σ H fun x H1=>g x σ H1 D.nx
theorem As {i:Nat}{x:Str}{e:Expr}{te:TE}{pos':Pos} (hN:X.N.Nodup) (hi:X.N[i]?=some x) (hx:Loc X.env.scope x) (he:PE X e te) (hs:swapsWith e (some (.Name x pos')) pos.line X.env=pure false:=by rfl) (hf:X.fn x=true\/X.env.scope.names.lookup x=some .local:=by first | exact .inl rfl | exact .inr rfl | assumption) :
 PS X (.Assign [.Name x pos'] e pos) (tAsg te (n0 i)):=by
 intro Aa s σ H D I h
 refine wpAny_Assign_Name (thn (he Aa s σ H _ I h) fun v s1 ⟨y,H1,I1,r1,q1⟩=>?_) hs
 exact Sj I1 hN hi hx r1 (fun s2 I2=>⟨_,H1,I2,q1⟩) hf
def tAug (i:Nat) (te:TE) (ti:TIp):TS:=fun D σ H=>∃ x,σ[i]?=some (some x)/\te σ H fun y H1=>ti x y H1 fun z H2=>D.nx (σ.set i (some z)) H2
theorem A83 {i:Nat}{x:Str}{e:Expr}{te:TE}{op:Operator}{ti:TIp}{pos':Pos} (hN:X.N.Nodup) (hi:X.N[i]?=some x) (hx:Loc X.env.scope x) (he:PE X e te) (ho:PIp X op ti) (hf:X.fn x=true\/X.env.scope.names.lookup x=some .local:=by first | exact .inl rfl | exact .inr rfl | assumption) :
 PS X (.AugAssign (.Name x pos') op e pos) (tAug i te ti):=by
 intro Aa s σ H D I h
 obtain⟨v,e1,h⟩:=h
 obtain⟨m,hn,hl⟩:=I.loc
 have vis:Vis X.env.scope x:=by rcases hx with k | k;exact .inl k;exact .inr (.inl k)
 obtain⟨u,r,l⟩:=hl i x v hi e1 vis
 refine wpAny_AugAssign_Name ?_
 have go:wpAny (model X.prog X.w) X.A (eval e X.env) (fun w s₂=>wpAny (model X.prog X.w) X.A (inplaceOp op u w) (fun r s₃=>wpAny (model X.prog X.w) X.A (storeName X.env x r) (fun _=>SP X Aa D .next) X.xe s₃) X.xe s₂) X.xe s:=by
  refine thn (he Aa s σ H _ I h) fun w s1 ⟨y,H1,I1,r1,q1⟩=>?_
  refine thn (ho Aa s1 σ H1 v y u w _ I1 r r1 q1) fun z s2 ⟨zv,H2,I2,r2,q2⟩=>?_
  exact Sj I2 hN hi hx r2 (fun s3 I3=>⟨_,H2,I3,q2⟩) hf
 rcases l with ⟨hk,hm⟩|⟨hk,c,hc,hcell⟩
 . exact wpAny_loadName_local I.ok.kind hk hn hm go
 . rcases hk with hk | hk
   . exact wpAny_loadName_cell I.ok.kind hk hc hcell go
   . rcases hx with k | k
     . have:X.env.scope.names.lookup x=some .free:=hk
       rw [k] at this;cases this
     . have:X.env.scope.names.lookup x=some .free:=hk
       rw [k] at this;cases this
def Be4 (to ti te:TE) (tget:V->V->Hp->VK->Prop) (tip:TIp) (tset:TSet):TS:=fun D σ H=>to σ H fun o H1=>ti σ H1 fun i H2=>tget o i H2 fun x H3=>te σ H3 fun y H4=>tip x y H4 fun z H5=>tset o i z H5 fun H6=>D.nx σ H6
def PGet (X:Cx) (t:V->V->Hp->VK->Prop):Prop :=
 ∀ (Aa:List (Addr × Obj)) (s:Shared) (σ:St) (H:Hp) (o i:V) (ov iv:Value) (Q:VK),Inv X Aa σ H s->RelV o ov->RelV i iv->t o i H Q →
   wpAny (model X.prog X.w) X.A (getItem ov iv) (EP X Aa σ Q) X.xe s
theorem A04 {o i e:Expr}{to ti te:TE}{tget:V->V->Hp->VK->Prop}{tip:TIp}{tset:TSet}{op:Operator}{tpos:Pos} (ho:PE X o to) (hi:PE X i ti) (hg:PGet X tget) (he:PE X e te) (hp:PIp X op tip) (hs:PSet X tset)
 (ha:∀ ov iv new,augStore i ov iv new=(do holding [new,ov,iv] (setItem ov iv new);release [new,ov,iv] [];pure .next):=by intros;rfl):PS X (.AugAssign (.Subscript o i tpos) op e pos) (Be4 to ti te tget tip tset):=by
 intro Aa s σ H D I h
 refine wpAny_AugAssign_SubscriptAny (thn (ho Aa s σ H _ I h) fun ov s1 ⟨x1,H1,I1,r1,q1⟩=>?_) ha
 refine thn (hi Aa s1 σ H1 _ I1 q1) fun iv s2 ⟨x2,H2,I2,r2,q2⟩=>?_
 refine thn (hg Aa s2 σ H2 x1 x2 ov iv _ I2 r1 r2 q2) fun old s3 ⟨x3,H3,I3,r3,q3⟩=>?_
 refine thn (he Aa s3 σ H3 _ I3 q3) fun v s4 ⟨x4,H4,I4,r4,q4⟩=>?_
 refine thn (hp Aa s4 σ H4 x3 x4 old v _ I4 r3 r4 q4) fun new s5 ⟨x5,H5,I5,r5,q5⟩=>?_
 exact thn (hs Aa s5 σ H5 x1 x2 x5 ov iv new _ I5 r1 r2 r5 q5) fun _ s6 ⟨H6,I6,q6⟩=>⟨σ,H6,I6,q6⟩
def ipI (f:Int->Int->Int):TIp:=fun x y H Q=>∃ i j,x=.int i/\y=.int j/\Q (.int (f i j)) H
theorem Ay1:PIp X .Add (ipI fun i j=>i+j):=by
 intro Aa s σ H x y v u Q I r1 r2 h
 obtain⟨i,j,e1,e2,q⟩:=h
 subst e1;subst e2
 obtain⟨t,rfl⟩:=r1
 obtain⟨t',rfl⟩:=r2
 exact iadd_int ⟨.int _,H,I.tok _,⟨_,rfl⟩,q⟩
end
section
variable {X:Cx}{pos:Pos}
def A64 (c:TT) (tb:TS):TS:=fun D σ H=>∃ W:Nat->St->Hp->Prop,(∃ m,W m σ H)/\∀ m σ H,W m σ H →
 c σ H fun b H1=>if b=true then ∃ N:St->Hp->Prop,(∀ σ' H',N σ' H'->∃ m',m'<m/\W m' σ' H')/\tb { D with nx:=N,ct:=N,bk:=D.nx } σ H1 else D.nx σ H1
theorem S2 {c:Expr}{body:List Stmt}{tc:TT}{tb:TS} (hp:PassesOwn (model X.prog X.w) X.A X.env X.xe) (hc:PT X c tc) (hb:PSs X body tb):PS X (.While c body [] pos) (A64 tc tb):=by
 intro Aa s σ H D I h
 obtain⟨W,⟨m0,w0⟩,turn⟩:=h
 refine wpAny_While (codeAny_whileLoop (fun n s'=>∃ σ' H',Inv X Aa σ' H' s'/\W n σ' H') ?_ m0 ⟨σ,H,I,w0⟩)
 rintro n s1 ⟨σ1,H1,I1,w1⟩
 refine wpAny_passesOwn hp (thn (hc Aa s1 σ1 H1 _ I1 (turn n σ1 H1 w1)) fun b s2 ⟨H2,I2,q2⟩=>?_)
 cases b with
 | true =>
   obtain⟨N,hN,q2⟩:=q2
   rw [if_pos rfl]
   refine wpAny_passesOwn hp (thn (hb Aa s2 σ1 H2 _ I2 q2) fun f s3 q3=>?_)
   cases f with
   | next =>
     obtain⟨σ3,H3,I3,n3⟩:=q3
     obtain⟨m',hm,w3⟩:=hN σ3 H3 n3
     exact ⟨m',hm,σ3,H3,I3,w3⟩
   | cont =>
     obtain⟨σ3,H3,I3,n3⟩:=q3
     obtain⟨m',hm,w3⟩:=hN σ3 H3 n3
     exact ⟨m',hm,σ3,H3,I3,w3⟩
   | brk=>exact q3
   | ret v=>exact q3
 | false =>
   rw [if_neg Bool.false_ne_true]
   exact wpAny_execs_nil ⟨σ1,H2,I2,q2⟩
end
structure It where
 go:Nat->Hp->Prop
 yld:Nat->Hp->V->Hp->Prop
 stop:Nat->Hp->Prop
def FpOk (X:Cx) (Aa:List (Addr × Obj)) (H:Hp) (b:Addr):Prop :=
 H b=none/\b≠X.env.locals/\b ∉ X.fs/\(b∈X.ex\/X.s₀.heap.objs.size<=b)/\(∀ x c,X.env.cells.lookup x=some c->c≠b)/\∀ p∈X.pn++Aa,p.1≠b
theorem Inv.fpOk {X:Cx}{Aa:List (Addr × Obj)}{σ:St}{H H':Hp}{s:Shared}{b:Addr} (I:Inv X Aa σ H s) (hb:s.heap.objs.size<=b) (hn:H' b=none):FpOk X Aa H' b:=by
 refine⟨hn,Nat.ne_of_gt (Nat.lt_of_lt_of_le I.lt hb),I.nofs hb,.inr (Nat.le_trans I.sz hb),fun x c e z=>?_,fun p hp z=>?_⟩
 . obtain⟨v,q⟩:=I.cell x c e
   exact absurd (Nat.lt_of_lt_of_le q.lt (by rw [z];exact hb)) (Nat.lt_irrefl _)
 . exact absurd (Nat.lt_of_lt_of_le (Heap.lt_size (I.pin p hp).1) (by rw [z];exact hb)) (Nat.lt_irrefl _)
structure Turn (P:Program) (w:World) (K:W.Frag) (tg:Expr) (J:It) (fp:List Addr) (it:Addr) (tn:Nat->Heap->Prop):Prop where
 mem:it∈fp
 obj:∀ i h,tn i h->∀ b∈fp,∃ o,h.get? b=some o/\∀ v,o.data≠.cell v
 keep:∀ i h h',tn i h->(∀ b∈fp,∀ o,h.get? b=some o->h'.get? b=some o)->tn i h'
 item:∀ (X:Cx),X.prog=P->X.w=w->X.K=K->X.calm=true->∀ (i:Nat) (Aa:List (Addr × Obj)) (s:Shared) (σ:St) (H:Hp) (E:Value->Shared->Prop),Inv X Aa σ H s->(∀ b∈fp,FpOk X Aa H b)->tn i s.heap->J.go i H →
  wpAny (model P w) X.A (pyNext (.ref it)) (fun r s1=>∃ u,r=some u ∧
   wpAny (model P w) X.A (letOwnedTupleGo tg (.ref it) u) (fun _ s2=>∃ x H',Inv X Aa σ H' s2/\RelV x u/\J.yld i H x H'/\tn (i+1) s2.heap/\∀ b∈fp,H' b=none) E s1) E s
 done:∀ (X:Cx),X.prog=P->X.w=w->X.K=K->X.calm=true->∀ (i:Nat) (Aa:List (Addr × Obj)) (s:Shared) (σ:St) (H:Hp) (E:Value->Shared->Prop),Inv X Aa σ H s->(∀ b∈fp,FpOk X Aa H b)->tn i s.heap->J.stop i H →
  wpAny (model P w) X.A (pyNext (.ref it)) (fun r s1=>r=none/\Inv X Aa σ H s1) E s
 self:∀ (A:Around) (i:Nat) (s:Shared) (Q:Value->Shared->Prop) (E:Value->Shared->Prop),tn i s.heap->Q (.ref it) s->wpAny (model P w) A (pyIter (.ref it)) Q E s
abbrev TI:=St->Hp->(It->Hp->Prop)->Prop
def PIE (X:Cx) (Aa:List (Addr × Obj)) (σ:St) (tg:Expr) (R:It->Hp->Prop) (itv:Value) (s2:Shared):Prop :=
 ∃ (it:Addr) (fp:List Addr) (tn:Nat->Heap->Prop) (J:It) (H':Hp),itv=.ref it/\Inv X Aa σ H' s2/\Turn X.prog X.w X.K tg J fp it tn/\tn 0 s2.heap/\(∀ b∈fp,FpOk X Aa H' b)/\R J H'
def PI (X:Cx) (tg iter:Expr) (wi:TI):Prop :=
 ∀ (Aa:List (Addr × Obj)) (s:Shared) (σ:St) (H:Hp) (R:It->Hp->Prop),Inv X Aa σ H s->wi σ H R →
   wpAny (model X.prog X.w) X.A (eval iter X.env) (fun v s1=>wpAny (model X.prog X.w) X.A (pyIter v) (PIE X Aa σ tg R) X.xe s1) X.xe s
theorem A42 {M:Model}{A:Around}{E:Value->Shared->Prop}{s:Shared}{tg:Expr}{it:Addr}{u:Value}{o:Obj}{n:String}{vs:Array Value}{Q:Unit->Shared->Prop} (ho:s.heap.get? it=some o) (hc:o.cls=.type n) (hd:o.data=.fields vs)
 (hn:["enumerate","zip","dict_itemiterator","dict_reverseitemiterator","odict_iterator","itertools.zip_longest","itertools.pairwise"].contains n=false) (hQ:Q () s):wpAny M A (letOwnedTupleGo tg (.ref it) u) Q E s:=by
 unfold letOwnedTupleGo
 cases tg<;>first
  | exact wpAny_pure hQ
  | (cases u<;>first
      | exact wpAny_pure hQ
      | (refine wpAny_bind (wpAny_load ho ?_)
         rw [hc,hd]
         show wpAny M A (if (["enumerate","zip","dict_itemiterator","dict_reverseitemiterator","odict_iterator","itertools.zip_longest","itertools.pairwise"].contains n&&vs[0]?==some (rawInt _))=true then _ else _) Q E s
         rw [if_neg (by intro h;rw [hn,Bool.false_and] at h;cases h)]
         exact wpAny_pure hQ))
def Itl (K:W.Frag) (a:Addr):It :=
 ⟨fun i H=>∃ xs x,SqL K H a xs/\xs[i]?=some x,fun i H x H'=>H'=H/\∀ xs,SqL K H a xs->xs[i]?=some x,fun i H=>∃ xs,SqL K H a xs/\xs.length<=i⟩
def Itt (K:W.Frag) (a:Addr):It :=
 ⟨fun i H=>∃ xs x,SqT K H a xs/\xs[i]?=some x,fun i H x H'=>H'=H/\∀ xs,SqT K H a xs->xs[i]?=some x,fun i H=>∃ xs,SqT K H a xs/\xs.length<=i⟩
def Itr (lo:Int) (n:Nat):It:=⟨fun i _=>i<n,fun i H x H'=>H'=H/\x=.int (lo+i),fun i _=>n<=i⟩
theorem z9 {P:Program}{w:World}{K:W.Frag}{tg:Expr} (a it:Addr):Turn P w K tg (Itl K a) [it] it (fun i h=>h.IsListIter it a i) where
 mem:=by simp
 obj:=fun i h st b hb=>by
  have e:b=it:=by simpa using hb
  subst e
  obtain⟨o,e,c,d⟩:=st
  exact ⟨o,e,fun v z=>by rw [d] at z;cases z⟩
 keep:=fun i h h' st k=>st.at fun o e=>k it (by simp) o e
 item:=by
  intro X hP hw hK hc i Aa s σ H E I hf st hg
  subst hP hw hK
  obtain⟨xs,x,hq,hx⟩:=hg
  obtain⟨its,rv,p,hz⟩:=I.list hq
  obtain⟨u,hu,ru⟩:=rv.get hx
  obtain⟨f0,f1,f2,f3,f4,f5⟩:=hf it (by simp)
  refine wpAny_pyNext_list_item st p.isList (x:=u) (by simpa using hu) fun h' st' sb=>?_
  have I1:Inv X Aa σ H { s with heap:=h' }:=I.turned (t':=s.toks) (fun b o hb e=>(sb.2 b hb).trans e) f0 f1 f3 f4 f5
  obtain⟨o,e,c,d⟩:=id st'
  exact ⟨u,rfl,A42 (s:={ s with heap:=h' }) e c d (by decide) ⟨x,H,I1,ru,⟨rfl,fun ys hy=>by rw [I.list_inj hy hq];exact hx⟩,st',fun b hb=>(hf b hb).1⟩⟩
 done:=by
  intro X hP hw hK hc i Aa s σ H E I hf st hg
  subst hP hw hK
  obtain⟨xs,hq,hx⟩:=hg
  obtain⟨its,rv,p,hz⟩:=I.list hq
  obtain⟨f0,f1,f2,f3,f4,f5⟩:=hf it (by simp)
  have hl:=rv.length
  exact wpAny_pyNext_list_end (I.ok.hd hc) st p.isList (by simp;omega) fun h' eb=>⟨rfl,I.turned (t':=s.toks) (fun b o hb e=>eb b o hb e) f0 f1 f3 f4 f5⟩
 self:=fun _ _ _ _ _ st h=>wpAny_pyIter_listiter st h
theorem Z0 {P:Program}{w:World}{K:W.Frag}{tg:Expr} (a it:Addr):Turn P w K tg (Itt K a) [it] it (fun i h=>h.IsTupleIter it a i) where
 mem:=by simp
 obj:=fun i h st b hb=>by
  have e:b=it:=by simpa using hb
  subst e
  obtain⟨o,e,c,d⟩:=st
  exact ⟨o,e,fun v z=>by rw [d] at z;cases z⟩
 keep:=fun i h h' st k=>st.at fun o e=>k it (by simp) o e
 item:=by
  intro X hP hw hK hc i Aa s σ H E I hf st hg
  subst hP hw hK
  obtain⟨xs,x,hq,hx⟩:=hg
  obtain⟨its,rv,p,hz⟩:=I.tuple hq
  obtain⟨u,hu,ru⟩:=rv.get hx
  obtain⟨f0,f1,f2,f3,f4,f5⟩:=hf it (by simp)
  refine wpAny_pyNext_tuple_item st (show s.heap.IsTuple a its.toArray from p) (x:=u) (by simpa using hu) fun h' st' sb=>?_
  have I1:Inv X Aa σ H { s with heap:=h' }:=I.turned (t':=s.toks) (fun b o hb e=>(sb.2 b hb).trans e) f0 f1 f3 f4 f5
  obtain⟨o,e,c,d⟩:=id st'
  exact ⟨u,rfl,A42 (s:={ s with heap:=h' }) e c d (by decide) ⟨x,H,I1,ru,⟨rfl,fun ys hy=>by rw [I.tuple_inj hy hq];exact hx⟩,st',fun b hb=>(hf b hb).1⟩⟩
 done:=by
  intro X hP hw hK hc i Aa s σ H E I hf st hg
  subst hP hw hK
  obtain⟨xs,hq,hx⟩:=hg
  obtain⟨its,rv,p,hz⟩:=I.tuple hq
  obtain⟨f0,f1,f2,f3,f4,f5⟩:=hf it (by simp)
  have hl:=rv.length
  exact wpAny_pyNext_tuple_end (I.ok.hd hc) st (show s.heap.IsTuple a its.toArray from p) (by simp;omega) fun h' eb=>⟨rfl,I.turned (t':=s.toks) (fun b o hb e=>eb b o hb e) f0 f1 f3 f4 f5⟩
 self:=fun _ _ _ _ _ st h=>wpAny_pyIter_tupleiter st h
theorem Z1 {P:Program}{w:World}{K:W.Frag}{tg:Expr} (it:Addr) (lo:Int) (n:Nat):Turn P w K tg (Itr lo n) [it] it (fun i h=>IsRangeIter h it (lo+(i:Nat)*1) ((n:Int)-(i:Nat)) 1) where
 mem:=by simp
 obj:=fun i h st b hb=>by
  have e:b=it:=by simpa using hb
  subst e
  exact ⟨_,st,fun v z=>by
   have z':Data.fields _=Data.cell v:=z
   cases z'⟩
 keep:=fun i h h' st k=>k it (by simp) _ st
 item:=by
  intro X hP hw hK hc i Aa s σ H E I hf st hg
  subst hP hw hK
  obtain⟨f0,f1,f2,f3,f4,f5⟩:=hf it (by simp)
  have W:=Walks.range (prog:=X.prog) (w:=X.w) (I.ok.hd hc) it lo 1 n
  refine W.item i s _ _ hg st fun v h' tk hv st' kk=>?_
  obtain⟨t,rfl⟩:=hv
  have I1:Inv X Aa σ H { s with heap:=h',toks:=tk }:=I.turned (fun b o hb e=>kk b o (by simpa using hb) e) f0 f1 f3 f4 f5
  refine⟨_,rfl,A42 (s:={ s with heap:=h',toks:=tk }) (n:="range_iterator") st' rfl rfl (by decide) ⟨.int (lo+i),H,I1,⟨t,?_⟩,⟨rfl,rfl⟩,st',fun b hb=>(hf b hb).1⟩⟩
  rw [Int.mul_one]
 done:=by
  intro X hP hw hK hc i Aa s σ H E I hf st hg
  subst hP hw hK
  obtain⟨f0,f1,f2,f3,f4,f5⟩:=hf it (by simp)
  exact wpAny_pyNext_range_end (I.ok.hd hc) st (by have:n<=i:=hg;omega) fun h' eb=>⟨rfl,I.turned (t':=s.toks) (fun b o hb e=>eb b o hb e) f0 f1 f3 f4 f5⟩
 self:=fun _ _ _ _ _ st h=>wpAny_pyIter_rangeiter st h
end L2
namespace L2
open PySem PySem.Spec PyProof.Rows
section
variable {X:Cx}{tg:Expr}
def Bc2 (K:W.Frag) (tl:TE):TI:=fun σ H R=>tl σ H fun x H1=>∃ a,x=.ref a/\(∃ xs,SqL K H1 a xs)/\R (Itl K a) H1
def iTup (K:W.Frag) (tl:TE):TI:=fun σ H R=>tl σ H fun x H1=>∃ a,x=.ref a/\(∃ xs,SqT K H1 a xs)/\R (Itt K a) H1
theorem A11 {l:Expr}{tl:TE} (hl:PE X l tl):PI X tg l (Bc2 X.K tl):=by
 intro Aa s σ H R I h
 refine thn (hl Aa s σ H _ I h) fun v s1 ⟨x,H1,I1,r1,q1⟩=>?_
 obtain⟨a,e,⟨xs,hq⟩,q⟩:=q1
 subst e
 cases r1
 obtain⟨its,rv,p,hz⟩:=I1.list hq
 refine wpAny_pyIter_list p.isList ?_
 refine⟨s1.heap.objs.size,[s1.heap.objs.size],_,_,H1,rfl,I1.kept (t':=s1.toks) fun b o e=>Heap.get?_push_of_some _ e,z9 a _,⟨_,Heap.get?_push_size _ rfl,rfl,rfl⟩,fun b hb=>?_,q⟩
 have e:b=s1.heap.objs.size:=by simpa using hb
 subst e
 exact I1.fpOk (Nat.le_refl _) (I1.hok.fresh (Nat.le_refl _))
theorem A86 {l:Expr}{tl:TE} (hl:PE X l tl):PI X tg l (iTup X.K tl):=by
 intro Aa s σ H R I h
 refine thn (hl Aa s σ H _ I h) fun v s1 ⟨x,H1,I1,r1,q1⟩=>?_
 obtain⟨a,e,⟨xs,hq⟩,q⟩:=q1
 subst e
 cases r1
 obtain⟨its,rv,p,hz⟩:=I1.tuple hq
 refine wpAny_pyIter_tuple (show s1.heap.IsTuple a its.toArray from p) ?_
 refine⟨s1.heap.objs.size,[s1.heap.objs.size],_,_,H1,rfl,I1.kept (t':=s1.toks) fun b o e=>Heap.get?_push_of_some _ e,Z0 a _,⟨_,Heap.get?_push_size _ rfl,rfl,rfl⟩,fun b hb=>?_,q⟩
 have e:b=s1.heap.objs.size:=by simpa using hb
 subst e
 exact I1.fpOk (Nat.le_refl _) (I1.hok.fresh (Nat.le_refl _))
theorem Ze {Aa:List (Addr × Obj)}{σ:St}{H:Hp}{s:Shared}{R:It->Hp->Prop}{E:Value->Shared->Prop}{lo hi:Int}{t u v:Tok}{tk:Nat} (I:Inv X Aa σ H s) (h1:-(2 ^ 62)<=lo) (h2:lo<2 ^ 62) (h3:-(2 ^ 62)<=hi) (h4:hi<2 ^ 62)
 (q:R (Itr lo (hi-lo).toNat) H):wpAny (model X.prog X.w) X.A (pyIter (.ref s.heap.objs.size)) (PIE X Aa σ tg R) E { s with heap:=s.heap.push { cls:=.type "range",data:=.fields #[.int lo t,.int hi u,.int 1 v] },toks:=tk }:=by
 refine wpAny_pyIter_range (IsRange.new ..) (small_one h1 h2 h3 h4) ?_
 have I1:Inv X Aa σ H { s with heap:=s.heap.push { cls:=.type "range",data:=.fields #[.int lo t,.int hi u,.int 1 v] },toks:=tk }:=I.kept fun b o e=>Heap.get?_push_of_some _ e
 refine⟨(s.heap.push { cls:=.type "range",data:=.fields #[.int lo t,.int hi u,.int 1 v] }).objs.size,[(s.heap.push { cls:=.type "range",data:=.fields #[.int lo t,.int hi u,.int 1 v] }).objs.size],_,_,H,rfl,
  I1.kept (t':=tk) fun b o e=>Heap.get?_push_of_some _ e,Z1 _ lo (hi-lo).toNat,?_,fun b hb=>?_,q⟩
 . have e1:lo+((0:Nat):Int)*1=lo:=by simp
   have e2:(((hi-lo).toNat:Nat):Int)-((0:Nat):Int)=Builtin.Range.rangeSize lo hi 1:=by rw [rangeSize_one];split<;>omega
   show IsRangeIter _ _ (lo+((0:Nat):Int)*1) ((((hi-lo).toNat:Nat):Int)-((0:Nat):Int)) 1
   rw [e1,e2]
   exact Heap.get?_push_size _ rfl
 . have e:b=(s.heap.push { cls:=.type "range",data:=.fields #[.int lo t,.int hi u,.int 1 v] }).objs.size:=by simpa using hb
   subst e
   exact I1.fpOk (Nat.le_refl _) (I1.hok.fresh (Nat.le_refl _))
def Bf8 (ta:TA):TI:=fun σ H R=>ta σ H fun vs H1=>∃ j:Int,vs=[.int j]/\-(2 ^ 62)<=j/\j<2 ^ 62/\R (Itr 0 j.toNat) H1
def Bf7 (ta:TA):TI:=fun σ H R=>ta σ H fun vs H1=>∃ i j:Int,vs=[.int i,.int j]/\(-(2 ^ 62)<=i/\i<2 ^ 62/\-(2 ^ 62)<=j/\j<2 ^ 62)/\R (Itr i (j-i).toNat) H1
theorem B4 {a:Expr}{ta:TA}{p pos:Pos} (hg:Gl X "range") (hm:X.mg "range"=none) (ha:PA X [a] ta) (hs:starEach [a] X.env=[(false,eval a X.env)]:=by rfl):PI X tg (.Call (.Name "range" p) [a] [] pos) (Bf8 ta):=by
 intro Aa s σ H R I h
 refine Call_ (Kp I hg hm boot_range (PyProof.Rows.callWith_type1 (thn (ha pos Aa s σ H _ I h) fun us s1 ⟨vs,H1,I1,r1,q1⟩=>?_) hs rfl))
 obtain⟨j,e,q1,q2,q⟩:=q1
 subst e
 cases r1 with
 | cons r rr =>
   cases rr
   obtain⟨t,rfl⟩:=r
   exact call_range_1 (Ze I1 (by omega) (by omega) q1 q2 (by simpa using q))
theorem Km {a b:Expr}{ta:TA}{p pos:Pos} (hg:Gl X "range") (hm:X.mg "range"=none) (ha:PA X [a,b] ta) (hs:starEach [a,b] X.env=[(false,eval a X.env),(false,eval b X.env)]:=by rfl) (hs2:starEach [b] X.env=[(false,eval b X.env)]:=by rfl) :
 PI X tg (.Call (.Name "range" p) [a,b] [] pos) (Bf7 ta):=by
 intro Aa s σ H R I h
 refine Call_ (Kp I hg hm boot_range (PyProof.Rows.callWith_type1 (thn (ha pos Aa s σ H _ I h) fun us s1 ⟨vs,H1,I1,r1,q1⟩=>?_) (by rw [hs,hs2]) (by rw [hs2];rfl)))
 obtain⟨i,j,e,⟨q1,q2,q3,q4⟩,q⟩:=q1
 subst e
 cases r1 with
 | cons r rr =>
   cases rr with
   | cons r' rr =>
     cases rr
     obtain⟨t,rfl⟩:=r
     obtain⟨t',rfl⟩:=r'
     exact call_range_2 (Ze I1 q1 q2 q3 q4 q)
def tFor (wi:TI) (g:TG) (tb:TS):TS:=fun D σ H=>wi σ H fun J H1=>∃ W:Nat->Nat->St->Hp->Prop,(∃ m,W 0 m σ H1)/\∀ i m σ H,W i m σ H →
 (J.stop i H/\D.nx σ H)\/(J.go i H/\∃ N:St->Hp->Prop,(∀ σ' H',N σ' H'->∃ m',m'<m/\W (i+1) m' σ' H')/\∀ x H',J.yld i H x H'->g x σ H' fun σ2 H2=>tb { D with nx:=N,ct:=N,bk:=D.nx } σ2 H2)
def U6 (fp:List Addr) (h:Heap):List (Addr × Obj):=fp.filterMap fun b=>(h.get? b).map fun o=>(b,o)
theorem Iu {fp:List Addr}{h:Heap}{b:Addr}{o:Obj} (hb:b∈fp) (e:h.get? b=some o):(b,o)∈U6 fp h:=List.mem_filterMap.mpr ⟨b,hb,by rw [e];rfl⟩
theorem Ae6 {fp:List Addr}{h:Heap}{p:Addr × Obj} (hp:p∈U6 fp h):p.1∈fp/\h.get? p.1=some p.2:=by
 obtain⟨b,hb,e⟩:=List.mem_filterMap.mp hp
 cases q:h.get? b with
 | none=>rw [q] at e;cases e
 | some o =>
   rw [q] at e
   have e':(b,o)=p:=Option.some.inj e
   subst e'
   exact ⟨hb,q⟩
theorem Inv.pinned {Aa:List (Addr × Obj)}{σ:St}{H:Hp}{s:Shared}{fp:List Addr} (I:Inv X Aa σ H s) (hf:∀ b∈fp,FpOk X Aa H b) (ho:∀ b∈fp,∃ o,s.heap.get? b=some o/\∀ v,o.data≠.cell v):Inv X (Aa++U6 fp s.heap) σ H s :=
 I.pins_of fun p hp=>(List.mem_append.mp hp).elim (fun z=>I.pin p (List.mem_append_right _ z)) fun z=>by
  obtain⟨hb,e⟩:=Ae6 z
  obtain⟨f0,f1,f2,_⟩:=hf p.1 hb
  obtain⟨o,e',d⟩:=ho p.1 hb
  rw [e] at e';cases e'
  exact ⟨e,f0,f1,f2,d⟩
theorem Inv.unpinned {Aa pl:List (Addr × Obj)}{σ:St}{H:Hp}{s:Shared} (I:Inv X (Aa++pl) σ H s):Inv X Aa σ H s:=I.pins_of fun p hp=>I.pin p (List.mem_append_right _ (List.mem_append_left _ hp))
theorem Ce {iter:Expr}{body:List Stmt}{wi:TI}{g:TG}{tb:TS}{pos:Pos} (hp:PassesOwn (model X.prog X.w) X.A X.env X.xe) (hc:X.calm=true) (hi:PI X tg iter wi) (hg:PG X tg g) (hb:PSs X body tb)
 (hs:∀ x,foldedSetIterable iter X.env x=pure x:=by intro _;rfl):PS X (.For tg iter body [] pos) (tFor wi g tb):=by
 intro Aa s σ H D I h
 refine wpAny_For (thn (hi Aa s σ H _ I h) fun v s1 h1=>thn h1 fun itv s2 h2=>?_) hs
 obtain⟨it,fp,tn,J,H2,e,I2,T,st2,f2,W,⟨m0,w0⟩,turn⟩:=h2
 subst e
 have stat:∀{H':Hp},(∀ b∈fp,H' b=none)->∀ b∈fp,FpOk X Aa H' b:=fun hn b hb=>⟨hn b hb,(f2 b hb).2⟩
 refine codeAny_forLoop_any (fun n s'=>∃ i σ' H',Inv X Aa σ' H' s'/\tn i s'.heap/\(∀ b∈fp,H' b=none)/\W i n σ' H') ?_ m0 ⟨0,σ,H2,I2,st2,fun b hb=>(f2 b hb).1,w0⟩
 rintro n s3 ⟨i,σ3,H3,I3,st3,fr3,w3⟩
 rcases turn i n σ3 H3 w3 with ⟨stop,qn⟩|⟨go,N,hN,step⟩
 . refine wpAny_passesOwn hp (thn (T.done X rfl rfl rfl hc i Aa s3 σ3 H3 X.xe I3 (stat fr3) st3 stop) fun r s4 ⟨hr,I4⟩=>?_)
   subst hr
   exact wpAny_execs_nil ⟨σ3,H3,I4,qn⟩
 . refine wpAny_passesOwn hp (thn (T.item X rfl rfl rfl hc i Aa s3 σ3 H3 X.xe I3 (stat fr3) st3 go) fun r s4 ⟨u,hr,h4⟩=>?_)
   subst hr
   refine wpAny_passesOwn hp (thn h4 fun _ s5 ⟨x,H5,I5,r5,y5,st5,fr5⟩=>?_)
   have I5':=I5.pinned (stat fr5) (T.obj _ _ st5)
   refine wpAny_passesOwn hp (thn (hg _ s5 σ3 H5 x u _ I5' r5 (step x H5 y5)) fun _ s6 ⟨σ6,H6,I6,q6⟩=>?_)
   refine wpAny_passesOwn hp (thn (hb _ s6 σ6 H6 _ I6 q6) fun f s7 q7=>?_)
   have again:∀{σ7:St}{H7:Hp},Inv X (Aa++U6 fp s5.heap) σ7 H7 s7->N σ7 H7->∃ m,m<n/\∃ i σ' H',Inv X Aa σ' H' s7/\tn i s7.heap/\(∀ b∈fp,H' b=none)/\W i m σ' H':=fun {σ7 H7} I7 n7=>by
    obtain⟨m',hm,w7⟩:=hN σ7 H7 n7
    refine⟨m',hm,i+1,σ7,H7,I7.unpinned,T.keep _ _ _ st5 fun b hb o e=>(I7.pin (b,o) (List.mem_append_right _ (List.mem_append_right _ (Iu hb e)))).1,fun b hb=>?_,w7⟩
    obtain⟨o,e,d⟩:=T.obj _ _ st5 b hb
    exact (I7.pin (b,o) (List.mem_append_right _ (List.mem_append_right _ (Iu hb e)))).2.1
   cases f with
   | next=>obtain⟨σ7,H7,I7,n7⟩:=q7;exact again I7 n7
   | cont=>obtain⟨σ7,H7,I7,n7⟩:=q7;exact again I7 n7
   | brk=>obtain⟨σ7,H7,I7,q7⟩:=q7;exact ⟨σ7,H7,I7.unpinned,q7⟩
   | ret v=>obtain⟨x7,σ7,H7,I7,r7,q7⟩:=q7;exact ⟨x7,σ7,H7,I7.unpinned,r7,q7⟩
end
theorem for_list {K:W.Frag}{a:Addr}{xs:List V}{g:TG}{tb:TS}{D:Ends}{σ:St}{H:Hp} (Pv:Nat->St->Hp->Prop) (h0:Pv 0 σ H) (hl:∀ i σ H,i<=xs.length->Pv i σ H->SqL K H a xs)
 (hs:∀ i x σ H,xs[i]?=some x->Pv i σ H->g x σ H fun σ2 H2=>tb { D with nx:=Pv (i+1),ct:=Pv (i+1),bk:=D.nx } σ2 H2) (hd:∀ σ H,Pv xs.length σ H->D.nx σ H) :
 ∃ W:Nat->Nat->St->Hp->Prop,(∃ m,W 0 m σ H)/\∀ i m σ H,W i m σ H →
   ((Itl K a).stop i H/\D.nx σ H)\/((Itl K a).go i H/\∃ N:St->Hp->Prop,(∀ σ' H',N σ' H'->∃ m',m'<m/\W (i+1) m' σ' H')/\∀ x H',(Itl K a).yld i H x H'->g x σ H' fun σ2 H2=>tb { D with nx:=N,ct:=N,bk:=D.nx } σ2 H2):=by
 refine⟨fun i m σ H=>m=xs.length-i/\i<=xs.length/\Pv i σ H,⟨xs.length,by simp,Nat.zero_le _,h0⟩,?_⟩
 rintro i m σ H ⟨rfl,hi,p⟩
 have q:=hl i σ H hi p
 by_cases hlt:i<xs.length
 . refine .inr ⟨⟨xs,xs[i],q,by simp [hlt]⟩,Pv (i+1),fun σ' H' p'=>⟨xs.length-(i+1),by omega,rfl,hlt,p'⟩,fun x H' y=>?_⟩
   obtain⟨e,y⟩:=y
   subst e
   exact hs i x σ _ (y xs q) p
 . have e:i=xs.length:=by omega
   subst e
   exact .inl ⟨⟨xs,q,Nat.le_refl _⟩,hd σ H p⟩
theorem Aj5 {K:W.Frag}{a:Addr}{xs:List V}{g:TG}{tb:TS}{D:Ends}{σ:St}{H:Hp} (Pv:Nat->St->Hp->Prop) (h0:Pv 0 σ H) (hl:∀ i σ H,i<=xs.length->Pv i σ H->SqT K H a xs)
 (hs:∀ i x σ H,xs[i]?=some x->Pv i σ H->g x σ H fun σ2 H2=>tb { D with nx:=Pv (i+1),ct:=Pv (i+1),bk:=D.nx } σ2 H2) (hd:∀ σ H,Pv xs.length σ H->D.nx σ H) :
 ∃ W:Nat->Nat->St->Hp->Prop,(∃ m,W 0 m σ H)/\∀ i m σ H,W i m σ H →
   ((Itt K a).stop i H/\D.nx σ H)\/((Itt K a).go i H/\∃ N:St->Hp->Prop,(∀ σ' H',N σ' H'->∃ m',m'<m/\W (i+1) m' σ' H')/\∀ x H',(Itt K a).yld i H x H'->g x σ H' fun σ2 H2=>tb { D with nx:=N,ct:=N,bk:=D.nx } σ2 H2):=by
 refine⟨fun i m σ H=>m=xs.length-i/\i<=xs.length/\Pv i σ H,⟨xs.length,by simp,Nat.zero_le _,h0⟩,?_⟩
 rintro i m σ H ⟨rfl,hi,p⟩
 have q:=hl i σ H hi p
 by_cases hlt:i<xs.length
 . refine .inr ⟨⟨xs,xs[i],q,by simp [hlt]⟩,Pv (i+1),fun σ' H' p'=>⟨xs.length-(i+1),by omega,rfl,hlt,p'⟩,fun x H' y=>?_⟩
   obtain⟨e,y⟩:=y
   subst e
   exact hs i x σ _ (y xs q) p
 . have e:i=xs.length:=by omega
   subst e
   exact .inl ⟨⟨xs,q,Nat.le_refl _⟩,hd σ H p⟩
theorem B6 {lo:Int}{n:Nat}{g:TG}{tb:TS}{D:Ends}{σ:St}{H:Hp} (Pv:Nat->St->Hp->Prop) (h0:Pv 0 σ H)
 (hs:∀ i σ H,i<n->Pv i σ H->g (.int (lo+i)) σ H fun σ2 H2=>tb { D with nx:=Pv (i+1),ct:=Pv (i+1),bk:=D.nx } σ2 H2) (hd:∀ σ H,Pv n σ H->D.nx σ H) :
 ∃ W:Nat->Nat->St->Hp->Prop,(∃ m,W 0 m σ H)/\∀ i m σ H,W i m σ H →
   ((Itr lo n).stop i H/\D.nx σ H)\/((Itr lo n).go i H/\∃ N:St->Hp->Prop,(∀ σ' H',N σ' H'->∃ m',m'<m/\W (i+1) m' σ' H')/\∀ x H',(Itr lo n).yld i H x H'->g x σ H' fun σ2 H2=>tb { D with nx:=N,ct:=N,bk:=D.nx } σ2 H2):=by
 refine⟨fun i m σ H=>m=n-i/\i<=n/\Pv i σ H,⟨n,by simp,Nat.zero_le _,h0⟩,?_⟩
 rintro i m σ H ⟨rfl,hi,p⟩
 by_cases hlt:i<n
 . refine .inr ⟨hlt,Pv (i+1),fun σ' H' p'=>⟨n-(i+1),by omega,rfl,hlt,p'⟩,fun x H' y=>?_⟩
   obtain⟨e,y⟩:=y
   subst e y
   exact hs i σ _ hlt p
 . have e:i=n:=by omega
   subst e
   exact .inl ⟨Nat.le_refl _,hd σ H p⟩
end L2
namespace L2
open PySem PySem.Spec PyProof.Rows
abbrev R2:=V->V->Hp->VK->Prop
def OpR (X:Cx) (f:Value->Value->Sem Value) (r:R2):Prop :=
 ∀ (Aa:List (Addr × Obj)) (s:Shared) (σ:St) (H:Hp) (x y:V) (v u:Value) (Q:VK),Inv X Aa σ H s->RelV x v->RelV y u->r x y H Q →
   wpAny (model X.prog X.w) X.A (f v u) (EP X Aa σ Q) X.xe s
def UnR (X:Cx) (f:Value->Sem Value) (r:V->Hp->VK->Prop):Prop :=
 ∀ (Aa:List (Addr × Obj)) (s:Shared) (σ:St) (H:Hp) (x:V) (v:Value) (Q:VK),Inv X Aa σ H s->RelV x v->r x H Q →
   wpAny (model X.prog X.w) X.A (f v) (EP X Aa σ Q) X.xe s
def F9 (X:Cx) (f:Value) (r:List V->Hp->VK->Prop):Prop :=
 ∀ (Aa:List (Addr × Obj)) (s:Shared) (σ:St) (H:Hp) (xs:List V) (us:List Value) (Q:VK),Inv X Aa σ H s->Vals xs us->r xs H Q →
   wpAny (model X.prog X.w) X.A (call f us) (EP X Aa σ Q) X.xe s
def tOp (r:R2) (ta tb:TE):TE:=fun σ H Q=>ta σ H fun x H1=>tb σ H1 fun y H2=>r x y H2 Q
def tUn (r:V->Hp->VK->Prop) (ta:TE):TE:=fun σ H Q=>ta σ H fun x H1=>r x H1 Q
def rI (C:Int->Int->Prop) (g:Int->Int->V):R2:=fun x y H Q=>∃ i j,x=.int i/\y=.int j/\C i j/\Q (g i j) H
def rI0 (g:Int->Int->V):R2:=fun x y H Q=>∃ i j,x=.int i/\y=.int j/\Q (g i j) H
def rU (g:Int->V):V->Hp->VK->Prop:=fun x H Q=>∃ i,x=.int i/\Q (g i) H
section
variable {X:Cx}{a b c:Expr}{ta tb tc:TE}{pos:Pos}
theorem binT (ha:PE X a ta) (hb:PE X b tb) {Aa:List (Addr × Obj)}{s:Shared}{σ:St}{H:Hp}{R:V->V->Hp->Prop} (I:Inv X Aa σ H s)
 (h:ta σ H fun x H1=>tb σ H1 fun y H2=>R x y H2) {Q:Value->Shared->Prop}{f:Value->Value->Sem Value}
 (hf:∀ v u s2 x y H2,Inv X Aa σ H2 s2->RelV x v->RelV y u->R x y H2->wpAny (model X.prog X.w) X.A (f v u) Q X.xe s2) :
 wpAny (model X.prog X.w) X.A (eval a X.env) (fun v s₁=>wpAny (model X.prog X.w) X.A (eval b X.env) (fun u s₂=>wpAny (model X.prog X.w) X.A (f v u) Q X.xe s₂) X.xe s₁) X.xe s:=by
 refine thn (ha Aa s σ H _ I h) fun v s1 ⟨x,H1,I1,r1,q1⟩=>?_
 refine thn (hb Aa s1 σ H1 _ I1 q1) fun u s2 ⟨y,H2,I2,r2,q2⟩=>?_
 exact hf v u s2 x y H2 I2 r1 r2 q2
theorem Az {op:Operator}{r:R2} (ho:OpR X (binaryOp op) r) (ha:PE X a ta) (hb:PE X b tb):PE X (.BinOp a op b pos) (tOp r ta tb):=by
 intro Aa s σ H Q I h
 exact wpAny_BinOp (binT ha hb I h fun v u s2 x y H2 I2 rx ry q=>ho Aa s2 σ H2 x y v u Q I2 rx ry q)
theorem Ad3 {op:UnaryOp}{r:V->Hp->VK->Prop} (ho:UnR X (unaryOp op) r) (ha:PE X a ta):PE X (.UnaryOp op a pos) (tUn r ta):=by
 intro Aa s σ H Q I h
 exact UnaryOp_ (thn (ha Aa s σ H _ I h) fun v s1 ⟨x,H1,I1,r1,q1⟩=>ho Aa s1 σ H1 x v Q I1 r1 q1)
theorem opI {f:Value->Value->Sem Value}{C:Int->Int->Prop}{g:Int->Int->Int}
 (rule:∀ (i j:Int) (t u:Tok) (s:Shared) (Q:Value->Shared->Prop) (E:Value->Shared->Prop),C i j->Q (.int (g i j) s.toks) { s with toks:=s.toks+1 }->wpAny (model X.prog X.w) X.A (f (.int i t) (.int j u)) Q E s) :
 OpR X f (rI C fun i j=>.int (g i j)):=by
 intro Aa s σ H x y v u Q I rx ry h
 obtain⟨i,j,rfl,rfl,hc,q⟩:=h
 obtain⟨t,rfl⟩:=rx
 obtain⟨t',rfl⟩:=ry
 exact rule i j t t' s _ _ hc ⟨.int (g i j),H,I.tok _,⟨_,rfl⟩,q⟩
theorem opI0 {f:Value->Value->Sem Value}{g:Int->Int->Int}
 (rule:∀ (i j:Int) (t u:Tok) (s:Shared) (Q:Value->Shared->Prop) (E:Value->Shared->Prop),Q (.int (g i j) s.toks) { s with toks:=s.toks+1 }->wpAny (model X.prog X.w) X.A (f (.int i t) (.int j u)) Q E s) :
 OpR X f (rI0 fun i j=>.int (g i j)):=by
 intro Aa s σ H x y v u Q I rx ry h
 obtain⟨i,j,rfl,rfl,q⟩:=h
 obtain⟨t,rfl⟩:=rx
 obtain⟨t',rfl⟩:=ry
 exact rule i j t t' s _ _ ⟨.int (g i j),H,I.tok _,⟨_,rfl⟩,q⟩
theorem opB0 {f:Value->Value->Sem Value}{g:Int->Int->Bool}
 (rule:∀ (i j:Int) (t u:Tok) (s:Shared) (Q:Value->Shared->Prop) (E:Value->Shared->Prop),Q (.bool (g i j)) s->wpAny (model X.prog X.w) X.A (f (.int i t) (.int j u)) Q E s) :
 OpR X f (rI0 fun i j=>.bl (g i j)):=by
 intro Aa s σ H x y v u Q I rx ry h
 obtain⟨i,j,rfl,rfl,q⟩:=h
 obtain⟨t,rfl⟩:=rx
 obtain⟨t',rfl⟩:=ry
 exact rule i j t t' s _ _ ⟨.bl (g i j),H,I,rfl,q⟩
def CDiv (i j:Int):Prop:=0<j/\j<1073741824
def CMul (i j:Int):Prop:=(-(2 ^ 64)<i/\i<2 ^ 64)\/(-(2 ^ 64)<j/\j<2 ^ 64)
theorem CMul.ok {i j:Int} (h:CMul i j):IntMulOk i j:=by
 rcases h with ⟨h1,h2⟩|⟨h1,h2⟩
 . exact .of_left (intBits_le_64 h1 h2)
 . exact .of_right (intBits_le_64 h1 h2)
theorem Dw:OpR X (binaryOp .Add) (rI0 fun i j=>.int (i+j)):=opI0 fun _ _ _ _ _ _ _ q=>add_int q
theorem Gf:OpR X (binaryOp .Sub) (rI0 fun i j=>.int (i-j)):=opI0 fun _ _ _ _ _ _ _ q=>sub_int q
theorem Fv:OpR X (binaryOp .FloorDiv) (rI CDiv fun i j=>.int (i / j)):=opI fun i j _ _ _ _ _ hc q=>by
 have h1:(0:Int)<j:=hc.1
 have h2:j<1073741824:=hc.2
 exact floordiv_int (by omega) (by rw [Int.fdiv_eq_ediv_of_nonneg i (by omega)];exact q) (.inl (PyProof.noPylong_small (by omega)))
theorem Bh:OpR X (binaryOp .Mod) (rI (fun _ j=>0<j) fun i j=>.int (i%j)):=opI fun i j _ _ _ _ _ hc q=>by
 have h1:(0:Int)<j:=hc
 exact mod_int' (by omega) (by rw [Int.fmod_eq_emod_of_nonneg i (by omega)];exact q)
theorem unI {f:Value->Sem Value}{g:Int->Int}
 (rule:∀ (i:Int) (t:Tok) (s:Shared) (Q:Value->Shared->Prop) (E:Value->Shared->Prop),Q (.int (g i) s.toks) { s with toks:=s.toks+1 }->wpAny (model X.prog X.w) X.A (f (.int i t)) Q E s) :
 UnR X f (rU fun i=>.int (g i)):=by
 intro Aa s σ H x v Q I rx h
 obtain⟨i,rfl,q⟩:=h
 obtain⟨t,rfl⟩:=rx
 exact rule i t s _ _ ⟨.int (g i),H,I.tok _,⟨_,rfl⟩,q⟩
theorem Uo:UnR X (unaryOp .USub) (rU fun i=>.int (-i)):=unI fun _ _ _ _ _ q=>neg_int q
end
def scal:V->V->Bool
 | .non,.non=>true | .non,.int _=>true | .int _,.non=>true | .non,.bl _=>true | .bl _,.non=>true | .non,.str _=>true | .str _,.non=>true
 | .int _,.int _=>true | .bl _,.bl _=>true | .str _,.str _=>true | .byt _,.byt _=>true
 | .int _,.str _=>true | .str _,.int _=>true | .bl _,.str _=>true | .str _,.bl _=>true
 | _,_=>false
def rEq:R2:=fun x y H Q=>scal x y=true/\Q (.bl (decide (x=y))) H
def rNe:R2:=fun x y H Q=>scal x y=true/\Q (.bl (!decide (x=y))) H
theorem Ak9 {i j:Int}:decide (V.int i=V.int j)=(i==j):=by
 rw [Bool.eq_iff_iff]
 simp
theorem Ay4 {i j:Bool}:decide (V.bl i=V.bl j)=(i==j):=by
 rw [Bool.eq_iff_iff]
 simp
theorem Ak8 {i j:Str}:decide (V.str i=V.str j)=(i==j):=by
 rw [Bool.eq_iff_iff]
 simp
theorem Al0 {i j:Array UInt8}:decide (V.byt i=V.byt j)=(i.toList==j.toList):=by
 rw [Bool.eq_iff_iff]
 cases i
 cases j
 simp
section
variable {X:Cx}{a b c:Expr}{ta tb tc:TE}{pos:Pos}
theorem Bd {Aa:List (Addr × Obj)}{σ:St}{H:Hp}{s:Shared}{Q:VK}{k k':Bool} (I:Inv X Aa σ H s) (q:Q (.bl k) H) (e:k=k'):EP X Aa σ Q (.bool k') s:=by
 subst e
 exact ⟨.bl k,H,I,rfl,q⟩
theorem Do:OpR X (compareOp .Eq) rEq:=by
 intro Aa s σ H x y v u Q I rx ry h
 obtain⟨hs,q⟩:=h
 cases x with
 | non =>
   cases rx
   cases y with
   | non=>cases ry;exact PySem.EqNone.eq_none_none (Bd I q (by simp))
   | bl j=>cases ry;exact PySem.EqNone.eq_none_bool (Bd I q (by simp))
   | int j=>obtain⟨t',rfl⟩:=ry;exact PySem.EqNone.eq_none_int (Bd I q (by simp))
   | str j=>obtain⟨t',rfl⟩:=ry;exact PySem.EqNone.eq_none_str (Bd I q (by simp))
   | _=>exact absurd (show false=true from hs) Bool.false_ne_true
 | bl i =>
   cases rx
   cases y with
   | non=>cases ry;exact PySem.EqNone.eq_bool_none (Bd I q (by simp))
   | bl j=>cases ry;exact eq_bool (Bd I q Ay4)
   | str j=>obtain⟨t',rfl⟩:=ry;exact PySem.EqMixed.eq_bool_str (Bd I q (by simp))
   | _=>exact absurd (show false=true from hs) Bool.false_ne_true
 | int i =>
   obtain⟨t,rfl⟩:=rx
   cases y with
   | non=>cases ry;exact PySem.EqNone.eq_int_none (Bd I q (by simp))
   | int j=>obtain⟨t',rfl⟩:=ry;exact eq_int (Bd I q Ak9)
   | str j=>obtain⟨t',rfl⟩:=ry;exact PySem.EqMixed.eq_int_str (Bd I q (by simp))
   | _=>exact absurd (show false=true from hs) Bool.false_ne_true
 | str i =>
   obtain⟨t,rfl⟩:=rx
   cases y with
   | non=>cases ry;exact PySem.EqNone.eq_str_none (Bd I q (by simp))
   | bl j=>cases ry;exact PySem.EqMixed.eq_str_bool (Bd I q (by simp))
   | int j=>obtain⟨t',rfl⟩:=ry;exact PySem.EqMixed.eq_str_int (Bd I q (by simp))
   | str j=>obtain⟨t',rfl⟩:=ry;exact eq_str (Bd I q Ak8)
   | _=>exact absurd (show false=true from hs) Bool.false_ne_true
 | byt i =>
   obtain⟨t,rfl⟩:=rx
   cases y with
   | byt j=>obtain⟨t',rfl⟩:=ry;exact PySem.W.eq_bytes (Bd I q Al0)
   | _=>exact absurd (show false=true from hs) Bool.false_ne_true
 | _=>cases y<;>exact absurd (show false=true from hs) Bool.false_ne_true
theorem Ta:OpR X (compareOp .NotEq) rNe:=by
 intro Aa s σ H x y v u Q I rx ry h
 obtain⟨hs,q⟩:=h
 cases x with
 | non =>
   cases rx
   cases y with
   | non=>cases ry;exact PySem.EqNone.ne_none_none (Bd I q (by simp))
   | bl j=>cases ry;exact PySem.EqNone.ne_none_bool (Bd I q (by simp))
   | int j=>obtain⟨t',rfl⟩:=ry;exact PySem.EqNone.ne_none_int (Bd I q (by simp))
   | str j=>obtain⟨t',rfl⟩:=ry;exact PySem.EqNone.ne_none_str (Bd I q (by simp))
   | _=>exact absurd (show false=true from hs) Bool.false_ne_true
 | bl i =>
   cases rx
   cases y with
   | non=>cases ry;exact PySem.EqNone.ne_bool_none (Bd I q (by simp))
   | bl j=>cases ry;exact ne_bool (Bd I q (congrArg not Ay4))
   | str j=>obtain⟨t',rfl⟩:=ry;exact PySem.EqMixed.ne_bool_str (Bd I q (by simp))
   | _=>exact absurd (show false=true from hs) Bool.false_ne_true
 | int i =>
   obtain⟨t,rfl⟩:=rx
   cases y with
   | non=>cases ry;exact PySem.EqNone.ne_int_none (Bd I q (by simp))
   | int j=>obtain⟨t',rfl⟩:=ry;exact ne_int (Bd I q (congrArg not Ak9))
   | str j=>obtain⟨t',rfl⟩:=ry;exact PySem.EqMixed.ne_int_str (Bd I q (by simp))
   | _=>exact absurd (show false=true from hs) Bool.false_ne_true
 | str i =>
   obtain⟨t,rfl⟩:=rx
   cases y with
   | non=>cases ry;exact PySem.EqNone.ne_str_none (Bd I q (by simp))
   | bl j=>cases ry;exact PySem.EqMixed.ne_str_bool (Bd I q (by simp))
   | int j=>obtain⟨t',rfl⟩:=ry;exact PySem.EqMixed.ne_str_int (Bd I q (by simp))
   | str j=>obtain⟨t',rfl⟩:=ry;exact ne_str (Bd I q (congrArg not Ak8))
   | _=>exact absurd (show false=true from hs) Bool.false_ne_true
 | byt i =>
   obtain⟨t,rfl⟩:=rx
   cases y with
   | byt j=>obtain⟨t',rfl⟩:=ry;exact PySem.W.ne_bytes (Bd I q (congrArg not Al0))
   | _=>exact absurd (show false=true from hs) Bool.false_ne_true
 | _=>cases y<;>exact absurd (show false=true from hs) Bool.false_ne_true
theorem Na:OpR X (compareOp .Lt) (rI0 fun i j=>.bl (decide (i<j))):=opB0 fun _ _ _ _ _ _ _ q=>lt_int q
theorem A91:OpR X (compareOp .LtE) (rI0 fun i j=>.bl (decide (i<=j))):=opB0 fun _ _ _ _ _ _ _ q=>le_int q
theorem Xr:OpR X (compareOp .Gt) (rI0 fun i j=>.bl (decide (j<i))):=opB0 fun _ _ _ _ _ _ _ q=>gt_int q
theorem A93:OpR X (compareOp .GtE) (rI0 fun i j=>.bl (decide (j<=i))):=opB0 fun _ _ _ _ _ _ _ q=>ge_int q
theorem Ax0:OpR X (compareOp .Is) (fun x y H Q=>y=.non/\Q (.bl (decide (x=.non))) H):=by
 intro Aa s σ H x y v u Q I rx ry h
 obtain⟨rfl,q⟩:=h
 cases ry
 refine is_none_gen (Bd I q ?_)
 cases x<;>first
  | (cases rx;rfl)
  | (obtain⟨t,rfl⟩:=rx;rfl)
theorem A17:OpR X (compareOp .IsNot) (fun x y H Q=>y=.non/\Q (.bl (!decide (x=.non))) H):=by
 intro Aa s σ H x y v u Q I rx ry h
 obtain⟨rfl,q⟩:=h
 cases ry
 refine isnot_none_gen (Bd I q ?_)
 cases x<;>first
  | (cases rx;rfl)
  | (obtain⟨t,rfl⟩:=rx;rfl)
theorem Ay (b:Expr) {op:CmpOp} (h:op≠.In:=by decide) (h2:op≠.NotIn:=by decide):behindInMarks op b=false:=by
 have e1:(op==CmpOp.In)=false:=by cases op<;>first | rfl | exact absurd rfl h
 have e2:(op==CmpOp.NotIn)=false:=by cases op<;>first | rfl | exact absurd rfl h2
 cases b<;>simp [behindInMarks,e1,e2]
theorem Lk {op:CmpOp}{r:R2} (ho:OpR X (compareOp op) r) (ha:PE X a ta) (hb:PE X b tb) (hm:behindInMarks op b=false):PE X (.Compare a [op] [b] pos) (tOp r ta tb):=by
 intro Aa s σ H Q I h
 exact wpAny_Compare1 (binT ha hb I h fun v u s2 x y H2 I2 rx ry q=>ho Aa s2 σ H2 x y v u Q I2 rx ry q) hm
def Bd6 (t:TE):TT:=fun σ H Q=>t σ H fun x H'=>∃ k,x=.bl k/\Q k H'
theorem Ao {op:CmpOp}{r:R2} (ho:OpR X (compareOp op) r) (ha:PE X a ta) (hb:PE X b tb) (hm:behindInMarks op b=false):PT X (.Compare a [op] [b] pos) (Bd6 (tOp r ta tb)):=by
 intro Aa s σ H Q I h
 refine wpAny_isTrue_Compare1 (thn (ha Aa s σ H _ I h) fun v s1 ⟨x,H1,I1,r1,q1⟩=>thn (hb Aa s1 σ H1 _ I1 q1) fun u s2 ⟨y,H2,I2,r2,q2⟩ =>
  thn (ho Aa s2 σ H2 x y v u _ I2 r1 r2 q2) fun c s3 ⟨z,H3,I3,r3,k,e,q3⟩=>?_) hm
 subst e
 cases r3
 exact wpAny_truthy_bool ⟨H3,I3,q3⟩
def A71 (r r':R2) (ta tb tc:TE):TE:=fun σ H Q=>ta σ H fun x H1=>tb σ H1 fun y H2=>r x y H2 fun z H3=>∃ k,z=.bl k ∧
 (if k=true then tc σ H3 fun w' H4=>r' y w' H4 Q else Q (.bl false) H3)
theorem Ar9 {op op':CmpOp}{r r':R2} (ho:OpR X (compareOp op) r) (ho':OpR X (compareOp op') r') (ha:PE X a ta) (hb:PE X b tb) (hc:PE X c tc)
 (hm:lastMarks [op,op'] [b,c]=false:=by with_unfolding_all rfl):PE X (.Compare a [op,op'] [b,c] pos) (A71 r r' ta tb tc):=by
 intro Aa s σ H Q I h
 refine Compare_chain (thn (ha Aa s σ H _ I h) fun v s1 ⟨x,H1,I1,r1,q1⟩=>chain_link (thn (hb Aa s1 σ H1 _ I1 q1) fun u s2 ⟨y,H2,I2,r2,q2⟩ =>
  thn (ho Aa s2 σ H2 x y v u _ I2 r1 r2 q2) fun d s3 ⟨z,H3,I3,r3,k,e,q3⟩=>?_)) hm
 subst e
 cases r3
 refine wpAny_truthy_bool ?_
 cases k with
 | false=>exact ite_ff ⟨.bl false,H3,I3,rfl,q3⟩
 | true=>exact ite_tt (chain_last (thn (hc Aa s3 σ H3 _ I3 q3) fun w' s4 ⟨z',H4,I4,r4,q4⟩=>ho' Aa s4 σ H4 y z' u w' Q I4 r2 r4 q4))
theorem Vn:(sizeLine:Nat)<2 ^ 63:=by rw [sizeLine_eq];decide
theorem Um {x:V}{us:List Value} (r:Vals [x] us):∃ u,us=[u]/\RelV x u:=by
 cases r with
 | cons r1 r2=>cases r2;exact ⟨_,rfl,r1⟩
theorem Ap6 {x y:V}{us:List Value} (r:Vals [x,y] us):∃ u w',us=[u,w']/\RelV x u/\RelV y w':=by
 cases r with
 | cons r1 r2 =>
   cases r2 with
   | cons r3 r4=>cases r4;exact ⟨_,_,rfl,r1,r3⟩
theorem Wj (hc:X.calm=true):F9 X (.builtin "max") (fun xs H Q=>∃ i j,xs=[.int i,.int j]/\Q (.int (if j > i then j else i)) H):=by
 intro Aa s σ H xs us Q I r h
 obtain⟨i,j,rfl,q⟩:=h
 obtain⟨u,w',rfl,⟨t,rfl⟩,⟨t',rfl⟩⟩:=Ap6 r
 refine max_two_ints (I.ok.hd hc) fun h' tk k=>⟨_,H,I.kept k,?_,q⟩
 by_cases hj:j > i
 . rw [if_pos hj,if_pos hj];exact ⟨_,rfl⟩
 . rw [if_neg hj,if_neg hj];exact ⟨_,rfl⟩
end
end L2
namespace L2
open PySem PySem.Spec PyProof.Rows
structure ObjM (h:Heap) (x dx C:Addr) (mA:Str->Option Value):Prop where
 obj:h.get? x=some (PySem.W.instObj C dx)
 ns:h.Ns1 dx mA
 ne:dx≠x
theorem Ag9 {h:Heap}{dx:Addr}{mA:Str->Option Value} (n:h.Ns1 dx mA):∃ od,h.get? dx=some od/\∀ name,PySem.W.lookIn name od=some (mA name):=by
 obtain⟨o,es,ep,ho,hd,hk,_,hm⟩:=n
 refine⟨o,ho,fun name=>?_⟩
 have e:=hm name
 unfold nsFind findBy at e
 rw [←Array.find?_toList] at e
 unfold PySem.W.lookIn
 rw [hd]
 dsimp only
 split
 . rename_i y q
   rw [q] at e
   exact congrArg some e
 . rename_i q
   rw [q] at e
   have a:es.toList.any (·.refKey)=false:=by
    rw [List.any_eq_false]
    intro y hy
    obtain⟨z,t,hkey⟩:=hk y (Array.mem_toList_iff.mp hy)
    simp [DictEntry.refKey,hkey]
   have a':¬es.toList.any (·.refKey)=true:=by rw [a];exact Bool.false_ne_true
   rw [if_neg a']
   exact congrArg some e
theorem ObjM.look {h:Heap}{x dx C:Addr}{mA:Str->Option Value} (I:ObjM h x dx C mA):∃ od,PySem.W.InstAt h x (PySem.W.instObj C dx) C (some od)/\∀ name,PySem.W.lookIn name od=some (mA name) :=
 let ⟨od,ho,hl⟩:=Ag9 I.ns
 ⟨od,⟨I.obj,rfl,rfl,ho⟩,hl⟩
section
variable {prog:Program}{w:World}{A:Around}{E:Value->Shared->Prop}{s:Shared}{K:W.Frag}{x dx C f:Addr}{mA:Str->Option Value}{name:Str}{v:Value}
theorem A43 {expr:Bool}{Q:Value->Shared->Prop} (X:K.In s.heap) (I:ObjM s.heap x dx C mA) (hg:PySem.W.plainGet K C name=true) (hh:PySem.W.hasDictIn K C=true)
 (ha:PySem.W.findIn K (.ref C) name=some none) (hv:mA name=some v) (hv':PySem.W.handedIn v=true) (h:Q v { s with toks:=s.toks+1 }) :
 wpAny (model prog w) A (getAttr (.ref x) name expr) Q E s:=by
 obtain⟨od,J,hl⟩:=I.look
 exact PySem.W.get_value X J (PySem.W.plainGet_of hg).1 (PySem.W.findObj_own hh ha rfl (by rw [hl,hv])) hv' h
theorem Au5 {pl:Sem Bool}{Q:Value × List Value->Shared->Prop} (X:K.In s.heap) (I:ObjM s.heap x dx C mA) (hg:PySem.W.plainGet K C name=true)
 (hf:PySem.W.findIn K (.ref C) name=some (some (.ref f))) (ht:PySem.W.isFn K (.ref f)=true) (hv:mA name=none) (h:Q (.ref f,[.ref x]) s) :
 wpAny (model prog w) A (getMethod (.ref x) name pl) Q E s:=by
 obtain⟨od,J,hl⟩:=I.look
 exact PySem.W.method_fn X J (PySem.W.plainGet_of hg).1 (PySem.W.plainGet_of hg).2 hf (beq_iff_eq.mp ht) (by show (PySem.W.lookIn name od).map (·.isSome)=some false;rw [hl,hv];rfl) h
theorem Az8 {ns:List Str}{Q:Unit->Shared->Prop} (X:K.In s.heap) (I:ObjM s.heap x dx C mA)
 (hs:PySem.W.findIn K (.ref C) "__setattr__"=some (some (.builtin "object.__setattr__"))) (hp:PySem.W.plainOver K C=true) (ht:PySem.W.takerIn K C name=some none) (hh:PySem.W.hasDictIn K C=true)
 (hw:PySem.Within mA ns) (hsz:ns.length<=sizeLine)
 (h:∀ h',ObjM h' x dx C (fun y=>if y=name then some v else mA y)->Heap.SameBut dx s.heap h'->Q () { s with heap:=h',toks:=s.toks+2 }) :
 wpAny (model prog w) A (setAttr (.ref x) name v) Q E s:=by
 obtain⟨od,J,hl⟩:=I.look
 refine PySem.W.set_plain X J hs (PySem.W.osa_open (s:={ s with toks:=s.toks+1 }) (r:=none) X J hp ht fun b=>?_)
 obtain⟨cd,hc,hd'⟩:=PySem.W.any_some hh
 have hx:s.heap.get? x=some ⟨.ref C,some dx,.plain,#[]⟩:=I.obj
 refine wpAny_bind (wpAny_pure (wpAny_bind (wpAny_bind (wpAny_loadPart hx (wpAny_bind (PySem.W.Looks.here (s:={ s with toks:=s.toks+1 }) (PySem.W.looks_clsIn X hc) ?_))))))
 rw [hd']
 refine wpAny_pure (a:=some dx) (wpAny_bind (wpAny_pure (wpAny_bind ?_)))
 refine wpAny_nsSet1 (s:={ s with toks:=s.toks+1 }) I.ns fun h' hn2 hs2=>?_
 obtain⟨oD,esD,epD,hoD,hdD,hcD⟩:=hn2.count (PySem.Within.cons name v hw)
 refine wpAny_bind (wpAny_lookBehind hoD (by rw [hdD];exact pastItsLine_dict (Nat.le_trans hcD (by rw [List.length_cons];omega))) ?_)
 exact wpAny_pure (h _ ⟨(hs2.2 _ (Ne.symm I.ne)).trans I.obj,hn2,I.ne⟩ hs2)
theorem At7 {R:Result->Shared->Prop}{vs:List Value}{kw:List (Str × Value)} (X:K.In s.heap) (hm:PySem.W.makesIn K C=true)
 (hi:PySem.W.findIn K (.ref C) "__init__"=some (some (.ref f))) (hf:PySem.W.typeIn K (.ref f)=some (.type "function"))
 (h:codeAny (model prog w) (A.under (.builtin "type.__call__" ⟨.ref C::vs,kw⟩)) (.call (.ref f) ⟨.ref (s.heap.objs.size+1)::vs,kw⟩) (PySem.W.InitBack (s.heap.objs.size+1) R)
   { s with heap:=(s.heap.push PySem.W.emptyDict).push (PySem.W.instObj C s.heap.objs.size) }) :
 codeAny (model prog w) A (.call (.ref C) ⟨vs,kw⟩) R s:=by
 obtain⟨hh,g,d,t,os⟩:=s
 exact PySem.W.make_core (PySem.W.makes_of X hm) (PySem.W.looks_findIn X hi) (fun self=>PySem.W.bind_fn X self hf) (.inl rfl) h
end
def putF (f:Str) (v:V):List (Str × V)->List (Str × V)
 | []=>[(f,v)]
 | (g,x)::r=>if g=f then (g,v)::r else (g,x)::putF f v r
theorem Fy (f g:Str) (v:V):∀ fs:List (Str × V),(putF f v fs).lookup g=if g=f then some v else fs.lookup g
 | []=>by
   show List.lookup g [(f,v)]=_
   by_cases h:g=f
   . have hb:(g==f)=true:=beq_iff_eq.mpr h
     simp only [List.lookup,hb,if_pos h]
   . have hb:(g==f)=false:=beq_eq_false_iff_ne.mpr h
     simp only [List.lookup,hb,if_neg h]
 | (k,x)::r=>by
   have ih:=Fy f g v r
   rw [show putF f v ((k,x)::r)=(if k=f then (k,v)::r else (k,x)::putF f v r) from rfl]
   by_cases hk:k=f
   . rw [if_pos hk]
     by_cases h:g=k
     . have hb:(g==k)=true:=beq_iff_eq.mpr h
       simp only [List.lookup,hb,if_pos (h.trans hk)]
     . have hb:(g==k)=false:=beq_eq_false_iff_ne.mpr h
       simp only [List.lookup,hb,if_neg (fun e:g=f=>h (e.trans hk.symm))]
   . rw [if_neg hk]
     by_cases h:g=k
     . have hb:(g==k)=true:=beq_iff_eq.mpr h
       simp only [List.lookup,hb,if_neg (fun e:g=f=>hk (h.symm.trans e))]
     . have hb:(g==k)=false:=beq_eq_false_iff_ne.mpr h
       simp only [List.lookup,hb]
       exact ih
theorem Ov (f:Str) (v:V):∀ fs:List (Str × V),f∈(putF f v fs).map (·.1)/\∀ g,g∈fs.map (·.1)->g∈(putF f v fs).map (·.1)
 | []=>⟨by simp [putF],fun g h=>by simp at h⟩
 | (k,x)::r=>by
   obtain⟨i1,i2⟩:=Ov f v r
   rw [show putF f v ((k,x)::r)=(if k=f then (k,v)::r else (k,x)::putF f v r) from rfl]
   by_cases hk:k=f
   . rw [if_pos hk]
     subst hk
     exact ⟨by simp,fun g h=>by simpa using h⟩
   . rw [if_neg hk]
     refine⟨?_,fun g h=>?_⟩
     . rw [List.map_cons]
       exact List.mem_cons_of_mem _ i1
     . rw [List.map_cons] at h ⊢
       rcases List.mem_cons.mp h with e | e
       . exact List.mem_cons.mpr (.inl e)
       . exact List.mem_cons_of_mem _ (i2 g e)
theorem J3 (f:Str) (v:V):∀ fs:List (Str × V),(putF f v fs).length<=fs.length+1
 | []=>by simp [putF]
 | (k,x)::r=>by
   have ih:=J3 f v r
   rw [show putF f v ((k,x)::r)=(if k=f then (k,v)::r else (k,x)::putF f v r) from rfl]
   by_cases hk:k=f
   . rw [if_pos hk,List.length_cons,List.length_cons];omega
   . rw [if_neg hk,List.length_cons,List.length_cons];omega
theorem RelO.some_of {v:V}{o:Option Value} (r:RelO (some v) o):∃ u,o=some u/\RelV v u:=by
 cases o with
 | none=>exact (show False from r).elim
 | some u=>exact ⟨u,rfl,r⟩
theorem RelO.none_of {o:Option Value} (r:RelO none o):o=none:=by
 cases o with
 | none=>rfl
 | some u=>exact (show False from r).elim
theorem Ai7 {v:V}{u:Value} (r:RelV v u):PySem.W.handedIn u=true:=by
 cases v with
 | non=>cases (show u=Value.none from r);rfl
 | bl b=>cases (show u=Value.bool b from r);rfl
 | int i=>obtain⟨t,e⟩:=(show ∃ t,u=Value.int i t from r);cases e;rfl
 | str x=>obtain⟨t,e⟩:=(show ∃ t,u=Value.str x t from r);cases e;rfl
 | byt b=>obtain⟨t,e⟩:=(show ∃ t,u=Value.bytes b t from r);cases e;rfl
 | flt b=>obtain⟨t,e⟩:=(show ∃ t,u=Value.float b t from r);cases e;rfl
 | ref a=>cases (show u=Value.ref a from r);rfl
 | ty n=>cases (show u=Value.type n from r);rfl
section
variable {P:Program}{w:World}{H H':Hp}{h h':Heap}{a C dx:Addr}{fs fs':List (Str × V)}
theorem Yh (hok:HOk P w H h) (e:H a=some (.ins C dx fs)):∃ mA,ObjM h a dx C mA/\(∀ f,RelO (fs.lookup f) (mA f))/\PySem.Within mA (fs.map (·.1))/\fs.length<=1000/\H dx=some (.own a):=by
 obtain⟨d,z,ne,ob,mA,n,r,q⟩:=(show ObjOk P w H h a (.ins C dx fs) from hok a _ e)
 exact ⟨mA,⟨ob,n,ne⟩,r,q,z,d⟩
end
structure Cls (K:W.Frag) (C:Addr):Prop where
 pg:PySem.W.plainGet K C Str.empty=true
 hd:PySem.W.hasDictIn K C=true
 po:PySem.W.plainOver K C=true
 sa:PySem.W.findIn K (.ref C) "__setattr__"=some (some (.builtin "object.__setattr__"))
theorem Cls.get {K:W.Frag}{C:Addr} (c:Cls K C) (f:Str):PySem.W.plainGet K C f=true:=c.pg
def NoAttr (K:W.Frag) (C:Addr) (f:Str):Prop:=PySem.W.findIn K (.ref C) f=some none
theorem NoAttr.taker {K:W.Frag}{C:Addr}{f:Str} (n:NoAttr K C f):PySem.W.takerIn K C f=some none:=by
 unfold PySem.W.takerIn
 rw [show PySem.W.findIn K (.ref C) f=some none from n]
 rfl
structure Meth (K:W.Frag) (C:Addr) (m:Str) (f:Addr):Prop where
 at_:PySem.W.findIn K (.ref C) m=some (some (.ref f))
 fn:PySem.W.isFn K (.ref f)=true
 kp:PySem.W.keepIn K (.ref f)=true
section
variable {X:Cx}{Aa:List (Addr × Obj)}{σ:St}{H:Hp}{s:Shared}{a C dx:Addr}{fs:List (Str × V)}{f:Str}{v:V}{A:Around}{E:Value->Shared->Prop}
theorem m9 {b:Bool}{Q:Value->Shared->Prop} (I:Inv X Aa σ H s) (e:H a=some (.ins C dx fs)) (c:Cls X.K C) (n:NoAttr X.K C f) (l:fs.lookup f=some v)
 (h:∀ u s',Inv X Aa σ H s'->RelV v u->Q u s'):wpAny (model X.prog X.w) A (getAttr (.ref a) f b) Q E s:=by
 obtain⟨mA,O,r,_,_,_⟩:=Yh I.hok e
 obtain⟨u,hu,ru⟩:=RelO.some_of (v:=v) (o:=mA f) (by rw [←l];exact r f)
 exact A43 I.kIn O (c.get f) c.hd n hu (Ai7 ru) (h u _ (I.tok _) ru)
theorem L6 {m:Str}{g:Addr}{pl:Sem Bool}{Q:Value × List Value->Shared->Prop} (I:Inv X Aa σ H s) (e:H a=some (.ins C dx fs)) (c:Cls X.K C) (k:Meth X.K C m g) (l:fs.lookup m=none)
 (h:Q (.ref g,[.ref a]) s):wpAny (model X.prog X.w) A (getMethod (.ref a) m pl) Q E s:=by
 obtain⟨mA,O,r,_,_,_⟩:=Yh I.hok e
 have hn:mA m=none:=RelO.none_of (by rw [←l];exact r m)
 exact Au5 I.kIn O (c.get m) k.at_ k.fn hn h
theorem b6 {y:V}{u:Value}{Q:Unit->Shared->Prop} (I:Inv X Aa σ H s) (e:H a=some (.ins C dx fs)) (c:Cls X.K C) (n:NoAttr X.K C f) (hl:fs.length<1000) (ry:RelV y u)
 (h:∀ s',Inv X Aa σ (upd H a (.ins C dx (putF f y fs))) s'->Q () s'):wpAny (model X.prog X.w) A (setAttr (.ref a) f u) Q E s:=by
 obtain⟨mA,O,r,wi,_,ho⟩:=Yh I.hok e
 have hz:(fs.map (·.1)).length<=sizeLine:=by rw [List.length_map,sizeLine_eq];omega
 refine Az8 I.kIn O c.sa c.po n.taker c.hd wi hz fun h' O' sb=>h _ ?_
 have hd:∃ o,h'.get? dx=some o:=let ⟨o,_,_,e',_⟩:=O'.ns;⟨o,e'⟩
 refine I.write (x:=a) (e:=dx) (by rw [e];exact True.intro) (.inr ho) (fun b q hb z=>(sb.2 b hb).trans z) hd ?_
 refine⟨by rw [Ah O.ne];exact ho,?_,O.ne,O'.obj,_,O'.ns,fun g=>?_,fun g hg=>?_⟩
 . have:=J3 f y fs;omega
 . show RelO ((putF f y fs).lookup g) (if g=f then some u else mA g)
   rw [Fy]
   by_cases q:g=f
   . rw [if_pos q,if_pos q];exact ry
   . rw [if_neg q,if_neg q];exact r g
 . by_cases q:g=f
   . rw [q];exact (Ov f y fs).1
   . refine (Ov f y fs).2 g (wi g fun z=>hg ?_)
     show (if g=f then some u else mA g)=none
     rw [if_neg q];exact z
theorem Inv.made (I:Inv X Aa σ H s):Inv X Aa σ (upd (upd H s.heap.objs.size (.own (s.heap.objs.size+1))) (s.heap.objs.size+1) (.ins C s.heap.objs.size []))
 { s with heap:=(s.heap.push PySem.W.emptyDict).push (PySem.W.instObj C s.heap.objs.size) }:=by
 have e1:(s.heap.push PySem.W.emptyDict).get? s.heap.objs.size=some PySem.W.emptyDict:=Heap.get?_push_size s.heap rfl
 have e2:((s.heap.push PySem.W.emptyDict).push (PySem.W.instObj C s.heap.objs.size)).get? (s.heap.objs.size+1)=some (PySem.W.instObj C s.heap.objs.size):=by
  have:=Heap.get?_push_size (s.heap.push PySem.W.emptyDict) (o:=PySem.W.instObj C s.heap.objs.size) rfl
  rwa [Heap.size_push] at this
 have e3:(s.heap.push PySem.W.emptyDict).Ns s.heap.objs.size (fun _=>none):=⟨PySem.W.emptyDict,#[],_,e1,rfl,(fun e he=>absurd he (by simp)),fun _=>rfl⟩
 have I1:=I.laid (a:=s.heap.objs.size) (o:=.own (s.heap.objs.size+1)) (h':=s.heap.push PySem.W.emptyDict) (t':=s.toks) (fun b u q=>Heap.get?_push_of_some _ q) (Nat.le_refl _) ⟨_,e1⟩
 refine I1.laid (a:=s.heap.objs.size+1) (o:=.ins C s.heap.objs.size []) (t':=s.toks) (fun b u q=>Heap.get?_push_of_some _ q) (Nat.le_of_eq (Heap.size_push _ _)) ?_
 have ne:s.heap.objs.size≠s.heap.objs.size+1:=Nat.ne_of_lt (Nat.lt_succ_self _)
 refine⟨by rw [Ah ne,Ad],Nat.zero_le _,ne,e2,fun _=>none,(Heap.Ns1.of_empty e3).at fun o q=>Heap.get?_push_of_some _ q,fun _=>True.intro,fun y hy=>absurd rfl hy⟩
theorem A59 {prog:Program}{w:World}{env:Env}{e:Expr}{f:Str}{pos:Pos}{s:Shared}{Q:Value->Shared->Prop} (hb:attributeBase e f env (eval e env)=eval e env)
 (h:wpAny (model prog w) A (eval e env) (fun o s₁=>wpAny (model prog w) A (getAttr o f true) Q E s₁) E s):wpAny (model prog w) A (eval (.Attribute e f pos) env) Q E s :=
 Attribute_any_ h (by rw [arm_eval_Attribute,hb])
end
def tFld (K:W.Frag) (ta:TE) (f:Str):TE:=fun σ H Q=>ta σ H fun x H1=>∃ a C dx fs v,x=.ref a/\H1 a=some (.ins C dx fs)/\Cls K C/\NoAttr K C f/\fs.lookup f=some v/\Q v H1
def sFld (K:W.Frag) (ta tv:TE) (f:Str):TS:=fun D σ H=>tv σ H fun y H1=>ta σ H1 fun x H2=>∃ a C dx fs,x=.ref a/\H2 a=some (.ins C dx fs)/\Cls K C/\NoAttr K C f/\fs.length<1000 ∧
 D.nx σ (upd H2 a (.ins C dx (putF f y fs)))
section
variable {X:Cx}{o e value:Expr}{f:Str}{pos pos' tpos:Pos}{ta tv:TE}
theorem A90 (he:PE X e ta) (hb:attributeBase e f X.env (eval e X.env)=eval e X.env):PE X (.Attribute e f pos) (tFld X.K ta f):=by
 intro Aa s σ H Q I h
 refine A59 hb (thn (he Aa s σ H _ I h) fun u s1 ⟨x,H1,I1,rx,a,C,dx,fs,v,ex,ea,c,n,l,q⟩=>?_)
 subst ex
 obtain rfl:u=Value.ref a:=rx
 exact m9 I1 ea c n l fun u' s2 I2 ru=>⟨v,H1,I2,ru,q⟩
theorem A82 (ha:PE X o ta) (hv:PE X value tv) (hs:swapsWith value (some (.Attribute o f pos')) pos.line X.env=pure false):PS X (.Assign [.Attribute o f pos'] value pos) (sFld X.K ta tv f):=by
 intro Aa s σ H D I h
 refine plainObj_wpAny_Assign_Attribute (thn (hv Aa s σ H _ I h) fun u s1 ⟨y,H1,I1,ry,q⟩=>thn (ha Aa s1 σ H1 _ I1 q) fun ov s2 ⟨x,H2,I2,rx,a,C,dx,fs,ex,ea,c,n,l,q2⟩=>?_) hs
 subst ex
 obtain rfl:ov=Value.ref a:=rx
 exact b6 I2 ea c n l ry fun s3 I3=>⟨σ,_,I3,q2⟩
theorem A33 {pl:Sem Bool}{m:Str}{apos:Pos}{args:List Expr}{Aa:List (Addr × Obj)}{s:Shared}{σ:St}{H:Hp}{Q:Value->Shared->Prop}{te:TE} (he:PE X e te) (I:Inv X Aa σ H s)
 (h:te σ H fun x H1=>∃ a C dx fs g,x=.ref a/\H1 a=some (.ins C dx fs)/\Cls X.K C/\Meth X.K C m g/\fs.lookup m=none ∧
   ∀ s1,Inv X Aa σ H1 s1->wpAny (model X.prog X.w) X.A (callWith pos (.ref g) [.ref a] (backTo pos (starEach args X.env)) (backToKw pos (keywordEach [] X.env))) Q X.xe s1)
 (ht:eval (.Call (.Attribute e m apos) args [] pos) X.env=(do
   let ov ←eval e X.env
   standAt apos.atName
   let (f,first) ←holding [ov] (getMethod ov m pl)
   callWith pos f first (backTo pos (starEach args X.env)) (backToKw pos (keywordEach [] X.env)))) :
 wpAny (model X.prog X.w) X.A (eval (.Call (.Attribute e m apos) args [] pos) X.env) Q X.xe s:=by
 refine PySem.W.methodCall_KW (pl:=pl) (thn (he Aa s σ H _ I h) fun u s1 ⟨x,H1,I1,rx,a,C,dx,fs,g,ex,ea,c,k,l,q⟩=>?_) ht
 subst ex
 obtain rfl:u=Value.ref a:=rx
 exact L6 I1 ea c k l (q s1 I1)
end
section
variable {X:Cx}{Aa:List (Addr × Obj)}{σ:St}{H:Hp}{s:Shared}{A:Around}{E:Value->Shared->Prop}{Q:Value->Shared->Prop}{c:Value}{b:Bool}
end
end L2
namespace L2
open PySem PySem.Spec PyProof.Rows
structure Room (k:Nat) (A:Around):Prop where
 hd:A.handled=none
 dp:A.depth+3*k+5<recursionLimit
 un:A.units+16*k+200<cLine
 gd:A.guards=some []
theorem Room.mono {j k:Nat}{A:Around} (r:Room k A) (h:j<=k):Room j A:=⟨r.hd,by have:=r.dp;omega,by have:=r.un;omega,r.gd⟩
theorem Room.deeper {k:Nat}{A:Around} (r:Room (k+1) A) (env:Env):Room k (A.deeper env) :=
 ⟨r.hd,by have:=r.dp;show A.depth+1+3*k+5<_;omega,by have:=r.un;show A.units+3+16*k+200<_;omega,r.gd⟩
theorem k9 {A:Around}{C:Addr}{us:List Value}{kw:List (Str × Value)}:(A.under (.builtin "type.__call__" ⟨.ref C::us,kw⟩)).depth=A.depth+1:=by
 first | rfl | simp [Around.under,Code.weight,Code.isCreation,Code.isGuard,Code.isCaller,Code.frames,Code.isFrame,guardIds]
theorem X7 {A:Around}{C:Addr}{us:List Value}{kw:List (Str × Value)}:(A.under (.builtin "type.__call__" ⟨.ref C::us,kw⟩)).guards=A.guards:=by
 first | rfl | simp [Around.under,Code.weight,Code.isCreation,Code.isGuard,Code.isCaller,Code.frames,Code.isFrame,guardIds]
theorem j9 {A:Around}{C:Addr}{us:List Value}{kw:List (Str × Value)}:(A.under (.builtin "type.__call__" ⟨.ref C::us,kw⟩)).units=A.units+1:=by
 first | rfl | simp [Around.under,Code.cUnits,Code.frames,Code.isFrame]
theorem Room.make {k:Nat}{A:Around} (r:Room (k+1) A) (C:Addr) (us:List Value) (kw:List (Str × Value)):Room k (A.under (.builtin "type.__call__" ⟨.ref C::us,kw⟩)) :=
 ⟨r.hd,by have:=r.dp;rw [k9];omega,by have:=r.un;rw [j9];omega,by rw [X7];exact r.gd⟩
theorem Room.depth {k:Nat}{A:Around} (r:Room k A):A.depth<recursionLimit:=by have:=r.dp;omega
theorem Room.units {k:Nat}{A:Around} (r:Room k A):A.units+64<cLine:=by have:=r.un;omega
def tNil:TA:=fun _ H Q=>Q [] H
def Be3 (ta:TE) (tr:TA):TA:=fun σ H Q=>ta σ H fun x H1=>tr σ H1 fun xs H2=>Q (x::xs) H2
section
variable {X:Cx}{e:Expr}{es:List Expr}{te:TE}{t:TA}{pos:Pos}
theorem Af:PA X [] tNil:=fun _ _ _ _ H Q I h=>Calls.spliced_nil ⟨[],H,I,.nil,h⟩
theorem Ab (ha:PE X e te) (hr:PA X es t) (hs:starEach (e::es) X.env=(false,eval e X.env)::starEach es X.env:=by rfl):PA X (e::es) (Be3 te t):=by
 intro pos Aa s σ H Q I h
 rw [hs]
 show wpAny _ _ (spliced ((false,eval e X.env)::backTo pos (starEach es X.env))) _ _ s
 refine Calls.spliced_cons (thn (ha Aa s σ H _ I h) fun u s1 ⟨x,H1,I1,r1,q1⟩=>?_)
 exact thn (hr pos Aa s1 σ H1 _ I1 q1) fun us s2 ⟨xs,H2,I2,r2,q2⟩=>⟨x::xs,H2,I2,.cons r1 r2,q2⟩
def tTup (t:TA):TE:=fun σ H Q=>t σ H fun xs H1=>xs.length<=sizeLine/\∀ p,H1 p=none->Q (.ref p) (upd H1 p (.tup xs))
def tLst (t:TA):TE:=fun σ H Q=>t σ H fun xs H1=>xs.length<=sizeLine/\∀ p,H1 p=none->Q (.ref p) (upd H1 p (.lst xs))
theorem Ck {x1} (h:PA X es t):PE X (.Tuple es x1 pos) (tTup t):=by
 intro Aa s σ H Q I hq
 refine wpAny_Tuple_spliced (thn (h pos Aa s σ H _ I hq) fun us s1 ⟨xs,H1,I1,r,z,q⟩=>⟨by rw [←r.length];exact z,?_⟩)
 have hf:H1 s1.heap.objs.size=none:=I1.hok.fresh (Nat.le_refl _)
 refine⟨.ref s1.heap.objs.size,upd H1 s1.heap.objs.size (.tup xs),I1.laid (t':=s1.toks) (fun b u e=>Heap.get?_push_of_some _ e) (Nat.le_refl _) ?_,rfl,q _ hf⟩
 exact ⟨z,us,r,⟨_,Heap.get?_push_size _ rfl,rfl,rfl,_,rfl⟩⟩
theorem Dv (h:PA X es t):PE X (.List es pos) (tLst t):=by
 intro Aa s σ H Q I hq
 refine wpAny_List_spliced (thn (h pos Aa s σ H _ I hq) fun us s1 ⟨xs,H1,I1,r,z,q⟩=>⟨by rw [←r.length];exact z,?_⟩)
 have hf:H1 s1.heap.objs.size=none:=I1.hok.fresh (Nat.le_refl _)
 refine⟨.ref s1.heap.objs.size,upd H1 s1.heap.objs.size (.lst xs),I1.laid (t':=s1.toks) (fun b u e=>Heap.get?_push_of_some _ e) (Nat.le_refl _) ?_,rfl,q _ hf⟩
 exact ⟨z,us,0,r,Heap.get?_push_size _ rfl⟩
end
abbrev Sp:=List V->Hp->VK->XK->Prop
abbrev CXT:=List Env->Hp->Shared->XK->Value->Shared->Prop
structure Env0 (P:Program) (w:World) (K:W.Frag) (mg:Str->Option Value) (base:Heap) (A:Around) (outer:List Env) (s:Shared) (H:Hp):Prop where
 frames:A.frames=some outer
 mod:Mod K mg base
 bs:∀ b o,base.get? b=some o->s.heap.get? b=some o/\H b=none
 bsz:base.objs.size<=s.heap.objs.size
 funs:s.heap.FunFrames base outer
 frf:∀ b∈frs outer,H b=none
 hok:HOk P w H s.heap
 bare:AllBare s.gens
def CE (outer:List Env) (P:Program) (w:World) (H:Hp) (s:Shared) (Q:VK) (u:Value) (s':Shared):Prop :=
 ∃ v H',s'.os=s.os/\AllBare s'.gens/\Un (frs outer) [] H H' s.heap s'.heap/\HOk P w H' s'.heap/\RelV v u/\Q v H'
def CR (CX:CXT) (outer:List Env) (P:Program) (w:World) (H:Hp) (s:Shared) (Q:VK) (E:XK) (r:Result) (s':Shared):Prop :=
 match r with
 | .ok (.ret u)=>CE outer P w H s Q u s'
 | .ok _=>False
 | .error e=>CX outer H s E e s'
structure FnOk (P:Program) (w:World) (K:W.Frag) (mg:Str->Option Value) (base:Heap) (CX:CXT) (k:Nat) (f:Addr) (fd:FuncData) (ps:List Str) (sp:Sp):Prop where
 len:∀ vs H Q E,sp vs H Q E->vs.length=ps.length
 run:∀ (A:Around) (outer:List Env) (s:Shared) (H:Hp) (args:Args) (us:List Value) (vs:List V) (Q:VK) (E:XK),Room k A->Env0 P w K mg base A outer s H->BindsTo s fd args (ps.zip us)->Vals vs us->sp vs H Q E →
  codeAny (model P w) A (.call (.ref f) args) (CR CX outer P w H s Q E) s
theorem Env0.make {P:Program}{w:World}{K:W.Frag}{mg:Str->Option Value}{base:Heap}{A:Around}{outer:List Env}{s:Shared}{H:Hp} (e:Env0 P w K mg base A outer s H) (C:Addr) (us:List Value) (kw:List (Str × Value)) :
 Env0 P w K mg base (A.under (.builtin "type.__call__" ⟨.ref C::us,kw⟩)) outer s H:=⟨by first | exact e.frames | (simpa [Around.under,Code.envs,Code.isFrame,pushEnvs] using e.frames),e.mod,e.bs,e.bsz,e.funs,e.frf,e.hok,e.bare⟩
section
variable {X:Cx}{Aa:List (Addr × Obj)}{σ:St}{H:Hp}{s s':Shared}
theorem Inv.env0 (I:Inv X Aa σ H s):Env0 X.prog X.w X.K X.mg X.base X.A X.stack s H :=
 ⟨I.ok.frames,I.ok.mod,I.bs,Nat.le_trans I.ok.bsz I.sz,I.stack,I.stkFree,I.hok,I.bare⟩
theorem Inv.after {Q:VK}{u:Value} (I:Inv X Aa σ H s) (h:CE X.stack X.prog X.w H s Q u s'):EP X Aa σ Q u s':=by
 obtain⟨v,H',os,bare,un,hok,r,q⟩:=h
 obtain⟨hh,g,d,t,os'⟩:=s'
 obtain rfl:os'=s.os:=os
 exact ⟨v,H',I.call (h':=hh) (g':=g) (d':=d) (t':=t) (ch:=[]) un hok bare (fun b z=>absurd z (by simp)),r,q⟩
end
def tCall (sp:Sp) (dvs:List V) (E:XK) (t:TA):TE:=fun σ H Q=>t σ H fun vs H1=>sp (vs++dvs) H1 Q E
def Ap8 (C:Addr) (m:Str) (sp:Sp) (dvs:List V) (E:XK) (ta:TE) (t:TA):TE:=fun σ H Q=>ta σ H fun x H1=>∃ a dx fs,x=.ref a/\H1 a=some (.ins C dx fs)/\fs.lookup m=none ∧
 t σ H1 fun vs H2=>sp (x::(vs++dvs)) H2 Q E
def A66 (C:Addr) (sp:Sp) (dvs:List V) (E:XK) (t:TA):TE:=fun σ H Q=>t σ H fun vs H1=>∀ x dx,H1 x=none->H1 dx=none->dx≠x →
 sp (.ref x::(vs++dvs)) (upd (upd H1 dx (.own x)) x (.ins C dx [])) (fun v H2=>v=.non/\Q (.ref x) H2) E
def Kd (K:W.Frag) (fd:FuncData) (ps:List Str) (ds:List Value):Prop :=
 ∀ (s:Shared) (us:List Value),K.In s.heap->(us++ds).length=ps.length->BindsTo s fd ⟨us,[]⟩ (ps.zip (us++ds))
theorem Kd.all {K:W.Frag}{fd:FuncData}{ps:List Str} (h:∀ us:List Value,us.length=ps.length->bindArgs fd ⟨us,[]⟩=pure (ps.zip us)):Kd K fd ps []:=fun s us _ hl=>by
 rw [List.append_nil] at hl ⊢
 exact .of_eq (h us hl)
def P4 (CX:CXT) (X:Cx) (E:XK):Prop:=∀ (Aa:List (Addr × Obj)) (σ:St) (H:Hp) (s:Shared) (e:Value) (s':Shared),Inv X Aa σ H s->CX X.stack H s E e s'->X.xe e s'
section
variable {X:Cx}{CX:CXT}{k:Nat}{f C:Addr}{fd:FuncData}{ps:List Str}{sp:Sp}{dvs:List V}{ds:List Value}{E:XK}{x m:Str}{p pos apos:Pos}{e o:Expr}{es:List Expr}{ta:TE}{t:TA}
theorem Ab8 {Aa:List (Addr × Obj)}{σ:St}{H:Hp}{s:Shared}{Q:VK}{us:List Value}{vs:List V} (F:FnOk X.prog X.w X.K X.mg X.base CX k f fd ps sp) (hr:Room k X.A) (hb:Kd X.K fd ps ds) (hd:Vals dvs ds) (hx:P4 CX X E)
 (I:Inv X Aa σ H s) (r:Vals vs us) (h:sp (vs++dvs) H Q E):wpAny (model X.prog X.w) X.A (call (.ref f) us) (EP X Aa σ Q) X.xe s:=by
 have r2:Vals (vs++dvs) (us++ds):=r.append hd
 have hl:(us++ds).length=ps.length:=by rw [←r2.length];exact F.len _ _ _ _ h
 refine wpAny_call (codeAny_mono (F.run X.A X.stack s H ⟨us,[]⟩ (us++ds) (vs++dvs) Q E hr I.env0 (hb s us I.kIn hl) r2 h) fun r s' hq=>?_)
 cases r with
 | error e=>exact hx Aa σ H s e s' I hq
 | ok fl =>
   cases fl with
   | ret u=>exact I.after hq
   | next=>exact False.elim hq
   | brk=>exact False.elim hq
   | cont=>exact False.elim hq
theorem A16 (F:FnOk X.prog X.w X.K X.mg X.base CX k f fd ps sp) (hr:Room k X.A) (hg:Gl X x) (hm:X.mg x=some (.ref f)) (hk:PySem.W.keepIn X.K (.ref f)=true) (hb:Kd X.K fd ps ds) (hd:Vals dvs ds) (hx:P4 CX X E)
 (ha:PA X (e::es) t) (hdb:(x==("__debug__":Str))=false:=by decide) (he:starEach (e::es) X.env=(false,eval e X.env)::starEach es X.env:=by rfl) (hpl:(backTo pos (starEach es X.env)).any (·.1)=false:=by rfl) :
 PE X (.Call (.Name x p) (e::es) [] pos) (tCall sp dvs E t):=by
 intro Aa s σ H Q I h
 refine wpAny_Call_Name_kw (Ya I hg hm ?_ hdb)
 refine PySem.W.callWith_K (h₀:=X.base) I.ok.mod.kin hk (thn (ha pos Aa s σ H _ I h) fun us s1 ⟨vs,H1,I1,r,q⟩=>⟨I1.kIn,?_⟩) he hpl
 exact Ab8 F hr hb hd hx I1 r q
theorem A12 {pl:Sem Bool} (he:PE X o ta) (c:Cls X.K C) (hm:Meth X.K C m f) (F:FnOk X.prog X.w X.K X.mg X.base CX k f fd ps sp) (hr:Room k X.A) (hb:Kd X.K fd ps ds) (hd:Vals dvs ds) (hx:P4 CX X E) (ha:PA X (e::es) t)
 (hst:starEach (e::es) X.env=(false,eval e X.env)::starEach es X.env:=by rfl) (hpl:(backTo pos (starEach es X.env)).any (·.1)=false:=by rfl)
 (ht:eval (.Call (.Attribute o m apos) (e::es) [] pos) X.env=(do
   let ov ←eval o X.env
   standAt apos.atName
   let (f,first) ←holding [ov] (getMethod ov m pl)
   callWith pos f first (backTo pos (starEach (e::es) X.env)) (backToKw pos (keywordEach [] X.env))):=by rfl) :
 PE X (.Call (.Attribute o m apos) (e::es) [] pos) (Ap8 C m sp dvs E ta t):=by
 intro Aa s σ H Q I h
 refine PySem.W.methodCall_KW (pl:=pl) (thn (he Aa s σ H _ I h) fun u s1 ⟨x,H1,I1,rx,a,dx,fs,ex,ea,l,q⟩=>?_) ht
 subst ex
 obtain rfl:u=Value.ref a:=rx
 refine L6 I1 ea c hm l ?_
 refine PySem.W.callWith_K (first:=[.ref a]) (h₀:=X.base) I.ok.mod.kin hm.kp (thn (ha pos Aa s1 σ H1 _ I1 q) fun us s2 ⟨vs,H2,I2,r,q2⟩=>⟨I2.kIn,?_⟩) hst hpl
 exact Ab8 (us:=.ref a::us) (vs:=.ref a::vs) F hr hb hd hx I2 (.cons rfl r) q2
theorem Ar4 {pl:Sem Bool} (he:PE X o ta) (c:Cls X.K C) (hm:Meth X.K C m f) (F:FnOk X.prog X.w X.K X.mg X.base CX k f fd ps sp) (hr:Room k X.A) (hb:Kd X.K fd ps ds) (hd:Vals dvs ds) (hx:P4 CX X E)
 (ht:eval (.Call (.Attribute o m apos) [] [] pos) X.env=(do
   let ov ←eval o X.env
   standAt apos.atName
   let (f,first) ←holding [ov] (getMethod ov m pl)
   callWith pos f first (backTo pos (starEach [] X.env)) (backToKw pos (keywordEach [] X.env))):=by rfl) :
 PE X (.Call (.Attribute o m apos) [] [] pos) (Ap8 C m sp dvs E ta tNil):=by
 intro Aa s σ H Q I h
 refine PySem.W.methodCall_KW (pl:=pl) (thn (he Aa s σ H _ I h) fun u s1 ⟨x,H1,I1,rx,a,dx,fs,ex,ea,l,q⟩=>?_) ht
 subst ex
 obtain rfl:u=Value.ref a:=rx
 refine L6 I1 ea c hm l ?_
 exact PySem.W.callWith_K0 (first:=[.ref a]) I1.kIn hm.kp (Ab8 (us:=[.ref a]) (vs:=[.ref a]) F hr hb hd hx I1 (.cons rfl .nil) q)
structure Mk (K:W.Frag) (C f:Addr):Prop where
 makes:PySem.W.makesIn K C=true
 init:PySem.W.findIn K (.ref C) "__init__"=some (some (.ref f))
 fn:PySem.W.isFn K (.ref f)=true
 kp:PySem.W.keepIn K (.ref C)=true
theorem Aq5 {Aa:List (Addr × Obj)}{σ:St}{H:Hp}{s:Shared}{Q:VK}{us:List Value}{vs:List V} (M:Mk X.K C f) (F:FnOk X.prog X.w X.K X.mg X.base CX k f fd ps sp) (hr:Room (k+1) X.A) (hb:Kd X.K fd ps ds) (hd:Vals dvs ds)
 (hx:P4 CX X E) (I:Inv X Aa σ H s) (r:Vals vs us)
 (h:∀ x dx,H x=none->H dx=none->dx≠x->sp (.ref x::(vs++dvs)) (upd (upd H dx (.own x)) x (.ins C dx [])) (fun v H2=>v=.non/\Q (.ref x) H2) E) :
 wpAny (model X.prog X.w) X.A (call (.ref C) us) (EP X Aa σ Q) X.xe s:=by
 have hq:=h (s.heap.objs.size+1) s.heap.objs.size (I.hok.fresh (Nat.le_succ _)) (I.hok.fresh (Nat.le_refl _)) (Nat.ne_of_lt (Nat.lt_succ_self _))
 have I2:=Inv.made (C:=C) I
 have r2:Vals (V.ref (s.heap.objs.size+1)::(vs++dvs)) (Value.ref (s.heap.objs.size+1)::(us++ds)):=.cons rfl (r.append hd)
 have hl:(Value.ref (s.heap.objs.size+1)::us++ds).length=ps.length:=by
  have e:=r2.length
  rw [F.len _ _ _ _ hq] at e
  exact e.symm
 refine wpAny_call (At7 (f:=f) I.kIn M.makes M.init (beq_iff_eq.mp M.fn) (codeAny_mono (F.run _ X.stack _ _ ⟨Value.ref (s.heap.objs.size+1)::us,[]⟩ (Value.ref (s.heap.objs.size+1)::(us++ds)) _ _ E (hr.make C us [])
  (I2.env0.make C us []) (hb _ (Value.ref (s.heap.objs.size+1)::us) I2.kIn hl) r2 hq) fun r s' hq'=>?_))
 cases r with
 | error e=>exact hx Aa σ _ _ e s' I2 hq'
 | ok fl =>
   cases fl with
   | ret u =>
     obtain⟨v,H',I3,rv,ev,q3⟩:=I2.after hq'
     subst ev
     exact ⟨rv,⟨V.ref (s.heap.objs.size+1),H',I3,rfl,q3⟩⟩
   | next=>exact False.elim hq'
   | brk=>exact False.elim hq'
   | cont=>exact False.elim hq'
theorem A13 (M:Mk X.K C f) (F:FnOk X.prog X.w X.K X.mg X.base CX k f fd ps sp) (hr:Room (k+1) X.A) (hg:Gl X x) (hm:X.mg x=some (.ref C)) (hb:Kd X.K fd ps ds) (hd:Vals dvs ds) (hx:P4 CX X E)
 (ha:PA X (e::es) t) (hdb:(x==("__debug__":Str))=false:=by decide) (he:starEach (e::es) X.env=(false,eval e X.env)::starEach es X.env:=by rfl) (hpl:(backTo pos (starEach es X.env)).any (·.1)=false:=by rfl) :
 PE X (.Call (.Name x p) (e::es) [] pos) (A66 C sp dvs E t):=by
 intro Aa s σ H Q I h
 refine wpAny_Call_Name_kw (Ya I hg hm ?_ hdb)
 refine PySem.W.callWith_K (h₀:=X.base) I.ok.mod.kin M.kp (thn (ha pos Aa s σ H _ I h) fun us s1 ⟨vs,H1,I1,r,q⟩=>⟨I1.kIn,?_⟩) he hpl
 exact Aq5 M F hr hb hd hx I1 r q
end
section
variable {X:Cx}{CX:CXT}{k:Nat}{f C:Addr}{fd:FuncData}{ps ks:List Str}{sp:Sp}{E:XK}{x m:Str}{p pos apos kpos:Pos}{e o:Expr}{es:List Expr}{kws:List Keyword}{te ta:TE}{t tk:TA}{nm:Option Str}
variable {g:List Value->List Value->List Value}{gV:List V->List V->List V}
end
structure FnScope (N P:List Str) (sc:Scope):Prop where
 kind:sc.kind=.function
 co:sc.isCoroutine=false
 gen:sc.isGenerator=false
 nd:N.Nodup
 pre:N.take P.length=P
 par:∀ x∈P,sc.names.lookup x=some .local\/sc.names.lookup x=some .cell
 nofree:∀ y∈sc.names,y.2≠.free
theorem Wo {kindOf:Str->Option NameKind}{x:Str}:∀{binds:List (Str × Value)}{m:Str->Option Value},(∀ v,(x,v) ∉ binds)->bindL kindOf binds m x=m x
 | [],_,_=>rfl
 | (n,v)::r,m,h=>by
   unfold bindL
   rw [Wo fun w hw=>h w (List.mem_cons_of_mem _ hw)]
   split
   . have:x≠n:=by rintro rfl;exact h v List.mem_cons_self
     simp [this]
   . rfl
theorem Wq {kindOf:Str->Option NameKind}{x:Str}:∀{binds:List (Str × Value)}{m:Str->Option Value},(∀ v,(x,v) ∉ binds)->bindC kindOf binds m x=m x
 | [],_,_=>rfl
 | (n,v)::r,m,h=>by
   unfold bindC
   rw [Wq fun w hw=>h w (List.mem_cons_of_mem _ hw)]
   split
   . rfl
   . have:x≠n:=by rintro rfl;exact h v List.mem_cons_self
     simp [this]
theorem Wp {kindOf:Str->Option NameKind}{x:Str}{v:Value}:∀{P:List Str}{vs:List Value}{i:Nat}{m:Str->Option Value},P.Nodup->P[i]?=some x->vs[i]?=some v->kindOf x=some .local →
 bindL kindOf (P.zip vs) m x=some v
 | [],_,_,_,_,h,_,_=>by simp at h
 | _::_,[],_,_,_,_,h,_=>by simp at h
 | p::P,w::vs,0,m,nd,h1,h2,hk=>by
   simp at h1 h2;subst h1;subst h2
   show bindL kindOf ((p,w)::P.zip vs) m p=_
   unfold bindL
   rw [Wo fun v hv=>(List.nodup_cons.mp nd).1 (List.of_mem_zip hv).1,if_pos hk]
   simp
 | p::P,w::vs,i+1,m,nd,h1,h2,hk=>by
   show bindL kindOf ((p,w)::P.zip vs) m x=_
   unfold bindL
   exact Wp (i:=i) (List.nodup_cons.mp nd).2 (by simpa using h1) (by simpa using h2) hk
theorem Wr {kindOf:Str->Option NameKind}{x:Str}{v:Value}:∀{P:List Str}{vs:List Value}{i:Nat}{m:Str->Option Value},P.Nodup->P[i]?=some x->vs[i]?=some v->kindOf x≠some .local →
 bindC kindOf (P.zip vs) m x=some v
 | [],_,_,_,_,h,_,_=>by simp at h
 | _::_,[],_,_,_,_,h,_=>by simp at h
 | p::P,w::vs,0,m,nd,h1,h2,hk=>by
   simp at h1 h2;subst h1;subst h2
   show bindC kindOf ((p,w)::P.zip vs) m p=_
   unfold bindC
   rw [Wq fun v hv=>(List.nodup_cons.mp nd).1 (List.of_mem_zip hv).1,if_neg hk]
   simp
 | p::P,w::vs,i+1,m,nd,h1,h2,hk=>by
   show bindC kindOf ((p,w)::P.zip vs) m x=_
   unfold bindC
   exact Wr (i:=i) (List.nodup_cons.mp nd).2 (by simpa using h1) (by simpa using h2) hk
def start (N:List Str) (vs:List V):St:=vs.map some++List.replicate (N.length-vs.length) none
def cxOf (CX:CXT) (P:Program) (w:World) (K:W.Frag) (mg:Str->Option Value) (base:Heap) (N:List Str) (qual:Str) (scope:Scope) (f:Addr) (cd:Value) (A:Around) (outer:List Env) (s:Shared) (H:Hp) (E:XK):Cx where
 prog:=P
 w:=w
 K:=K
 mg:=mg
 base:=base
 A:=A.deeper (envOfC qual scope s.heap.objs.size f cd)
 N:=N
 s₀:=s
 H₀:=H
 env:=envOfC qual scope s.heap.objs.size f cd
 outer:=outer
 stack:=envOfC qual scope s.heap.objs.size f cd::outer
 ex:=[]
 calm:=true
 fn:=fun _=>true
 pn:=[]
 xe:=fun e s'=>wpAny (model P w) (A.deeper (envOfC qual scope s.heap.objs.size f cd)) (leaving (envOfC qual scope s.heap.objs.size f cd) e) (fun _ s''=>CX outer H s E e s'') (fun e' s''=>CX outer H s E e' s'') s'
theorem Zr {sc:Scope}{n:Nat}{x:Str} (h:sc.names.lookup x=some .cell):∃ c,(cellsFrom n sc.names []).lookup x=some c:=by
 have q:=PySem.W.cellsFrom_some sc.names n [] (.inl h)
 exact Option.isSome_iff_exists.mp q
theorem Ai4 {CX:CXT}{P:Program}{w:World}{K:W.Frag}{mg:Str->Option Value}{base:Heap}{N ps:List Str}{qual:Str}{scope:Scope}{f:Addr}{cd:Value}{A:Around}{outer:List Env}{s s1:Shared}{H:Hp}{E:XK}{us:List Value}{vs:List V}
 (S:FnScope N ps scope) (hd:A.handled=none) (e0:Env0 P w K mg base A outer s H) (hl:vs.length=ps.length) (r:Vals vs us)
 (x:InCallC s s.heap.objs.size (bindL (envOfC qual scope s.heap.objs.size f cd).kindOf (ps.zip us) fun _=>none) (cellsFrom (s.heap.objs.size+1) scope.names []) (bindC (envOfC qual scope s.heap.objs.size f cd).kindOf (ps.zip us) fun _=>none) s1) :
 Inv (cxOf CX P w K mg base N qual scope f cd A outer s H E) [] (start N vs) H s1:=by
 have hpl:ps.length<=N.length:=by have:=congrArg List.length S.pre;rw [List.length_take] at this;omega
 obtain⟨h1,tk,rfl,hk⟩:=x.done
 have noA:∀ b:Addr,b ∉ (cxOf CX P w K mg base N qual scope f cd A outer s H E).ex:=fun b z=>absurd (show b∈([]:List Addr) from z) (by simp)
 refine⟨⟨e0.mod,S.kind,rfl,rfl,Nat.le_refl _,fun y z c h1 h2=>?_,fun y hy=>?_,fun y c _ h=>?_,fun _=>hd,Around.frames_deeper e0.frames,.inr ⟨rfl,rfl⟩,fun b z=>absurd z (noA b),e0.bs,e0.bsz,fun b _ _=>noA b,fun b z=>absurd z (noA b),e0.funs,e0.frf⟩,
  rfl,e0.bare,Un.kept hk,⟨_,x.toInCall.ns,fun i y v h1 h2 h3=>?_⟩,fun y c h=>⟨_,x.cell y c h⟩,e0.hok.fresh (Nat.le_refl _),fun y c h=>?_,fun p hp=>absurd (show p∈([]:List (Addr × Obj)) from hp) (by simp),e0.hok.kept hk,?_⟩
 . exact name_of_addr x.apart (PySem.mem_of_lookup h1) (PySem.mem_of_lookup h2)
 . have hy:scope.names.lookup y=some .cell\/scope.names.lookup y=some .free:=hy
   rcases hy with hy | hy
   . exact Zr hy
   . exact absurd rfl (S.nofree _ (PySem.mem_of_lookup hy))
 . exact Nat.le_of_lt (x.above y c (PySem.mem_of_lookup h))
 . have hi:i<vs.length:=by
    unfold start at h2
    by_cases hi:i<vs.length
    . exact hi
    . rw [List.getElem?_append_right (by simpa using hi)] at h2
      rw [List.getElem?_replicate] at h2
      split at h2<;>cases h2
   have ha:vs[i]?=some v:=by
    unfold start at h2
    rw [List.getElem?_append_left (by simpa using hi),List.getElem?_map] at h2
    cases e:vs[i]? with
    | none=>rw [e] at h2;cases h2
    | some a=>rw [e] at h2;cases h2;rfl
   obtain⟨u,hu,rv⟩:=r.get ha
   have hp:ps[i]?=some y:=by
    rw [←S.pre,List.getElem?_take_of_lt (by omega)];exact h1
   have ndP:ps.Nodup:=by rw [←S.pre];exact S.nd.sublist (List.take_sublist _ _)
   refine⟨u,rv,?_⟩
   rcases S.par y (List.mem_of_getElem? hp) with k | k
   . exact .inl ⟨k,Wp ndP hp hu k⟩
   . obtain⟨c,e⟩:=Zr (n:=s.heap.objs.size+1) k
     refine .inr ⟨.inl k,c,e,?_⟩
     have q:=x.cell y c e
     rw [Wr ndP hp hu (by show scope.names.lookup y≠_;rw [k];decide)] at q
     exact q
 . exact e0.hok.fresh (Nat.le_of_lt (x.above y c (PySem.mem_of_lookup h)))
 . unfold start
   show _=N.length
   rw [List.length_append,List.length_map,List.length_replicate]
   omega
theorem Bc5 {CX:CXT}{P:Program}{w:World}{K:W.Frag}{mg:Str->Option Value}{base:Heap}{k:Nat}{f:Addr}{name qual:Str}{params:Arguments}{body:List Stmt}{scope:Scope}{dV kV doc pm Bu ct oc:Value}{an od:Option Addr}
 {osl:Array (Option Value)}{N ps:List Str}{sp:Sp} (lk:K.lookup f=some ⟨oc,od,.func (PySem.W.fnOf name qual params body scope dV kV doc pm an Bu ct),osl⟩) (hcd:PySem.W.codeIn K Bu qual=true) (S:FnScope N ps scope)
 (len:∀ vs H Q E,sp vs H Q E->vs.length=ps.length)
 (hbody:∀ (A:Around) (outer:List Env) (s:Shared) (H:Hp) (vs:List V) (Q:VK) (E:XK),Room k (A.deeper (envOfC qual scope s.heap.objs.size f Bu))->sp vs H Q E →
   ∃ t,PSs (cxOf CX P w K mg base N qual scope f Bu A outer s H E) body t/\t { nx:=fun _ H'=>Q .non H',rt:=Q } (start N vs) H) :
 FnOk P w K mg base CX (k+1) f (PySem.W.fnOf name qual params body scope dV kV doc pm an Bu ct) ps sp:=by
 refine⟨len,fun A outer s H args us vs Q E hr e0 hb r hsp=>?_⟩
 have hl:=len _ _ _ _ hsp
 have KX:K.In s.heap:=e0.mod.kin.keeps fun b o e=>(e0.bs b o e).1
 have lim:s.heap.NoLimit:=e0.mod.nolimit.keeps fun b o e=>(e0.bs b o e).1
 have hkind:∀ y∈ps.zip us,scope.names.lookup y.1=some .local\/(scope.names.lookup y.1=some .cell/\((cellsFrom (s.heap.objs.size+1) scope.names []).lookup y.1).isSome=true):=fun ⟨n,v⟩ hy=>by
  rcases S.par n (List.of_mem_zip hy).1 with q | q
  . exact .inl q
  . exact .inr ⟨q,PySem.W.cellsFrom_some _ _ _ (.inl q)⟩
 refine codeAny_call_function hr.depth (KX _ _ lk) rfl S.co S.gen rfl (PySem.W.codeRec_of KX hcd) (hb _ _ _ _ ?_)
 refine wpAny_newFunctionEnv_cells S.kind hkind fun env he s1 x=>?_
 subst he
 refine⟨lim.keeps x.toInCall.keep,codeAny_func ?_⟩
 obtain⟨t,ht,hq⟩:=hbody A outer s H vs Q E (hr.deeper _) hsp
 have I:Inv (cxOf CX P w K mg base N qual scope f Bu A outer s H E) [] (start N vs) H s1:=Ai4 S hr.hd e0 hl r x
 refine wpAny_mono (ht [] s1 (start N vs) H _ I hq) (fun fl s' hs=>?_) fun e s' hs=>hs
 have fin:∀{σ':St}{H':Hp}{v:V}{u:Value},Inv (cxOf CX P w K mg base N qual scope f Bu A outer s H E) [] σ' H' s'->RelV v u->Q v H'->CE outer P w H s Q u s' :=
  fun {σ' H' v u} J rv q=>⟨v,H',J.os,J.bare,J.base,J.hok,rv,q⟩
 cases fl with
 | ret u =>
   obtain⟨v,σ',H',J,rv,q⟩:=hs
   exact fin J rv q
 | next =>
   obtain⟨σ',H',J,q⟩:=hs
   exact fin (v:=V.non) (u:=Value.none) J rfl q
 | brk =>
   obtain⟨_,_,_,q⟩:=hs
   exact False.elim q
 | cont =>
   obtain⟨_,_,_,q⟩:=hs
   exact False.elim q
end L2
namespace L2
open PySem PySem.Spec PyProof.Rows
section
variable {X:Cx}{x:Str}{p pos:Pos}{e:Expr}{es:List Expr}{t:TA}{id T:String}{r:List V->Hp->VK->Prop}
def tCB (r:List V->Hp->VK->Prop) (t:TA):TE:=fun σ H Q=>t σ H fun vs H1=>r vs H1 Q
theorem An (hc:F9 X (.builtin id) r) (hg:Gl X x) (hm:X.mg x=none) (hv:bootBuiltins x=some (.builtin id)) (ha:PA X (e::es) t) (hn:x≠"__name__":=by decide) (hdb:(x==("__debug__":Str))=false:=by decide)
 (he:starEach (e::es) X.env=(false,eval e X.env)::starEach es X.env:=by rfl) (hpl:(backTo pos (starEach es X.env)).any (·.1)=false:=by rfl):PE X (.Call (.Name x p) (e::es) [] pos) (tCB r t):=by
 intro Aa s σ H Q I h
 refine wpAny_Call_Name_kw (Kp I hg hm hv ?_ hn hdb)
 exact PyProof.Rows.callWith_builtin1 (thn (ha pos Aa s σ H _ I h) fun us s1 ⟨vs,H1,I1,r1,q1⟩=>hc Aa s1 σ H1 vs us Q I1 r1 q1) he hpl
theorem Dn (hc:F9 X (.type T) r) (hg:Gl X x) (hm:X.mg x=none) (hv:bootBuiltins x=some (.type T)) (ha:PA X (e::es) t) (hn:x≠"__name__":=by decide) (hdb:(x==("__debug__":Str))=false:=by decide)
 (he:starEach (e::es) X.env=(false,eval e X.env)::starEach es X.env:=by rfl) (hpl:(backTo pos (starEach es X.env)).any (·.1)=false:=by rfl):PE X (.Call (.Name x p) (e::es) [] pos) (tCB r t):=by
 intro Aa s σ H Q I h
 refine wpAny_Call_Name_kw (Kp I hg hm hv ?_ hn hdb)
 exact PyProof.Rows.callWith_type1 (thn (ha pos Aa s σ H _ I h) fun us s1 ⟨vs,H1,I1,r1,q1⟩=>hc Aa s1 σ H1 vs us Q I1 r1 q1) he hpl
end
end L2
namespace HT
open PySem PyProof.Rows
section
open PySem.SeqAt
open PySem.AutoSeq1 (wpAny_loadPart')
open PySem.MeetsSeq PySem.MeetsSeq2 PySem.MeetsSeq3
end
section
variable {prog:Program}{w:World}{A:Around}{E:Value->Shared->Prop}{s:Shared}
theorem cat_tup {t b:Addr}{vs ws:List Value}{Q:Value->Shared->Prop} (ht:IsTup s.heap t vs.toArray) (hb:IsTup s.heap b ws.toArray) (hv:vs≠[])
 (h1:ws=[]->Q (.ref t) s) (h2:ws≠[]->Q (.ref s.heap.objs.size) { s with heap:=s.heap.push { cls:=.type "tuple",data:=.seq (vs++ws).toArray } })
 (hsz:vs.length+ws.length<=sizeLine):wpAny (model prog w) A (binaryOp .Add (.ref t) (.ref b)) Q E s:=by
 obtain⟨⟨cls,dd,data,sl⟩,ho,hc,n,hd⟩:=id ht
 obtain⟨⟨cls2,dd2,data2,sl2⟩,ho2,hc2,n2,hd2⟩:=id hb
 simp only at hc hd hc2 hd2
 subst hc hd hc2 hd2
 have e:vs.toArray++ws.toArray=(vs++ws).toArray:=by simp
 by_cases hw:ws=[]
 . exact concat_meets ⟨_,ho,rfl⟩ ⟨_,ho2,rfl⟩ noFill_tuple_add seq_tuple_add PySem.F.slot_tuple_add PySem.F.entry_tuple_add (PySem.F.args_tuple_add_2 _ _)
    (tuple_addW1 t b vs.toArray ws.toArray n n2 dd dd2 sl sl2 (by simpa using hv) (by simp [hw])) ⟨ho,ho2,h1 hw⟩
 . refine concat_meets ⟨_,ho,rfl⟩ ⟨_,ho2,rfl⟩ noFill_tuple_add seq_tuple_add PySem.F.slot_tuple_add PySem.F.entry_tuple_add (PySem.F.args_tuple_add_2 _ _)
    (tuple_addW2 t b vs.toArray ws.toArray n n2 dd dd2 sl sl2 (by simpa using hv) (by simpa using hw) (by rw [List.size_toArray,List.size_toArray];exact hsz)) ⟨ho,ho2,?_⟩
   rw [e]
   exact h2 hw
def sIx (n d:Nat):Option Int->Nat
 | none=>d
 | some v=>if v<0 then (v+(n:Int)).toNat else min v.toNat n
theorem sIx_none (n d:Nat):sIx n d none=d:=rfl
theorem sIx_nat (n d k:Nat):sIx n d (some (k:Int))=min k n:=by
 show (if (k:Int)<0 then ((k:Int)+(n:Int)).toNat else min (k:Int).toNat n)=min k n
 rw [if_neg (by omega),Int.toNat_natCast]
theorem A76 (n d:Nat) (hd:d<=n) (o:Option Int):sIx n d o<=n:=by
 cases o with
 | none=>exact hd
 | some v =>
   show (if v<0 then (v+(n:Int)).toNat else min v.toNat n)<=n
   by_cases hv:v<0
   . rw [if_pos hv];omega
   . rw [if_neg hv];exact Nat.min_le_right _ _
theorem An0 (v:Int) (n d:Nat):(if v<0 then max (v+(n:Int)) 0 else min v (n:Int))=((sIx n d (some v):Nat):Int):=by
 show (if v<0 then max (v+(n:Int)) 0 else min v (n:Int))=(((if v<0 then (v+(n:Int)).toNat else min v.toNat n):Nat):Int)
 by_cases hv:v<0
 . simp only [if_pos hv];omega
 . simp only [if_neg hv];omega
theorem y9 (lo hi:Option Int) (n:Nat):Builtin.Slice.sliceAdjust lo hi 1 (n:Int)=(((sIx n 0 lo:Nat):Int),((sIx n n hi:Nat):Int)):=by
 have h1:¬((1:Int)<0):=by omega
 unfold Builtin.Slice.sliceAdjust
 simp only [h1,if_false]
 refine Prod.ext ?_ ?_
 . cases lo with
   | none=>rfl
   | some v=>exact An0 v n 0
 . cases hi with
   | none=>rfl
   | some v=>exact An0 v n n
theorem e8 (i j:Nat):Builtin.Slice.slicePlaces (i:Int) (j:Int) 1=j-i:=by
 unfold Builtin.Slice.slicePlaces
 have h1:(1:Int) > 0:=by omega
 simp only [h1,if_true,Int.ediv_one]
 split<;>omega
theorem Rj {v:Value}{o:Option Int}{Q:Option Int->Shared->Prop} (p:IsPart v o) (h:Q o s):wpAny (model prog w) A (Builtin.Slice.slicePartIndex v) Q E s:=by
 cases p with
 | none=>exact slicePart_none h
 | int i t=>exact slicePart_int h
theorem M5 {sl:Addr}{vl vu:Value}{lo hi:Option Int}{n:Nat}{Q:Int × Int × Nat->Shared->Prop} (hs:s.heap.IsSliceOf sl vl vu .none) (pl:IsPart vl lo) (pu:IsPart vu hi)
 (h:Q (((sIx n 0 lo:Nat):Int),1,sIx n n hi-sIx n 0 lo) s):wpAny (model prog w) A (Builtin.Slice.sliceApplied (.ref sl) (pure (n:Int))) Q E s:=by
 obtain⟨os,hos,hcs,hds⟩:=id hs
 unfold Builtin.Slice.sliceApplied Builtin.Slice.sliceFields
 refine wpAny_bind (wpAny_bind (wpAny_field hos hds (x:=vl) rfl (wpAny_bind (wpAny_field hos hds (x:=vu) rfl (wpAny_bind (wpAny_field hos hds (x:=.none) rfl (wpAny_pure ?_)))))))
 refine wpAny_bind (slicePart_none ?_)
 show wpAny _ _ (if ((1:Int)==0)=true then _ else _) _ _ s
 rw [if_neg (by decide)]
 refine wpAny_bind (Rj pl (wpAny_bind (Rj pu (wpAny_bind (wpAny_pure ?_)))))
 show wpAny _ _ (match Builtin.Slice.sliceAdjust lo hi 1 (n:Int) with | (lo,hi)=>pure (lo,(1:Int),Builtin.Slice.slicePlaces lo hi 1)) _ _ s
 rw [y9 lo hi n]
 show wpAny _ _ (pure (((sIx n 0 lo:Nat):Int),(1:Int),Builtin.Slice.slicePlaces ((sIx n 0 lo:Nat):Int) ((sIx n n hi:Nat):Int) 1)) _ _ s
 rw [e8]
 exact wpAny_pure h
theorem Ar2 (xs:Array Value) (i k:Nat):((List.range k).filterMap fun (m:Nat)=>xs[((i:Int)+(m:Int)*1).toNat]?).toArray=((xs.toList.drop i).take k).toArray:=by
 have e:(fun (m:Nat)=>xs[((i:Int)+(m:Int)*1).toNat]?)=fun m=>xs[i+m]?:=by
  funext m
  have:((i:Int)+(m:Int)*1).toNat=i+m:=by omega
  rw [this]
 rw [e]
 have:=pick_run xs i k
 rw [List.filterMap_map] at this
 have e2:((fun x=>xs[x]?) ∘ fun x=>i+x)=fun m=>xs[i+m]?:=rfl
 rw [e2] at this
 rw [this]
theorem getItem_tuple_cut {t sl:Addr}{items:Array Value}{vl vu:Value}{lo hi:Option Int}{Q:Value->Shared->Prop} (ht:IsTup s.heap t items) (hs:s.heap.IsSliceOf sl vl vu .none) (pl:IsPart vl lo) (pu:IsPart vu hi)
 (hw:¬(sIx items.size 0 lo=0/\sIx items.size items.size hi=items.size))
 (h:Q (.ref s.heap.objs.size) { s with heap:=s.heap.push { cls:=.type "tuple",data:=.seq ((items.toList.drop (sIx items.size 0 lo)).take (sIx items.size items.size hi-sIx items.size 0 lo)).toArray } })
 (hsz:items.size<=sizeLine):wpAny (model prog w) A (getItem (.ref t) (.ref sl)) Q E s:=by
 have htake:sizeOk (.seq ((items.toList.drop (sIx items.size 0 lo)).take (sIx items.size items.size hi-sIx items.size 0 lo)).toArray):=by
  show ((items.toList.drop (sIx items.size 0 lo)).take (sIx items.size items.size hi-sIx items.size 0 lo)).toArray.size<=sizeLine
  rw [List.size_toArray,List.length_take,List.length_drop,Array.length_toList]
  omega
 have hj:sIx items.size items.size hi<=items.size:=A76 _ _ (Nat.le_refl _) hi
 obtain⟨os,hos,hcs,hds⟩:=id hs
 have hTs:s.TypeIs (.ref sl) "slice":=⟨os,hos,hcs⟩
 unfold getItem
 try with_reducible refine wpAny_holding ?_
 first | refine wpAny_bind (wpAny_pure ?_) | skip
 refine wpAny_bind (wpAny_sequenceKey ht.typeIs (by decide) ?_)
 refine wpAny_bind (wpAny_callSpecial?_slot (name:=Str.ofString "__getitem__") ht.typeIs PyProof.Rows.slot_tuple_getitem
  (wpAny_call_entry PyProof.Rows.slot_tuple_getitem ht.typeIs entry_tuple_getitem ?_ (args_tuple_getitem _ _)))
 show wpAny _ _ (Builtin.Tuple.tupleItemsOf (.ref t)>>=_) _ _ s
 refine wpAny_bind (tupleItemsOf_ ht ?_)
 refine wpAny_bind (wpAny_typeOf hTs ?_)
 rw [if_pos (by decide)]
 refine wpAny_bind (M5 hs pl pu ?_)
 have hno:¬((((sIx items.size 0 lo:Nat):Int)==0&&(1:Int)==1&&(sIx items.size items.size hi-sIx items.size 0 lo)==items.size)=true):=by
  intro q
  rw [Bool.and_eq_true,Bool.and_eq_true] at q
  have q1:((sIx items.size 0 lo:Nat):Int)=0:=eq_of_beq q.1.1
  have q2:sIx items.size items.size hi-sIx items.size 0 lo=items.size:=eq_of_beq q.2
  exact hw ⟨by omega,by omega⟩
 show wpAny _ _ (if (((sIx items.size 0 lo:Nat):Int)==0&&(1:Int)==1&&(sIx items.size items.size hi-sIx items.size 0 lo)==items.size)=true then _ else _) _ _ s
 rw [if_neg hno,Ar2]
 first
  | exact wpAny_bind (m:=Builtin.Tuple.tupleExact _) (wpAny_newObj_type (wpAny_pure ⟨_,rfl,wpAny_pure h⟩) htake)
  | exact wpAny_bind (m:=Builtin.Tuple.tupleExact _) (wpAny_newObj_type (wpAny_bind (wpAny_pure (wpAny_pure ⟨_,rfl,wpAny_pure h⟩))) htake)
  | exact wpAny_bind (wpAny_bind (m:=Builtin.Tuple.tupleExact _) (wpAny_newObj_type (wpAny_pure (wpAny_pure ⟨_,rfl,wpAny_pure h⟩)) htake))
  | exact wpAny_bind (wpAny_bind (m:=Builtin.Tuple.tupleExact _) (wpAny_newObj_type (wpAny_pure ⟨_,rfl,wpAny_pure h⟩) htake))
end
end HT
namespace L2
open PySem PySem.Spec PyProof.Rows
abbrev TO:=St->Hp->(Option Int->Hp->Prop)->Prop
def PO (X:Cx) (e:Option Expr) (t:TO):Prop :=
 ∀ (Aa:List (Addr × Obj)) (s:Shared) (σ:St) (H:Hp) (Q:Option Int->Hp->Prop),Inv X Aa σ H s->t σ H Q →
   wpAny (model X.prog X.w) X.A (evalPart e X.env) (fun u s'=>∃ o H',Inv X Aa σ H' s'/\IsPart u o/\Q o H') X.xe s
def Az0:TO:=fun _ H Q=>Q none H
def Bd7 (t:TE):TO:=fun σ H Q=>t σ H fun x H1=>∃ i,x=.int i/\Q (some i) H1
section
variable {X:Cx}{e:Expr}{te:TE}{lo hi:Option Expr}{tl th:TO}{pos p2:Pos}
theorem Ft:PO X none Az0:=by
 intro Aa s σ H Q I h
 rw [evalPart_none]
 exact wpAny_pure ⟨none,H,I,.none,h⟩
theorem Eb (h:PE X e te):PO X (some e) (Bd7 te):=by
 intro Aa s σ H Q I hw
 rw [evalPart_some]
 refine thn (h Aa s σ H _ I hw) fun u s1 ⟨x,H1,I1,r1,q1⟩=>?_
 obtain⟨i,rfl,q⟩:=q1
 obtain⟨t,rfl⟩:=r1
 exact ⟨some i,H1,I1,.int i t,q⟩
def SlR (X:Cx) (r:V->Option Int->Option Int->Hp->VK->Prop):Prop :=
 ∀ (Aa:List (Addr × Obj)) (s:Shared) (σ:St) (H:Hp) (x:V) (v vl vu:Value) (lo hi:Option Int) (sl:Addr) (Q:VK),Inv X Aa σ H s->RelV x v->s.heap.IsSliceOf sl vl vu .none->IsPart vl lo->IsPart vu hi->r x lo hi H Q →
   ∃ T id,typeLookup (.type T) "__getitem__"=pure (some (.builtin id))/\s.TypeIs v T/\wpAny (model X.prog X.w) X.A (getItem v (.ref sl)) (EP X Aa σ Q) X.xe s
def tSl (r:V->Option Int->Option Int->Hp->VK->Prop) (te:TE) (tl th:TO):TE:=fun σ H Q=>te σ H fun x H1=>tl σ H1 fun l H2=>th σ H2 fun u H3=>r x l u H3 Q
theorem Di {r:V->Option Int->Option Int->Hp->VK->Prop} (hr:SlR X r) (he:PE X e te) (hl:PO X lo tl) (hu:PO X hi th):PE X (.Subscript e (.Slice lo hi none p2) pos) (tSl r te tl th):=by
 intro Aa s σ H Q I h
 refine Subscript_ (thn (he Aa s σ H _ I h) fun v s1 ⟨x,H1,I1,r1,q1⟩=>?_)
 refine wpAny_Slice (thn (hl Aa s1 σ H1 _ I1 q1) fun vl s2 ⟨l,H2,I2,pl,q2⟩=>thn (hu Aa s2 σ H2 _ I2 q2) fun vu s3 ⟨u,H3,I3,pu,q3⟩=>?_)
 rw [evalPart_none]
 refine wpAny_pure ?_
 have I4:Inv X Aa σ H3 { s3 with heap:=s3.heap.push { cls:=.type "slice",data:=.fields #[vl,vu,.none] } }:=I3.kept (t':=s3.toks) fun b ob q=>Heap.get?_push_of_some _ q
 obtain⟨T,id,hT,ht,hg⟩:=hr Aa { s3 with heap:=s3.heap.push { cls:=.type "slice",data:=.fields #[vl,vu,.none] } } σ H3 x v vl vu l u s3.heap.objs.size Q I4 r1 (Heap.IsSliceOf.new ..) pl pu q3
 show wpAny (model X.prog X.w) X.A (subscriptTail e (.Slice lo hi none p2) v (.ref s3.heap.objs.size)) (EP X Aa σ Q) X.xe { s3 with heap:=s3.heap.push { cls:=.type "slice",data:=.fields #[vl,vu,.none] } }
 exact tail_any (ops:=[.ref s3.heap.objs.size,v]) ht hT hg (by with_unfolding_all rfl)
def cutV (xs:List V) (lo hi:Option Int):List V:=(xs.drop (HT.sIx xs.length 0 lo)).take (HT.sIx xs.length xs.length hi-HT.sIx xs.length 0 lo)
theorem Ph (xs:List V) (lo hi:Option Int):(cutV xs lo hi).length<=xs.length:=by
 unfold cutV
 rw [List.length_take,List.length_drop]
 omega
def rSlT (K:W.Frag):V->Option Int->Option Int->Hp->VK->Prop:=fun x lo hi H Q=>∃ a xs,x=.ref a/\SqT K H a xs ∧
 ¬(HT.sIx xs.length 0 lo=0/\HT.sIx xs.length xs.length hi=xs.length)/\∀ p,H p=none->Q (.ref p) (upd H p (.tup (cutV xs lo hi)))
theorem A73:SlR X (rSlT X.K):=by
 intro Aa s σ H x v vl vu lo hi sl Q I rx hs pl pu h
 obtain⟨a,xs,rfl,hx,hw,q⟩:=h
 cases rx
 obtain⟨its,r,ht,hz⟩:=I.tuple hx
 have hlen:its.toArray.size=xs.length:=by rw [List.size_toArray];exact r.length.symm
 refine⟨"tuple",_,PyProof.Rows.slot_tuple_getitem.lookup,ht.typeIs,?_⟩
 refine HT.getItem_tuple_cut ht hs pl pu (by rw [hlen];exact hw) ?_ (by rw [hlen];exact hz)
 rw [hlen]
 refine⟨.ref s.heap.objs.size,_,I.laid (t':=s.toks) (o:=.tup (cutV xs lo hi)) (fun b ob q=>Heap.get?_push_of_some _ q) (Nat.le_refl _) ?_,rfl,q _ (I.hok.fresh (Nat.le_refl _))⟩
 exact ⟨Nat.le_trans (Ph xs lo hi) hz,_,(r.drop (HT.sIx xs.length 0 lo)).take (HT.sIx xs.length xs.length hi-HT.sIx xs.length 0 lo),Jr.new _ _⟩
def Be8 (K:W.Frag):R2:=fun x y H Q=>∃ a b xs ys,x=.ref a/\y=.ref b/\SqT K H a xs/\SqT K H b ys/\xs≠[]/\xs.length+ys.length<=sizeLine ∧
 (ys=[]->Q (.ref a) H)/\(ys≠[]->∀ p,H p=none->Q (.ref p) (upd H p (.tup (xs++ys))))
theorem Vals.nil_iff {xs:List V}{us:List Value} (r:Vals xs us):us=[]↔xs=[]:=by
 cases r with
 | nil=>simp
 | cons _ _=>simp
theorem A19:OpR X (binaryOp .Add) (Be8 X.K):=by
 intro Aa s σ H x y v u Q I rx ry h
 obtain⟨a,b,xs,ys,rfl,rfl,ha,hb,hx,hz,q1,q2⟩:=h
 cases rx
 cases ry
 obtain⟨its,r1,p1,_⟩:=I.tuple ha
 obtain⟨its2,r2,p2,_⟩:=I.tuple hb
 refine HT.cat_tup p1 p2 (fun z=>hx (r1.nil_iff.mp z)) (fun z=>⟨.ref a,H,I,rfl,q1 (r2.nil_iff.mp z)⟩) (fun z=>?_) (by rw [←r1.length,←r2.length];exact hz)
 refine⟨.ref s.heap.objs.size,_,I.laid (t':=s.toks) (o:=.tup (xs++ys)) (fun b ob q=>Heap.get?_push_of_some _ q) (Nat.le_refl _) ?_,rfl,q2 (fun w=>z (r2.nil_iff.mpr w)) _ (I.hok.fresh (Nat.le_refl _))⟩
 exact ⟨by rw [List.length_append];exact hz,_,r1.append r2,Jr.new _ _⟩
end
end L2
namespace L2
open PySem PySem.Spec PyProof.Rows
def ixN (n:Nat) (i:Int):Option Nat:=if 0<=i then (if i<n then some i.toNat else none) else if -(n:Int)<=i then some (i+n).toNat else none
def atI {α:Type} (xs:List α) (i:Int):Option α:=(ixN xs.length i).bind fun j=>xs[j]?
theorem Ai0 {n:Nat}{i:Int}{j:Nat} (h:ixN n i=some j):seqIndex? i n=some j/\j<n/\-(n:Int)<=i/\i<n:=by
 unfold ixN at h
 by_cases h0:0<=i
 . rw [if_pos h0] at h
   by_cases h1:i<n
   . rw [if_pos h1] at h
     have e:i.toNat=j:=Option.some.inj h
     exact ⟨by rw [seqIndex_of h0 h1,e],by omega,by omega,h1⟩
   . rw [if_neg h1] at h;cases h
 . rw [if_neg h0] at h
   by_cases h1:-(n:Int)<=i
   . rw [if_pos h1] at h
     have e:(i+n).toNat=j:=Option.some.inj h
     exact ⟨by rw [seqIndex_neg (by omega) h1,e],by omega,h1,by omega⟩
   . rw [if_neg h1] at h;cases h
theorem Y3 {α:Type}{xs:List α}{i:Int}{v:α} (h:atI xs i=some v):∃ j,seqIndex? i xs.length=some j/\xs[j]?=some v/\j<xs.length/\-(xs.length:Int)<=i/\i<xs.length:=by
 unfold atI at h
 cases e:ixN xs.length i with
 | none=>rw [e] at h;cases h
 | some j =>
   rw [e] at h
   obtain⟨h1,h2,h3,h4⟩:=Ai0 e
   exact ⟨j,h1,h,h2,h3,h4⟩
theorem Co {α:Type}{xs:List α}{j:Nat}{v:α} (h:xs[j]?=some v):atI xs (j:Int)=some v:=by
 have hj:j<xs.length:=(List.getElem?_eq_some_iff.mp h).1
 have e:ixN xs.length (j:Int)=some j:=by
  unfold ixN
  rw [if_pos (by omega),if_pos (by omega)];simp
 unfold atI;rw [e];exact h
def Ap1 (b:Expr):Prop:=∀ o i,subscripted b false o i=operate [o,i] (getItem o i)
def IxR (X:Cx) (r:R2):Prop :=
 ∀ (value slice:Expr) (Aa:List (Addr × Obj)) (s:Shared) (σ:St) (H:Hp) (x y:V) (v u:Value) (Q:VK),Inv X Aa σ H s->RelV x v->RelV y u->r x y H Q →
   subscripted slice false v u=operate [v,u] (getItem v u)->wpAny (model X.prog X.w) X.A (subscriptTail value slice v u) (EP X Aa σ Q) X.xe s
def MtR (X:Cx) (id:String) (r:V->List V->Hp->VK->Prop):Prop :=
 ∀ (Aa:List (Addr × Obj)) (s:Shared) (σ:St) (H:Hp) (x:V) (xs:List V) (v:Value) (us:List Value) (Q:VK),Inv X Aa σ H s->RelV x v->Vals xs us->r x xs H Q →
   wpAny (model X.prog X.w) X.A (call (.builtin id) (v::us)) (EP X Aa σ Q) X.xe s
section
variable {X:Cx}{a b:Expr}{ta tb:TE}{pos:Pos}
theorem Ba {r:R2} (hr:IxR X r) (ha:PE X a ta) (hb:PE X b tb) (hs:Ap1 b):PE X (.Subscript a b pos) (tOp r ta tb):=by
 intro Aa s σ H Q I h
 exact Subscript_ (binT ha hb I h fun v u s2 x y H2 I2 rx ry q=>hr a b Aa s2 σ H2 x y v u Q I2 rx ry q (hs _ _))
def rIxL (K:W.Frag):R2:=fun x y H Q=>∃ p xs i v,x=.ref p/\y=.int i/\SqL K H p xs/\atI xs i=some v/\Q v H
def rIxT (K:W.Frag):R2:=fun x y H Q=>∃ p xs i v,x=.ref p/\y=.int i/\SqT K H p xs/\atI xs i=some v/\Q v H
theorem A38:IxR X (rIxL X.K):=by
 intro value slice Aa s σ H x y v u Q I rx ry h hs
 obtain⟨p,xs,i,z,rfl,rfl,hq,he,q⟩:=h
 cases rx
 obtain⟨t,rfl⟩:=ry
 obtain⟨its,r,pl,hz⟩:=I.list hq
 obtain⟨j,h1,h2,h3,h4,h5⟩:=Y3 he
 obtain⟨w,ew,rw'⟩:=r.get h2
 have hl:=r.length
 have hn:=Vn
 have fin:EP X Aa σ Q w s:=⟨z,H,I,rw',q⟩
 by_cases h0:0<=i
 . have hj:i.toNat=j:=by
    rw [seqIndex_of h0 h5] at h1
    exact Option.some.inj h1
   exact item_listR pl.isList h0 (by omega) (by rw [hj];simpa using ew) fin hs
 . have hj:(i+(its.toArray.size:Int)).toNat=j:=by
    rw [seqIndex_neg (by omega) h4] at h1
    rw [List.size_toArray,←hl]
    exact Option.some.inj h1
   exact subscriptTail_builtinR (x:=w) pl.isList.typeIs slot_list_getitem.lookup
    (wpAny_getItem_list_neg (Q:=fun r s'=>r=w/\EP X Aa σ Q r s') pl.isList (by omega) (by rw [List.size_toArray]<;>omega) (by omega) (by rw [hj];simpa using ew) ⟨rfl,fin⟩) hs
theorem Bb9:IxR X (rIxT X.K):=by
 intro value slice Aa s σ H x y v u Q I rx ry h hs
 obtain⟨p,xs,i,z,rfl,rfl,hq,he,q⟩:=h
 cases rx
 obtain⟨t,rfl⟩:=ry
 obtain⟨its,r,pl,hz⟩:=I.tuple hq
 obtain⟨j,h1,h2,h3,h4,h5⟩:=Y3 he
 obtain⟨w,ew,rw'⟩:=r.get h2
 have hl:=r.length
 have hn:=Vn
 have fin:EP X Aa σ Q w s:=⟨z,H,I,rw',q⟩
 exact subscriptTail_builtinR (x:=w) pl.typeIs slot_tuple_getitem.lookup
  (getItem_tuple (j:=j) (Q:=fun r s'=>r=w/\EP X Aa σ Q r s') pl (by omega) (by omega) (by rw [List.size_toArray,←hl];exact h1) (by simpa using ew) ⟨rfl,fin⟩) hs
theorem j8 (its:List Value) (n j:Nat) (u:Value):Obj.mapSeq (·.setIfInBounds j u) { cls:=.type "list",data:=.seq its.toArray n }={ cls:=.type "list",data:=.seq (its.set j u).toArray n }:=by
 simp [Obj.mapSeq]
theorem Inv.lst {Aa:List (Addr × Obj)}{σ:St}{H:Hp}{s:Shared}{p:Addr}{xs:List V} (I:Inv X Aa σ H s) (h:H p=some (.lst xs)) :
 ∃ (its:List Value) (n:Nat),Vals xs its/\s.heap.get? p=some { cls:=.type "list",data:=.seq its.toArray n }/\xs.length<=sizeLine:=by
 obtain⟨z,its,n,r,e⟩:=I.hok p _ h
 exact ⟨its,n,r,e,z⟩
theorem Inv.lstUpd {Aa:List (Addr × Obj)}{σ:St}{H:Hp}{s:Shared}{p:Addr}{xs ys:List V}{its its':List Value}{n n':Nat}{f:Obj->Obj} (I:Inv X Aa σ H s) (h:H p=some (.lst xs))
 (ho:s.heap.get? p=some { cls:=.type "list",data:=.seq its.toArray n }) (hf:f { cls:=.type "list",data:=.seq its.toArray n }={ cls:=.type "list",data:=.seq its'.toArray n' }) (r:Vals ys its') (hz:ys.length<=sizeLine) (t:Nat) :
 Inv X Aa σ (upd H p (.lst ys)) { s with heap:=s.heap.update p f,toks:=t }:=by
 have e:(s.heap.update p f).get? p=some { cls:=.type "list",data:=.seq its'.toArray n' }:=by
  rw [Heap.get?_update_self f ho (by rw [hf]<;>rfl),hf]
 refine I.write (x:=p) (e:=p) (by rw [h];trivial) (.inl rfl) (fun b u hb q=>(Heap.get?_update_other _ _ (Ne.symm hb)).trans q) ⟨_,e⟩ ?_
 exact ⟨hz,its',n',r,e⟩
def Be7:V->V->V->Hp->(Hp->Prop)->Prop:=fun o i v H Q=>∃ p xs k j,o=.ref p/\i=.int k/\H p=some (.lst xs)/\ixN xs.length k=some j/\Q (upd H p (.lst (xs.set j v)))
theorem Aq2:PSet X Be7:=by
 intro Aa s σ H o i v ov iv u Q I ro ri rv h
 obtain⟨p,xs,k,j,rfl,rfl,hp,hj,q⟩:=h
 cases ro
 obtain⟨t,rfl⟩:=ri
 obtain⟨its,n,r,ho,hz⟩:=I.lst hp
 obtain⟨h1,h2,h3,h4⟩:=Ai0 hj
 have hl:=r.length
 have hn:=Vn
 have I':Inv X Aa σ (upd H p (.lst (xs.set j v))) { s with heap:=s.heap.update p (Obj.mapSeq (·.setIfInBounds j u)) } :=
  I.lstUpd hp ho (j8 its n j u) (r.set rv j) (by rw [List.length_set];exact hz) s.toks
 by_cases h0:0<=k
 . have hk:k.toNat=j:=by
    rw [seqIndex_of h0 h4] at h1
    exact Option.some.inj h1
   exact PySem.W.ki_setAt ho h0 (by omega) (by rw [List.size_toArray,←hl];exact h4) (by rw [hk];exact ⟨_,I',q⟩)
 . have hk:(k+(its.toArray.size:Int)).toNat=j:=by
    rw [seqIndex_neg (by omega) h3] at h1
    rw [List.size_toArray,←hl]
    exact Option.some.inj h1
   exact PySem.W.ki_setBack ho (by omega) (by rw [List.size_toArray,←hl];exact h3) (by omega) (by rw [hk];exact ⟨_,I',q⟩)
theorem Uq (lo hi:Option Int) (n:Nat):(sliceBounds lo hi none n).1=((HT.sIx n 0 lo:Nat):Int)/\(sliceBounds lo hi none n).2.1=((HT.sIx n n hi:Nat):Int)/\(sliceBounds lo hi none n).2.2=1:=by
 refine⟨?_,?_,rfl⟩
 . cases lo with
   | none=>simp [sliceBounds,HT.sIx]
   | some i =>
     simp only [sliceBounds,HT.sIx,Option.getD_none,show (1:Int) > 0 by decide,if_true]
     by_cases h:i<0
     . simp only [h,if_true]<;>omega
     . simp only [h,if_false]<;>omega
 . cases hi with
   | none=>simp [sliceBounds,HT.sIx]
   | some i =>
     simp only [sliceBounds,HT.sIx,Option.getD_none,show (1:Int) > 0 by decide,if_true]
     by_cases h:i<0
     . simp only [h,if_true]<;>omega
     . simp only [h,if_false]<;>omega
theorem Ss (its:List Value) (lo hi:Option Int):slicePick its.toArray lo hi none=((its.drop (HT.sIx its.length 0 lo)).take (HT.sIx its.length its.length hi-HT.sIx its.length 0 lo)).toArray:=by
 obtain⟨h1,h2,h3⟩:=Uq lo hi its.toArray.size
 unfold slicePick
 rw [h1,h2,h3]
 simp only [sliceRange_one,pick_run,List.size_toArray]<;>rfl
def rSlL (K:W.Frag):V->Option Int->Option Int->Hp->VK->Prop:=fun x lo hi H Q=>∃ a xs,x=.ref a/\SqL K H a xs/\∀ p,H p=none->Q (.ref p) (upd H p (.lst (cutV xs lo hi)))
theorem Az5:SlR X (rSlL X.K):=by
 intro Aa s σ H x v vl vu lo hi sl Q I rx hs pl pu h
 obtain⟨a,xs,rfl,hx,q⟩:=h
 cases rx
 obtain⟨its,r,ht,hz⟩:=I.list hx
 have hlen:=r.length
 refine⟨"list",_,slot_list_getitem.lookup,ht.isList.typeIs,?_⟩
 refine wpAny_getItem_list_slice ht.isList hs pl pu .none (by simp) ?_ (by rw [List.size_toArray]<;>omega)
 rw [Ss,←hlen]
 refine⟨.ref s.heap.objs.size,_,I.laid (t':=s.toks) (o:=.lst (cutV xs lo hi)) (fun b ob q=>Heap.get?_push_of_some _ q) (Nat.le_refl _) ?_,rfl,q _ (I.hok.fresh (Nat.le_refl _))⟩
 exact ⟨Nat.le_trans (Ph xs lo hi) hz,_,0,(r.drop (HT.sIx xs.length 0 lo)).take (HT.sIx xs.length xs.length hi-HT.sIx xs.length 0 lo),Heap.get?_push_size _ rfl⟩
theorem Wl:F9 X (.builtin "len") (fun xs H Q=>∃ p ys,xs=[.ref p]/\(SqL X.K H p ys\/SqT X.K H p ys)/\Q (.int ys.length) H):=by
 intro Aa s σ H xs us Q I r h
 obtain⟨p,ys,rfl,hq,q⟩:=h
 obtain⟨u,rfl,rx⟩:=Um r
 cases rx
 have hn:=Vn
 rcases hq with hq | hq
 . obtain⟨its,r',pl,hz⟩:=I.list hq
   have hlen:=r'.length
   exact Calls.call_len_list pl.isList (by simp only [List.size_toArray]<;>omega) ⟨.int ys.length,H,I.tok _,⟨s.toks+1,by rw [List.size_toArray,hlen]⟩,q⟩
 . obtain⟨its,r',pl,hz⟩:=I.tuple hq
   have hlen:=r'.length
   exact len_tuple pl (by simp only [List.size_toArray]<;>omega) ⟨.int ys.length,H,I.tok _,⟨s.toks+1,by rw [List.size_toArray,hlen]⟩,q⟩
theorem Wk:F9 X (.type "list") (fun xs H Q=>∃ p ys,xs=[.ref p]/\(SqL X.K H p ys\/SqT X.K H p ys)/\∀ l,H l=none->Q (.ref l) (upd H l (.lst ys))):=by
 intro Aa s σ H xs us Q I r h
 obtain⟨p,ys,rfl,hq,q⟩:=h
 obtain⟨u,rfl,rx⟩:=Um r
 cases rx
 have fin:∀ (its:List Value),Vals ys its->ys.length<=sizeLine->∀ (h':Heap) (c':Nat),(∀ b o',s.heap.get? b=some o'->h'.get? b=some o') →
  h'.get? s.heap.objs.size=some { cls:=.type "list",dict:=none,data:=.seq its.toArray c',slots:=#[] }->EP X Aa σ Q (.ref s.heap.objs.size) { s with heap:=h' }:=fun its r' hz h' c' kp e =>
  ⟨.ref s.heap.objs.size,_,I.laid (t':=s.toks) kp (Nat.le_refl _) (show ObjOk X.prog X.w _ h' _ (.lst ys) from ⟨hz,its,c',r',e⟩),rfl,q _ (I.hok.fresh (Nat.le_refl _))⟩
 rcases hq with hq | hq
 . obtain⟨its,r',pl,hz⟩:=I.list hq
   have hlen:=r'.length
   obtain⟨o,ho,hc,n,hd⟩:=pl.isList
   exact call_list_seq p (.inl rfl) ho hc hd (fun h' c' kp e=>fin its r' hz h' c' kp e) (by simp only [List.size_toArray]<;>omega)
 . obtain⟨its,r',pl,hz⟩:=I.tuple hq
   have hlen:=r'.length
   obtain⟨o,ho,hc,n,hd⟩:=pl
   exact call_list_seq p (.inr rfl) ho hc hd (fun h' c' kp e=>fin its r' hz h' c' kp e) (by simp only [List.size_toArray]<;>omega)
theorem Uf:F9 X (.type "tuple") (fun xs H Q=>∃ p ys,xs=[.ref p]/\((SqL X.K H p ys/\∀ l,H l=none->Q (.ref l) (upd H l (.tup ys)))\/(SqT X.K H p ys/\Q (.ref p) H))):=by
 intro Aa s σ H xs us Q I r h
 obtain⟨p,ys,rfl,h⟩:=h
 obtain⟨u,rfl,rx⟩:=Um r
 cases rx
 rcases h with ⟨hq,q⟩|⟨hq,q⟩
 . obtain⟨its,r',pl,hz⟩:=I.list hq
   have hlen:=r'.length
   refine call_tuple_list pl.isList (fun h' kp=>?_) (by simp only [List.size_toArray]<;>omega)
   have I1:Inv X Aa σ H { s with heap:=h' }:=I.kept (t':=s.toks) kp
   have I2:Inv X Aa σ (upd H h'.objs.size (.tup ys)) { s with heap:=h'.push { cls:=.type "tuple",data:=.seq its.toArray } } :=
    I1.laid (t':=s.toks) (fun b o e=>Heap.get?_push_of_some _ e) (Nat.le_refl _) (show ObjOk X.prog X.w _ _ _ (.tup ys) from ⟨hz,its,r',Jr.new _ _⟩)
   exact ⟨.ref h'.objs.size,_,I2,rfl,q _ (I1.hok.fresh (Nat.le_refl _))⟩
 . obtain⟨its,r',pl,hz⟩:=I.tuple hq
   exact call_tuple_same pl ⟨.ref p,H,I,rfl,q⟩
def tyV (K:W.Frag) (T:String) (x:V) (H:Hp):Prop:=match x with
 | .str _=>T="str"
 | .int _=>T="int"
 | .ref p=>(T="list"/\∃ xs,SqL K H p xs)\/(T="tuple"/\∃ o,K.lookup p=some o/\o.cls=.type "tuple"/\o.dict=none) ∨
    (T="dict"/\((∃ kvs,H p=some (.dK kvs))\/∃ kvs,H p=some (.dT kvs)))\/(T="set"/\∃ S n,H p=some (.set S n))
 | _=>False
theorem A63 {Aa:List (Addr × Obj)}{σ:St}{H:Hp}{s:Shared}{T:String}{x:V}{v:Value} (I:Inv X Aa σ H s) (r:RelV x v) (ty:tyV X.K T x H) :
 s.TypeIs v T/\∀ a,v=.ref a->∃ ob,s.heap.get? a=some ob/\ob.dict=none:=by
 cases x with
 | str z =>
   obtain⟨t,rfl⟩:=r
   cases (show T="str" from ty)
   exact ⟨typeIs_str s z t,fun _ e=>nomatch e⟩
 | int i =>
   obtain⟨t,rfl⟩:=r
   cases (show T="int" from ty)
   exact ⟨typeIs_int s i t,fun _ e=>nomatch e⟩
 | ref p =>
   cases r
   rcases ty with ⟨rfl,xs,hq⟩|⟨rfl,o,hk,hc,hd⟩|⟨rfl,hk⟩|⟨rfl,S,n,hk⟩
   . obtain⟨its,_,pl,_⟩:=I.list hq
     refine⟨pl.isList.typeIs,fun a e=>?_⟩
     cases e
     obtain⟨o,n,e,c,hd,_⟩:=pl
     exact ⟨o,e,hd⟩
   . refine⟨⟨o,I.kIn p o hk,hc⟩,fun a e=>?_⟩
     cases e
     exact ⟨o,I.kIn _ o hk,hd⟩
   . have z:∃ o,s.heap.get? p=some o/\o.ExactDict:=by
      rcases hk with ⟨kvs,hk⟩|⟨kvs,hk⟩
      . obtain⟨_,_,_,_,o,_,_,e,ex,_⟩:=I.hok p _ hk
        exact ⟨o,e,ex⟩
      . obtain⟨_,_,_,_,o,_,_,e,ex,_⟩:=I.hok p _ hk
        exact ⟨o,e,ex⟩
     obtain⟨o,e,ex⟩:=z
     refine⟨⟨o,e,ex.1⟩,fun a e2=>?_⟩
     cases e2
     exact ⟨o,e,ex.2.1⟩
   . obtain⟨o,_,_,_,e,ex,_⟩:=I.hok p _ hk
     refine⟨⟨o,e,ex.1⟩,fun a e2=>?_⟩
     cases e2
     exact ⟨o,e,ex.2.1⟩
 | _=>exact False.elim ty
def tBM (K:W.Frag) (T:String) (r:V->List V->Hp->VK->Prop) (to:TE) (t:TA):TE:=fun σ H Q=>to σ H fun x H1=>tyV K T x H1/\t σ H1 fun xs H2=>r x xs H2 Q
variable {o e:Expr}{es:List Expr}{to:TE}{t:TA}{name:Str}{apos cpos:Pos}{T id:String}{r:V->List V->Hp->VK->Prop}
theorem Be9 (pa:PlainAttrs T) (slot:Slot T name id) (hty:typeOf (.builtin id)=pure (.type "method_descriptor")) (hm:MtR X id r) (ho:PE X o to) (ha:PA X (e::es) t)
 (hbase:attributeBase o name X.env (eval o X.env)=eval o X.env:=by rfl)
 (hfew:((backTo cpos (starEach (e::es) X.env)).all (fun x=>!x.1)&&(backToKw cpos (keywordEach [] X.env)).all (fun x=>x.1.isSome)
   && decide ((e::es).length+([]:List Keyword).length+(if ([]:List Keyword).isEmpty then 0 else 1)<30))=true:=by rfl)
 (hline:(apos.endLine==cpos.line)=true:=by rfl) (hs:starEach (e::es) X.env=(false,eval e X.env)::starEach es X.env:=by rfl) (hplain:(backTo cpos (starEach es X.env)).any (·.1)=false:=by rfl) :
 PE X (.Call (.Attribute o name apos) (e::es) [] cpos) (tBM X.K T r to t):=by
 intro Aa s σ H Q I h
 refine wpAny_Call_method_late hbase hfew hline rfl (thn (ho Aa s σ H _ I h) fun v s1 ⟨x,H1,I1,r1,ty,q1⟩=>?_)
 obtain⟨h1,h2⟩:=A63 I1 r1 ty
 refine⟨T,id,pa,slot,hty,h1,h2,?_⟩
 have hA:=ha cpos Aa s1 σ H1 _ I1 q1
 rw [hs] at hA ⊢
 refine Calls.callWith_builtin (by show (false || (backTo cpos (starEach es X.env)).any (·.1))=false;rw [hplain]<;>rfl) (Calls.evalArgs_plain ?_)
 exact thn hA fun us s2 ⟨vs,H2,I2,r2,q2⟩=>hm Aa s2 σ H2 x vs v us Q I2 r1 r2 q2
end
end L2
namespace L2
open PySem PySem.Spec PyProof.Rows
def MtM (X:Cx) (id:String) (r:V->List V->Hp->VK->Prop):Prop :=
 ∀ (Aa:List (Addr × Obj)) (s:Shared) (σ:St) (H:Hp) (x:V) (xs:List V) (v:Value) (us:List Value) (Q:VK),Inv X Aa σ H s->RelV x v->Vals xs us->r x xs H Q →
   wpAny (model X.prog X.w) X.A (call (.builtin id) (v::us)) (EP X Aa σ Q) X.xe s
theorem Vals.one:∀{x:V}{us:List Value},Vals [x] us->∃ u,us=[u]/\RelV x u
 | _,_,.cons r .nil=>⟨_,rfl,r⟩
section
variable {X:Cx}{Aa:List (Addr × Obj)}{σ:St}{H:Hp}{s:Shared}{l b:Addr}{xs ys zs:List V}
theorem Inv.lset {its its':List Value}{n:Nat}{f:Array Value->Array Value}{t':Nat} (I:Inv X Aa σ H s) (hH:H l=some (.lst xs))
 (e:s.heap.get? l=some { cls:=.type "list",data:=.seq its.toArray n }) (hf:f its.toArray=its'.toArray) (hv:Vals ys its') (hz:ys.length<=sizeLine) :
 Inv X Aa σ (upd H l (.lst ys)) { s with heap:=s.heap.update l (Obj.mapSeq f),toks:=t' }:=by
 have q:=PySem.IsL.update e f
 rw [hf] at q
 refine I.write (x:=l) (e:=l) (by rw [hH];exact trivial) (.inl rfl) (fun b' u hb hu=>(Heap.get?_update_other s.heap (Obj.mapSeq f) (Ne.symm hb)).trans hu) ⟨_,q⟩ ?_
 exact ⟨hz,its',_,hv,q⟩
theorem Inv.lnew {its:List Value}{t':Nat} (I:Inv X Aa σ H s) (hv:Vals ys its) (hz:ys.length<=sizeLine) :
 Inv X Aa σ (upd H s.heap.objs.size (.lst ys)) { s with heap:=s.heap.push { cls:=.type "list",data:=.seq its.toArray },toks:=t' } :=
 I.laid (fun _ _ q=>Heap.get?_push_of_some _ q) (Nat.le_refl _) ⟨hz,its,0,hv,Heap.get?_push_size _ rfl⟩
theorem Inv.fresh (I:Inv X Aa σ H s):H s.heap.objs.size=none:=I.hok.fresh (Nat.le_refl _)
theorem Inv.lstM (I:Inv X Aa σ H s) (hH:H l=some (.lst xs)):xs.length<=sizeLine/\∃ (its:List Value) (n:Nat),Vals xs its/\xs.length=its.length/\s.heap.get? l=some { cls:=.type "list",data:=.seq its.toArray n }:=by
 obtain⟨z,its,n,r,e⟩:=I.hok l _ hH
 exact ⟨z,its,n,r,r.length,e⟩
end
section
variable {X:Cx}
def A03:V->List V->Hp->VK->Prop:=fun x vs H Q=>∃ l xs y,x=.ref l/\vs=[y]/\H l=some (.lst xs)/\xs.length<sizeLine/\Q .non (upd H l (.lst (xs++[y])))
theorem B5:MtM X "list.append" A03:=by
 intro Aa s σ H x vs v us Q I rx rv h
 obtain⟨l,xs,y,rfl,rfl,hH,hz,q⟩:=h
 cases rx
 obtain⟨u,rfl,ru⟩:=rv.one
 obtain⟨z,its,n,r,hl,e⟩:=I.lstM hH
 refine call_meets F.slot_list_append ⟨_,e,rfl⟩ F.entry_list_append (F.args_list_append_2 _ _) (PySem.list_append l its.toArray n u (by rw [List.size_toArray];omega)) ⟨e,?_⟩
 refine⟨.non,_,I.lset (its':=its++[u]) hH e (by simp) (r.append (.cons ru .nil)) ?_,rfl,q⟩
 rw [List.length_append,List.length_singleton]
 omega
end
section
variable {prog:Program}{w:World}{A:Around}{E:Value->Shared->Prop}{s:Shared}
end
section
variable {X:Cx}
end
end L2
namespace Att
open PySem PySem.W PySem.Calls PyProof.Rows
theorem Oy {P:Params}{h:Heap}:∀ (ns:List Int) (vs:List Value),WellAll P h vs (ns.map WData.int)->IntsAre vs ns:=by
 intro ns
 induction ns with
 | nil =>
   intro vs w
   rw [List.map_nil] at w
   cases w
   exact .nil
 | cons n ns ih =>
   intro vs w
   rw [List.map_cons] at w
   cases w with
   | cons a b =>
     cases a
     exact .cons _ _ (ih _ b)
theorem Ab0 {l:OpenLaw}{n:Nat} (hn:l.most=some n) {P:Params}{h:Heap}{args:List WData}{vals:List Value}
 (hpre:l.row.toRowW.claim.pre args=true) (hwl:WellAll P h vals args) :
 ∃ a vs ns,vals=[Value.ref a]/\args=[WData.list (ns.map WData.int)]/\h.get? a=some { cls:=.type "list",data:=.seq vs.toArray }/\IntsAre vs ns/\ns.length<=n:=by
 have hsh:WShape.hasAll [] args [.list .int]=true:=(pre_splitW hpre).1
 have hc:l.pre.holds [] { args:=args }=true:=(pre_splitW hpre).2
 obtain⟨d,r,rfl,h1,h2⟩:=hasAllW_cons hsh
 obtain rfl:=hasAllW_nil h2
 obtain⟨xs,rfl,h3⟩:=hasW_list h1
 obtain⟨ns,rfl⟩:=items_int h3
 have hlen:ns.length<=n:=by
  unfold OpenLaw.pre at hc
  have h4:(WTm.not (.lt (.lit (.int (n:Int))) (.len (.arg 0)))).holds [] { args:=[.list (ns.map .int)] }=true:=by
   have h4:=(holds_andW hc).1
   rw [hn] at h4
   exact h4
  have h5:=condW_of h4 (w_not (w_lt w_lit (w_len_list (w_arg rfl))))
  rw [List.length_map] at h5
  refine Nat.le_of_not_lt fun q=>?_
  have q':(n:Int)<((ns.length:Nat):Int):=by omega
  first
   | (rw [decide_eq_true q'] at h5;exact absurd h5 (by decide))
   | (simp at h5;omega)
 cases hwl with
 | cons w1 w2 =>
   cases w2
   cases w1 with
   | list ho hall=>exact ⟨_,_,ns,rfl,rfl,ho,Oy ns _ hall,hlen⟩
theorem Ac4 (l:OpenLaw) (args:List WData):l.row.toRowW.claim.post args (.bool true) args=true :=
 postW_of (r:=l.row.toRowW) (X:=(true==true))
  (show WShape.has [] (.bool true) .bool=true by first | rfl | decide | simp [WShape.has,WShape.arms,WShape.armsAll])
  (show (WTm.eq .res (.lit (.bool true))).value [] { args:=args,res:=some (.bool true),after:=args }=some (.bool (true==true)) from w_eq_bool (w_res rfl) w_lit) rfl
theorem attach_call {l:OpenLaw}{n:Nat}{q:Program}{loose:List Str}{XP:(Str->Option Value)->Heap->Prop}{YP:World->Heap->Prop}{d:DefRec}
 (hn:l.most=some n) (hdf:d.params.defaults=[])
 (call:∀ (w:World) (s₀ s₁:Shared) (mg mb:Str->Option Value) (fa:Addr) (o:Obj) (pm cd doc:Value) (a:Addr) (vs:List Value) (ns:List Int),
   Ground q loose [] XP w s₀ mg mb s₁.heap->YP w s₁.heap →
   s₁.heap.get? fa=some o->o.data=.func (docDef d.name d.params d.body d.scope pm cd doc)->s₁.heap.CodeRec cd d.name->mg d.name=some (.ref fa) →
   s₁.heap.get? a=some { cls:=.type "list",data:=.seq vs.toArray }->IntsAre vs ns->ns.length<=n->s₁.gens=#[] →
   codeAny (model l.prog w) callerA (.call (.ref fa) ⟨[.ref a],[]⟩) (fun r s'=>r=.ok (.ret (.bool true))/\OldK s₁.heap s'.heap/\s'.os=s₁.os/\AllBare s'.gens) s₁) :
 WalkO q loose XP YP l.row.toRowW d [] (fun f vs=>PySem.call f vs):=by
 intro w s₀ s₁ mg mb G Y fa o pm cd doc dV kV ho hd hcd hD hmg hg args vals as hpre hlay hrd hwl hlo
 obtain rfl:dV=.none:=Dflts.none hD hdf
 obtain rfl:kV=.none:=Dflts.noKw hD
 obtain⟨a,vs,ns,rfl,rfl,hobj,hints,hlen⟩:=Ab0 hn hpre hwl
 refine enter_call (codeAny_mono (call w s₀ s₁ mg mb fa o pm cd doc a vs ns G Y ho (fd_plain hd) hcd hmg hobj hints hlen hg) fun r s' hq=>?_)
 obtain⟨rfl,h2,h3,h4⟩:=hq
 exact ⟨.inl ⟨.bool true,.bool true,[],rfl,fun _=>rfl,.bool true,Ac4 l _,fun _=>⟨List.Pairwise.nil,fun _ hm=>(nomatch hm)⟩⟩,h2,h3,h4⟩
section
variable {prog:Program}{w:World}{A:Around}{E:Value->Shared->Prop}{s:Shared}{K:Frag}
end
end Att
namespace L2
open PySem PySem.Spec PyProof.Rows
theorem Ul:∀{vs:List Value}{ns:List Int},IntsAre vs ns->Vals (ns.map V.int) vs
 | _,_,.nil=>.nil
 | _,_,.cons n t h=>.cons ⟨t,rfl⟩ (Ul h)
def Only (H:Hp):Prop:=∀ b,H b=none\/∃ o xs,H b=some (.frz o (.lst xs))
theorem Au1 {P:Program}{w:World}{K:W.Frag}{mg mb:Str->Option Value}{CX:CXT}{k:Nat}{fa a:Addr}{fd:FuncData}{x:Str}{sp:Sp}{s₁:Shared}{vs:List Value}{ns:List Int}
 (KX:K.In s₁.heap) (hns:s₁.heap.Ns mainGlobals mg) (hb:s₁.heap.Ns builtinsNs mb) (hbb:∀ x:Str,x≠"__name__"->mb x=bootBuiltins x) (hlim:s₁.heap.NoLimit) (hg:s₁.gens=#[])
 (ha:s₁.heap.get? a=some { cls:=.type "list",data:=.seq vs.toArray }) (hi:IntsAre vs ns) (hl:ns.length<=sizeLine) (hr:Room k callerA)
 (F:∀ base:Heap,K.In base->base.Ns mainGlobals mg->FnOk P w K mg base CX k fa fd [x] sp) (hbind:∀ (s:Shared) (u:Value),BindsTo s fd ⟨[u],[]⟩ [(x,u)])
 (hsp:∀ H:Hp,Only H->SqL K H a (ns.map V.int)->sp [.ref a] H (fun v _=>v=.bl true) fun _ _ _=>False)
 (hCX:∀ H e s',CX [] H s₁ (fun _ _ _=>False) e s'->False) :
 codeAny (model P w) callerA (.call (.ref fa) ⟨[.ref a],[]⟩) (fun r s'=>r=.ok (.ret (.bool true))/\OldK s₁.heap s'.heap/\s'.os=s₁.os/\AllBare s'.gens) s₁:=by
 have rv:=Ul hi
 have lenV:=hi.length
 have core:∀ H:Hp,Only H->SqL K H a (ns.map V.int)->HOk P w H s₁.heap->(∀ b,H b≠none->b=a)->(H a≠none->K.lookup a=none) →
  codeAny (model P w) callerA (.call (.ref fa) ⟨[.ref a],[]⟩) (fun r s'=>r=.ok (.ret (.bool true))/\OldK s₁.heap s'.heap/\s'.os=s₁.os/\AllBare s'.gens) s₁:=by
  intro H hO hS hok hA hK
  have base_of:∀{b:Addr}{o:Obj},s₁.heap.get? b=some o->H b=none->(hidT s₁.heap H).get? b=some o:=fun e n=>Au4 e n
  have noA:∀{b:Addr}{o:Obj}{es:Array DictEntry}{ep:Nat},s₁.heap.get? b=some o->o.data=.dict es ep->H b=none:=fun {b o es ep} e d=>by
   cases q:H b with
   | none=>rfl
   | some u =>
     have e':b=a:=hA b (by rw [q];simp)
     subst e'
     rw [ha] at e;cases e
     have d':Data.seq vs.toArray _=Data.dict es ep:=d
     cases d'
  have nsK:∀{b:Addr}{m:Str->Option Value},s₁.heap.Ns b m->(hidT s₁.heap H).Ns b m:=fun {b m} ⟨o,es,ep,e,d,r⟩=>⟨o,es,ep,base_of e (noA e d),d,r⟩
  have hKb:K.In (hidT s₁.heap H):=fun b o e=>base_of (KX b o e) (by
   cases q:H b with
   | none=>rfl
   | some u =>
     have e':b=a:=hA b (by rw [q];simp)
     subst e'
     rw [hK (by rw [q];simp)] at e;cases e)
  have hM:Mod K mg (hidT s₁.heap H):=⟨hKb,nsK hns,⟨mb,nsK hb,hbb⟩,let ⟨mc,h1,h2⟩:=hlim;⟨mc,nsK h1,h2⟩⟩
  have e0:Env0 P w K mg (hidT s₁.heap H) callerA [] s₁ H:=⟨rfl,hM,fun b o e=>A23 e,Nat.le_of_eq (Ai6 _ _),trivial,fun b hb=>absurd (show b∈([]:List Addr) from hb) (by simp),hok,.of_eq hg⟩
  refine codeAny_mono ((F _ hKb (nsK hns)).run callerA [] s₁ H ⟨[.ref a],[]⟩ [.ref a] [.ref a] _ _ hr e0 (hbind s₁ (.ref a)) (.cons rfl .nil) (hsp H hO hS)) fun r s' h=>?_
  cases r with
  | error e=>exact (hCX H e s' h).elim
  | ok fl =>
    cases fl with
    | next=>exact False.elim h
    | brk=>exact False.elim h
    | cont=>exact False.elim h
    | ret u =>
      obtain⟨v,H',os,bare,un,hok',r',q⟩:=h
      have q':v=.bl true:=q
      subst q'
      obtain rfl:u=Value.bool true:=r'
      refine⟨rfl,OldK.of_keep fun b o e=>?_,os,bare⟩
      cases q:H b with
      | none=>exact un.keep b o e q (by intro z;exact absurd (show b∈([]:List Addr) from z) (by simp)) (by simp)
      | some u =>
        rcases hO b with z|⟨ob,xs,z⟩
        . rw [q] at z;cases z
        . have z2:=un.frzs b ob _ z
          obtain⟨e1,_⟩:=hok b _ z
          obtain⟨e2,_⟩:=hok' b _ z2
          rw [e] at e1;cases e1
          exact e2
 cases hk:K.lookup a with
 | some o =>
   have e:=KX a o hk
   rw [ha] at e
   cases e
   refine core (fun _=>none) (fun _=>.inl rfl) (.inr ⟨_,vs.toArray,_,hk,rfl,rfl,rfl,by rw [List.size_toArray,lenV];exact hl,by simpa using rv⟩) (fun b u z=>by have z':(none:Option HO)=some u:=z;cases z') (fun b z=>absurd rfl z) fun z=>absurd rfl z
 | none =>
   refine core (fun b=>if b=a then some (.frz { cls:=.type "list",data:=.seq vs.toArray } (.lst (ns.map V.int))) else none) (fun b=>?_) (.inl (.inr ⟨{ cls:=.type "list",data:=.seq vs.toArray },if_pos rfl⟩)) (fun b u z=>?_) (fun b z=>?_) fun _=>hk
   . by_cases hb:b=a
     . exact .inr ⟨_,_,if_pos hb⟩
     . exact .inl (if_neg hb)
   . by_cases hb:b=a
     . have z':=(if_pos hb).symm.trans z
       cases z'
       subst hb
       exact ⟨ha,by rw [List.length_map];exact hl,vs,_,rv,ha⟩
     . have z':=(if_neg hb).symm.trans z
       cases z'
   . by_cases hb:b=a
     . exact hb
     . exact absurd (if_neg hb) z
end L2
namespace L2
open PySem PySem.Spec PyProof.Rows
theorem walk_of {l:PySem.W.OpenLaw}{n k:Nat}{q:Program}{loose:List Str}{XP:(Str->Option Value)->Heap->Prop}{YP:World->Heap->Prop}{d:DefRec}{K:Params->PySem.W.Frag}{CX:World->CXT}{sp:World->Sp}{x:Str}
 (hn:l.most=some n) (hn2:n<=sizeLine) (hdf:d.params.defaults=[]) (hr:Room k callerA)
 (hY:∀ (w:World) (h:Heap),YP w h->(K w.params).In h)
 (F:∀ (w:World) (mg:Str->Option Value) (fa:Addr) (h:Heap),(K w.params).In h->h.Ns mainGlobals mg->mg d.name=some (.ref fa) →
   ∃ fd:FuncData,(∀ (s:Shared) (u:Value),BindsTo s fd ⟨[u],[]⟩ [(x,u)]) ∧
     ∀ base:Heap,(K w.params).In base->base.Ns mainGlobals mg->FnOk l.prog w (K w.params) mg base (CX w) k fa fd [x] (sp w))
 (hsp:∀ (w:World) (H:Hp) (a:Addr) (ns:List Int),ns.length<=n->Only H->SqL (K w.params) H a (ns.map V.int)->sp w [.ref a] H (fun v _=>v=.bl true) fun _ _ _=>False)
 (hCX:∀ (w:World) (H:Hp) (s:Shared) (e:Value) (s':Shared),CX w [] H s (fun _ _ _=>False) e s'->False) :
 PySem.W.WalkO q loose XP YP l.row.toRowW d [] (fun f vs=>PySem.call f vs):=by
 refine Att.attach_call hn hdf fun w s₀ s₁ mg mb fa o pm cd doc a vs ns G Y ho hd hcd hmg hobj hints hlen hg=>?_
 have KX:=hY w _ Y
 obtain⟨fd,hb,hF⟩:=F w mg fa _ KX G.T.g hmg
 exact Au1 KX G.T.g G.T.b G.T.builtins G.T.nolimit hg hobj hints (Nat.le_trans hlen hn2) hr hF hb (fun H hO hS=>hsp w H a ns hlen hO hS) fun H e s'=>hCX w H s₁ e s'
end L2
namespace L2
open PySem PySem.Spec PyProof.Rows
def Oz (s:Stmt) (j:Nat):Stmt:=match s with
 | .ClassDef _ _ _ body _ _ _ _ _ _ _=>body.getD j (.Pass ⟨0,0,0,0⟩)
 | _=>.Pass ⟨0,0,0,0⟩
def Au (s:Stmt):Arguments:=match s with
 | .FunctionDef _ a _ _ _ _ _ _ _ _=>a
 | _=>{ posonlyargs:=[],args:=[],vararg:=none,kwonlyargs:=[],kw_defaults:=[],kwarg:=none,defaults:=[] }
def At (s:Stmt):List Stmt:=match s with
 | .FunctionDef _ _ b _ _ _ _ _ _ _=>b
 | _=>[]
def Ag (s:Stmt):Scope:=match s with
 | .FunctionDef _ _ _ _ _ _ sc _ _ _=>sc
 | _=>{ kind:=.function,names:=[],isGenerator:=false,isCoroutine:=false }
abbrev CX0:CXT:=fun _ _ _ _ _ _=>False
abbrev E0:XK:=fun _ _ _=>False
theorem As1 {X:Cx}:P4 CX0 X E0:=fun _ _ _ _ _ _ _ h=>h.elim
structure Fun (K:W.Frag) (x qual:Str) (st:Stmt) (f:Addr) (fd:FuncData):Prop where
 ex:∃ (oc:Value) (od:Option Addr) (kV doc pm:Value) (an:Option Addr) (Bu ct:Value) (osl:Array (Option Value)),
  fd=PySem.W.fnOf x qual (Au st) (At st) (Ag st) .none kV doc pm an Bu ct/\K.lookup f=some ⟨oc,od,.func fd,osl⟩/\PySem.W.codeIn K Bu qual=true
 kp:PySem.W.keepIn K (.ref f)=true
section
variable {P:Program}{w:World}{K:W.Frag}{mg:Str->Option Value}{base:Heap}
theorem Fun.ok {x qual:Str}{st:Stmt}{f:Addr}{fd:FuncData}{N ps:List Str}{k:Nat}{sp:Sp} (F:Fun K x qual st f fd) (S:FnScope N ps (Ag st)) (len:∀ vs H Q E,sp vs H Q E->vs.length=ps.length)
 (hbody:∀ (Bu:Value) (A:Around) (outer:List Env) (s:Shared) (H:Hp) (vs:List V) (Q:VK) (E:XK),Room k (A.deeper (envOfC qual (Ag st) s.heap.objs.size f Bu))->sp vs H Q E →
   ∃ t,PSs (cxOf CX0 P w K mg base N qual (Ag st) f Bu A outer s H E).nox (At st) t/\t { nx:=fun _ H'=>Q .non H',rt:=Q } (start N vs) H):FnOk P w K mg base CX0 (k+1) f fd ps sp:=by
 obtain⟨oc,od,kV,doc,pm,an,Bu,ct,osl,rfl,lk,hcd⟩:=F.ex
 refine Bc5 lk hcd S len fun A outer s H vs Q E hr hsp=>?_
 obtain⟨t,h,q⟩:=hbody Bu A outer s H vs Q E hr hsp
 exact ⟨t,h.nox,q⟩
theorem Fun.binds {x qual:Str}{st:Stmt}{f:Addr}{fd:FuncData}{ps:List Str} (F:Fun K x qual st f fd)
 (h:∀ (kV doc pm:Value) (an:Option Addr) (Bu ct:Value) (us:List Value),us.length=ps.length->bindArgs (PySem.W.fnOf x qual (Au st) (At st) (Ag st) .none kV doc pm an Bu ct) ⟨us,[]⟩=pure (ps.zip us)):Kd K fd ps []:=by
 obtain⟨oc,od,kV,doc,pm,an,Bu,ct,osl,rfl,lk,hcd⟩:=F.ex
 exact .all (h kV doc pm an Bu ct)
theorem A6 {x qual:Str}{st:Stmt}{f:Addr}{oc:Value}{od an:Option Addr}{osl:Array (Option Value)}{kV doc pm Bu ct:Value} (l:K.lookup f=some ⟨oc,od,.func (PySem.W.fnOf x qual (Au st) (At st) (Ag st) .none kV doc pm an Bu ct),osl⟩)
 (c:PySem.W.codeIn K Bu qual=true) (k:PySem.W.keepIn K (.ref f)=true):Fun K x qual st f (PySem.W.fnOf x qual (Au st) (At st) (Ag st) .none kV doc pm an Bu ct):=⟨⟨oc,od,kV,doc,pm,an,Bu,ct,osl,rfl,l,c⟩,k⟩
end
section
variable {X:Cx}
theorem pv (i:Nat) {x:Str}{pos:Pos} (hN:X.N[i]?=some x:=by rfl) (hv:Vis X.env.scope x:=by first | exact Or.inl rfl | exact Or.inr (Or.inl rfl) | exact Or.inr (Or.inr rfl)) (hd:(x==("__debug__":Str))=false:=by decide)
 (hcd:(x==("__classdict__":Str))=false:=by decide):PE X (.Name x pos) (tVar i):=A88 hN hv hd hcd
end
theorem ite2 {c A B:Prop} [Decidable c] (h1:c->A) (h2:¬c->B):if c then A else B:=by
 by_cases h:c
 . rw [if_pos h]
   exact h1 h
 . rw [if_neg h]
   exact h2 h
def Same (H H':Hp):Prop:=∀ b o,H b=some o->H' b=some o
theorem Same.refl (H:Hp):Same H H:=fun _ _ h=>h
theorem Same.trans {H H1 H2:Hp} (a:Same H H1) (b:Same H1 H2):Same H H2:=fun c o h=>b c o (a c o h)
theorem Same.free {H H':Hp} (e:Same H H') {l:Addr} (h:H' l=Option.none):H l=Option.none:=by
 cases q:H l with
 | none=>rfl
 | some o =>
   rw [e l o q] at h
   cases h
theorem Same.seq {K:W.Frag}{H H':Hp}{a:Addr}{xs:List V} (e:Same H H') (h:SqL K H a xs):SqL K H' a xs:=by
 rcases h with (h|⟨o,h⟩) | h
 . exact .inl (.inl (e _ _ h))
 . exact .inl (.inr ⟨o,e _ _ h⟩)
 . exact .inr h
end L2
namespace L2
open PySem PySem.Spec PyProof.Rows
section
variable {κ:Type} [DecidableEq κ]
def valV (kvs:List (κ × V)) (k:κ):Option V:=(kvs.find? fun kv=>decide (kv.1=k)).map (·.2)
def putK (kvs:List (κ × V)) (k:κ) (v:V):List (κ × V) :=
 if (kvs.any fun kv=>decide (kv.1=k))=true then kvs.map (fun kv=>if kv.1=k then (kv.1,v) else kv) else kvs++[(k,v)]
def V2 (kvs:List (κ × V)) (k:κ):List (κ × V):=kvs.filter fun kv=>decide (kv.1≠k)
theorem Sg {p:κ × V}{r:List (κ × V)}{k:κ} (e:p.1=k):valV (p::r) k=some p.2:=by simp [valV,List.find?_cons,e]
theorem Sh {p:κ × V}{r:List (κ × V)}{k:κ} (e:¬p.1=k):valV (p::r) k=valV r k:=by simp [valV,List.find?_cons,e]
theorem Za (k:κ):∀ kvs:List (κ × V),(kvs.any fun kv=>decide (kv.1=k))=(valV kvs k).isSome
 | []=>rfl
 | p::r=>by
   rw [List.any_cons]
   by_cases e:p.1=k
   . simp only [Sg e,decide_eq_true e,Bool.true_or,Option.isSome_some]
   . rw [Sh e,decide_eq_false e,Bool.false_or];exact Za k r
theorem J2 (kvs:List (κ × V)) (k:κ) (v:V):(putK kvs k v).length<=kvs.length+1:=by
 unfold putK
 split
 . rw [List.length_map];omega
 . rw [List.length_append,List.length_cons,List.length_nil];omega
theorem RelO.isSome_eq {o:Option V}{u:Option Value} (r:RelO o u):o.isSome=u.isSome:=by
 cases o with
 | none=>cases u with
   | none=>rfl
   | some _=>exact (show False from r).elim
 | some _=>cases u with
   | none=>exact (show False from r).elim
   | some _=>rfl
theorem RelO.getD {o:Option V}{u:Option Value}{d:V}{d':Value} (r:RelO o u) (rd:RelV d d'):RelV (o.getD d) (u.getD d'):=by
 cases o with
 | none=>cases u with
   | none=>exact rd
   | some _=>exact (show False from r).elim
 | some _=>cases u with
   | none=>exact (show False from r).elim
   | some _=>exact r
theorem KV.val {kvs:List (κ × V)}{vs:List (κ × Value)} (r:KV kvs vs) (k:κ):RelO (valV kvs k) (valueAt vs k):=by
 unfold KV at r
 induction r with
 | nil=>exact True.intro
 | @cons p q ps qs h t ih =>
   obtain⟨h1,h2⟩:=h
   by_cases e:p.1=k
   . have e':q.1=k:=h1.symm.trans e
     have b:valueAt (q::qs) k=some q.2:=by simp [valueAt,List.find?_cons,e']
     rw [Sg e,b];exact h2
   . have e':¬q.1=k:=fun z=>e (h1.trans z)
     have b:valueAt (q::qs) k=valueAt qs k:=by simp [valueAt,List.find?_cons,e']
     rw [Sh e,b];exact ih
theorem KV.any {kvs:List (κ × V)}{vs:List (κ × Value)} (r:KV kvs vs) (k:κ):(kvs.any fun kv=>decide (kv.1=k))=vs.any fun kv=>decide (kv.1=k):=by
 unfold KV at r
 induction r with
 | nil=>rfl
 | cons h t ih=>rw [List.any_cons,List.any_cons,ih,h.1]
theorem KV.repl {kvs:List (κ × V)}{vs:List (κ × Value)} (r:KV kvs vs) (k:κ) {y:V}{u:Value} (ry:RelV y u) :
 KV (kvs.map fun kv=>if kv.1=k then (kv.1,y) else kv) (vs.map fun kv=>if kv.1=k then (kv.1,u) else kv):=by
 unfold KV at r ⊢
 induction r with
 | nil=>exact .nil
 | @cons p q ps qs h t ih =>
   rw [List.map_cons,List.map_cons]
   refine .cons ?_ ih
   obtain⟨h1,h2⟩:=h
   by_cases e:p.1=k
   . rw [if_pos e,if_pos (h1.symm.trans e)];exact ⟨h1,ry⟩
   . rw [if_neg e,if_neg (fun z=>e (h1.trans z))];exact ⟨h1,h2⟩
theorem KV.put {kvs:List (κ × V)}{vs:List (κ × Value)} (r:KV kvs vs) (k:κ) {y:V}{u:Value} (ry:RelV y u):KV (putK kvs k y) (stored vs k u):=by
 unfold putK stored
 rw [r.any k]
 by_cases e:(vs.any fun kv=>decide (kv.1=k))=true
 . rw [if_pos e,if_pos e];exact r.repl k ry
 . rw [if_neg e,if_neg e];exact Paired.snoc r ⟨rfl,ry⟩
theorem KV.drop {kvs:List (κ × V)}{vs:List (κ × Value)} (r:KV kvs vs) (k:κ):KV (V2 kvs k) (without vs k):=by
 unfold KV at r ⊢
 unfold V2 without
 induction r with
 | nil=>exact .nil
 | @cons p q ps qs h t ih =>
   obtain⟨h1,h2⟩:=h
   rw [List.filter_cons,List.filter_cons]
   by_cases e:p.1=k
   . have a:¬decide (p.1≠k)=true:=by simp [e]
     have b:¬decide (q.1≠k)=true:=by simp [h1.symm.trans e]
     rw [if_neg a,if_neg b];exact ih
   . have e':¬q.1=k:=fun z=>e (h1.trans z)
     have a:decide (p.1≠k)=true:=by simp [e]
     have b:decide (q.1≠k)=true:=by simp [e']
     rw [if_pos a,if_pos b];exact .cons ⟨h1,h2⟩ ih
theorem KV.keys {kvs:List (κ × V)}{vs:List (κ × Value)} (r:KV kvs vs):kvs.map (·.1)=vs.map (·.1):=by
 unfold KV at r
 induction r with
 | nil=>rfl
 | cons h t ih=>rw [List.map_cons,List.map_cons,ih,h.1]
theorem KV.length {kvs:List (κ × V)}{vs:List (κ × Value)} (r:KV kvs vs):kvs.length=vs.length:=Paired.length r
theorem Zp (kvs:List (κ × V)) (k:κ):(V2 kvs k).length<=kvs.length:=List.length_filter_le _ _
end
theorem kV_is {P:Program}{w:World}{k:Key}{u:Value} (r:RelV (kV k) u):(mixKind P w).is k u=true:=by
 cases k with
 | inl i=>obtain⟨t,e⟩:=(show ∃ t,u=Value.int i t from r);subst e;exact X6 P w i t
 | inr x=>obtain⟨t,e⟩:=(show ∃ t,u=Value.str x t from r);subst e;exact X5 P w x t
theorem Vu {P:Program}{w:World}:∀{ks:List Key}{us:List Value},Vals (ks.map kV) us->ItemsAre (mixKind P w) ks us
 | [],_,r=>by rw [List.map_nil] at r;cases r;exact .nil
 | k::ks,_,r=>by
   rw [List.map_cons] at r
   cases r with
   | cons h t=>exact .cons (kV_is h) (Vu t)
abbrev KT (H:Hp):List (List Key × V)->List (List Key × Addr × Value)->Prop:=Paired fun p q=>p.1=q.1/\H q.2.1=some (.tup (p.1.map kV))/\RelV p.2 q.2.2
theorem KT.val {H:Hp}{kvs:List (List Key × V)}{xs:List (List Key × Addr × Value)} (r:KT H kvs xs) (k:List Key):RelO (valV kvs k) ((atKey xs k).map (·.2)):=by
 induction r with
 | nil=>exact True.intro
 | @cons p q ps qs h t ih =>
   obtain⟨h1,_,h2⟩:=h
   by_cases e:p.1=k
   . have e':q.1=k:=h1.symm.trans e
     have b:atKey (q::qs) k=some q.2:=by simp [atKey,List.find?_cons,e']
     rw [Sg e,b];exact h2
   . have e':¬q.1=k:=fun z=>e (h1.trans z)
     have b:atKey (q::qs) k=atKey qs k:=by simp [atKey,List.find?_cons,e']
     rw [Sh e,b];exact ih
theorem KT.repl {H:Hp}{kvs:List (List Key × V)}{xs:List (List Key × Addr × Value)} (r:KT H kvs xs) (k:List Key) {y:V}{u:Value} (ry:RelV y u) :
 KT H (kvs.map fun kv=>if kv.1=k then (kv.1,y) else kv) (xs.map (putAt k u)):=by
 induction r with
 | nil=>exact .nil
 | @cons p q ps qs h t ih =>
   rw [List.map_cons,List.map_cons]
   refine .cons ?_ ih
   obtain⟨h1,h2,h3⟩:=h
   unfold putAt
   by_cases e:p.1=k
   . rw [if_pos e,if_pos (h1.symm.trans e)];exact ⟨h1,h2,ry⟩
   . rw [if_neg e,if_neg (fun z=>e (h1.trans z))];exact ⟨h1,h2,h3⟩
theorem KT.put {H:Hp}{kvs:List (List Key × V)}{xs:List (List Key × Addr × Value)} (r:KT H kvs xs) (k:List Key) {b:Addr}{y:V}{u:Value} (hb:H b=some (.tup (k.map kV))) (ry:RelV y u) :
 KT H (putK kvs k y) (storedH xs k b u):=by
 have e:(kvs.any fun kv=>decide (kv.1=k))=(atKey xs k).isSome:=by
  rw [Za,(r.val k).isSome_eq,Option.isSome_map]
 unfold putK storedH
 rw [e]
 by_cases q:(atKey xs k).isSome=true
 . rw [if_pos q,if_pos q];exact r.repl k ry
 . rw [if_neg q,if_neg q];exact Paired.snoc r ⟨rfl,hb,ry⟩
theorem KT.keeps {H H':Hp}{kvs:List (List Key × V)}{xs:List (List Key × Addr × Value)} (r:KT H kvs xs) (ht:∀ b ys,H b=some (.tup ys)->H' b=some (.tup ys)):KT H' kvs xs :=
 Paired.mapP r fun _ _ z=>⟨z.1,ht _ _ z.2.1,z.2.2⟩
section
variable {P:Program}{w:World}{H:Hp}{h:Heap}{a:Addr}
theorem A77 {u:HO} (ok:HOk P w H h) (e:Rd H a u):ObjOk P w H h a u:=e.ok ok
theorem Pd {kvs:List (Key × V)} (ok:HOk P w H h) (e:Rd H a (.dK kvs)):kvs.length<=sizeLine/\(a==sysModules)=false/\∃ vs,KV kvs vs/\h.DictOf (mixKind P w) a vs :=
 show ObjOk P w H h a (.dK kvs) from A77 ok e
theorem Ak6 {kvs:List (Key × V)} (ok:HOk P w H h) (e:H a=some (.dK kvs)):kvs.length<=sizeLine/\(a==sysModules)=false/\∃ vs,KV kvs vs/\h.DictOf (mixKind P w) a vs:=Pd ok (.inl e)
theorem Rm {ks:List Key} (ok:HOk P w H h) (e:H a=some (.tup (ks.map kV))):(tupleKind (mixKind P w)).is h ks a:=by
 obtain⟨_,its,r,o,h1,h2,_,n,h3⟩:=(show ObjOk P w H h a (.tup (ks.map kV)) from ok a _ e)
 exact ⟨o,its.toArray,n,h1,h2,h3,by simpa using Vu r⟩
theorem Yp {kvs:List (List Key × V)} (ok:HOk P w H h) (e:Rd H a (.dT kvs)):kvs.length<=sizeLine/\(a==sysModules)=false ∧
 ∃ xs,KT H kvs xs/\h.DictOfH (tupleKind (mixKind P w)) a xs:=by
 obtain⟨z,y,xs,r,o,es,ep,h1,h2,h3,h4,h5⟩:=(show ObjOk P w H h a (.dT kvs) from A77 ok e)
 refine⟨z,y,xs,r,o,es,ep,h1,h2,h3,h4,fun x hx=>?_,h5⟩
 have all:∀{l:List (List Key × V)}{m:List (List Key × Addr × Value)},KT H l m->∀ x∈m,(tupleKind (mixKind P w)).is h x.1 x.2.1:=by
  intro l m q
  induction q with
  | nil=>intro x hx;exact nomatch hx
  | @cons p q ps qs hq t ih =>
    intro x hx
    rcases List.mem_cons.mp hx with e | hx
    . subst e
      exact Rm ok (by rw [←hq.1];exact hq.2.1)
    . exact ih x hx
 exact all r x hx
theorem Bg1 {kvs:List (List Key × V)} (ok:HOk P w H h) (e:H a=some (.dT kvs)):kvs.length<=sizeLine/\(a==sysModules)=false ∧
 ∃ xs,KT H kvs xs/\h.DictOfH (tupleKind (mixKind P w)) a xs:=Yp ok (.inl e)
end
def DGet (H:Hp) (a:Addr) (y:V) (r:Option V):Prop :=
 (∃ kvs k,Rd H a (.dK kvs)/\y=kV k/\r=valV kvs k)\/∃ kvs k b,Rd H a (.dT kvs)/\y=.ref b/\H b=some (.tup (k.map kV))/\r=valV kvs k
def DPut (H:Hp) (a:Addr) (y v:V) (H':Hp):Prop :=
 (∃ kvs k,H a=some (.dK kvs)/\y=kV k/\kvs.length<sizeLine/\H'=upd H a (.dK (putK kvs k v))) ∨
 ∃ kvs k b,H a=some (.dT kvs)/\y=.ref b/\H b=some (.tup (k.map kV))/\kvs.length<sizeLine/\H'=upd H a (.dT (putK kvs k v))
theorem DGet.k {H:Hp}{a:Addr}{kvs:List (Key × V)}{k:Key} (e:H a=some (.dK kvs)):DGet H a (kV k) (valV kvs k):=.inl ⟨kvs,k,.inl e,rfl,rfl⟩
section
variable {X:Cx}{Aa:List (Addr × Obj)}{σ:St}{H:Hp}{s:Shared}{a:Addr}{y v:V}{u r:Value}{o:Option V}{A:Around}{E:Value->Shared->Prop}
theorem Inv.big (I:Inv X Aa σ H s):sysModules<s.heap.objs.size:=by
 have h:mainGlobals<s.heap.objs.size:=(I.mod.glob.keeps I.bk).lt
 exact Nat.lt_trans (by decide) h
theorem Al8 {Q:Value->Shared->Prop} (hu:A.units+1<cLine) (I:Inv X Aa σ H s) (g:DGet H a y (some v)) (ry:RelV y u) (h:∀ w' s',Inv X Aa σ H s'->RelV v w'->Q w' s') :
 wpAny (model X.prog X.w) A (getItem (.ref a) u) Q E s:=by
 rcases g with ⟨kvs,k,e,ey,l⟩|⟨kvs,k,b,e,ey,eb,l⟩
 . subst ey
   obtain⟨z,hd,vs,rel,dd⟩:=Pd I.hok e
   obtain⟨w',hw,rw'⟩:=RelO.some_of (v:=v) (o:=valueAt vs k) (by rw [l];exact rel.val k)
   exact wpAny_getItem_of (kV_is ry) dd.mapOf hw (h w' _ (I.tok _) rw')
 . subst ey
   cases (show u=Value.ref b from ry)
   obtain⟨z,hd,xs,rel,dd⟩:=Yp I.hok e
   obtain⟨w',hw,rw'⟩:=RelO.some_of (v:=v) (o:=(atKey xs k).map (·.2)) (by rw [l];exact rel.val k)
   obtain⟨p,hp,hp2⟩:=Option.map_eq_some_iff.mp hw
   refine wpAny_getItem_heap (tupleKind_room_in1 hu) (Rm I.hok eb) dd hp ?_
   rw [hp2]
   exact h w' _ (I.tok _) rw'
theorem d_in {Q:Value->Shared->Prop} (hu:A.units+1<cLine) (I:Inv X Aa σ H s) (g:DGet H a y o) (ry:RelV y u) (h:∀ s',Inv X Aa σ H s'->Q (.bool o.isSome) s') :
 wpAny (model X.prog X.w) A (compareOp .In u (.ref a)) Q E s:=by
 rcases g with ⟨kvs,k,e,ey,l⟩|⟨kvs,k,b,e,ey,eb,l⟩
 . subst ey
   obtain⟨z,hd,vs,rel,dd⟩:=Pd I.hok e
   refine wpAny_in_of (kV_is ry) hd dd.mapOf ?_
   rw [←(rel.val k).isSome_eq,←l]
   exact h _ (I.tok _)
 . subst ey
   cases (show u=Value.ref b from ry)
   obtain⟨z,hd,xs,rel,dd⟩:=Yp I.hok e
   refine wpAny_in_heap (tupleKind_room_in1 hu) (Rm I.hok eb) hd dd ?_
   have q:=(rel.val k).isSome_eq
   rw [Option.isSome_map] at q
   rw [←q,←l]
   exact h _ (I.tok _)
theorem Pg {h':Heap}{t':Nat}{ob:HO} (I:Inv X Aa σ H s) (mu:Mut (H a)) (hs:Heap.SameBut a s.heap h') (he:∃ q,h'.get? a=some q) (new:ObjOk X.prog X.w (upd H a ob) h' a ob) :
 Inv X Aa σ (upd H a ob) { s with heap:=h',toks:=t' } :=
 I.write (x:=a) (e:=a) mu (.inl rfl) (fun b q hb z=>(hs.2 b hb).trans z) he new
theorem Ro {P:Program}{w:World}{H':Hp}{h':Heap}{kvs:List (Key × V)}{vs:List (Key × Value)} (z:kvs.length<=sizeLine) (hd:(a==sysModules)=false) (rel:KV kvs vs) (dd:h'.DictOf (mixKind P w) a vs) :
 ObjOk P w H' h' a (.dK kvs):=⟨z,hd,vs,rel,dd⟩
theorem Al7 {H':Hp}{Q:Unit->Shared->Prop} (hu:A.units+1<cLine) (I:Inv X Aa σ H s) (g:DPut H a y v H') (ry:RelV y u) (rv:RelV v r) (h:∀ s',Inv X Aa σ H' s'->Q () s') :
 wpAny (model X.prog X.w) A (setItem (.ref a) u r) Q E s:=by
 rcases g with ⟨kvs,k,e,ey,l,eH⟩|⟨kvs,k,b,e,ey,eb,l,eH⟩
 . subst ey eH
   obtain⟨z,hd,vs,rel,dd⟩:=Ak6 I.hok e
   have hz:vs.length<=sizeLine:=by rw [←rel.length];exact z
   have hl:(putK kvs k v).length<=sizeLine:=by have:=J2 kvs k v;omega
   refine wpAny_setItem_pairs (hsz:=hz) (kV_is ry) dd fun h' dd' hs=>h _ ?_
   have he:∃ q,h'.get? a=some q:=let ⟨q,_,_,hq,_⟩:=dd';⟨q,hq⟩
   exact Pg I (by rw [e];exact True.intro) hs he (Ro hl hd (rel.put k rv) dd')
 . subst ey eH
   cases (show u=Value.ref b from ry)
   obtain⟨z,hd,xs,rel,dd⟩:=Bg1 I.hok e
   have hz:xs.length<=sizeLine:=by rw [←Paired.length rel];exact z
   have hl:(putK kvs k v).length<=sizeLine:=by have:=J2 kvs k v;omega
   refine wpAny_setItem_heap (hsz:=hz) (tupleKind_room_in1 hu) (Rm I.hok eb) dd fun h' dd' hs=>h _ ?_
   obtain⟨q,es,ep,hq,h2,h3,h4,_,h5⟩:=dd'
   refine Pg I (by rw [e];exact True.intro) hs ⟨q,hq⟩ ⟨hl,hd,_,(rel.put k eb rv).keeps fun c ys ec=>?_,q,es,ep,hq,h2,h3,h4,h5⟩
   rw [Ah (Fw ec e (fun z=>nomatch z))]
   exact ec
end
section
variable {X:Cx}{Aa:List (Addr × Obj)}{σ:St}{H:Hp}{s:Shared}{a:Addr}{kvs:List (Key × V)}{k:Key}{u:Value}{A:Around}{E:Value->Shared->Prop}
theorem Bc9 {Q:Unit->Shared->Prop} (I:Inv X Aa σ H s) (e:H a=some (.dK kvs)) (ry:RelV (kV k) u) (l:(valV kvs k).isSome=true) (h:∀ s',Inv X Aa σ (upd H a (.dK (V2 kvs k))) s'->Q () s') :
 wpAny (model X.prog X.w) A (delItem (.ref a) u) Q E s:=by
 obtain⟨z,hd,vs,rel,dd⟩:=Ak6 I.hok e
 refine wpAny_delItem_slot dd.typeIs (by decide) PySem.F.slot_dict_delitem
  (call_meetsIn PySem.F.slot_dict_delitem dd.typeIs PySem.F.entry_dict_delitem (PySem.F.args_dict_delitem_2 _ _) (meets_dict_delitem_pairs (mixKind X.prog X.w) a (kV_is ry)) ⟨vs,dd,by rw [←rel.length];exact z,by rw [←(rel.val k).isSome_eq];exact l,fun h' dd' hs=>h _ ?_⟩)
 have he:∃ q,h'.get? a=some q:=let ⟨q,_,_,hq,_⟩:=dd';⟨q,hq⟩
 exact Pg I (by rw [e];exact True.intro) hs he (Ro (Nat.le_trans (Zp kvs k) z) hd (rel.drop k) dd')
theorem Bg2 {v:V}{more:List Value}{Q:Value->Shared->Prop} (I:Inv X Aa σ H s) (e:H a=some (.dK kvs)) (ry:RelV (kV k) u) (l:valV kvs k=some v) (hm:more=[]\/∃ x,more=[x])
 (h:∀ w' s',Inv X Aa σ (upd H a (.dK (V2 kvs k))) s'->RelV v w'->Q w' s'):wpAny (model X.prog X.w) A (call (.builtin "dict.pop") (.ref a::u::more)) Q E s:=by
 obtain⟨z,hd,vs,rel,dd⟩:=Ak6 I.hok e
 obtain⟨w',hw,rw'⟩:=RelO.some_of (v:=v) (o:=valueAt vs k) (by rw [←l];exact rel.val k)
 have hp:(keyPart u).isSome=true:=by
  cases k with
  | inl i=>obtain⟨t,q⟩:=(show ∃ t,u=Value.int i t from ry);subst q;rfl
  | inr x=>obtain⟨t,q⟩:=(show ∃ t,u=Value.str x t from ry);subst q;rfl
 have ha:argsOk "dict.pop" ⟨.ref a::u::more,[]⟩:=by
  rcases hm with q|⟨x,q⟩
  . subst q;exact PySem.F.args_dict_pop_2 _ _
  . subst q;exact PySem.F.args_dict_pop_3 _ _ _
 refine call_meetsIn PySem.F.slot_dict_pop dd.typeIs PySem.F.entry_dict_pop ha (meets_dict_pop_there (mixKind X.prog X.w) a (kV_is ry) more hm hp)
  ⟨vs,w',dd,by rw [←rel.length];exact z,hw,fun h' dd' hs=>h w' _ ?_ rw'⟩
 have he:∃ q,h'.get? a=some q:=let ⟨q,_,_,hq,_⟩:=dd';⟨q,hq⟩
 exact Pg I (by rw [e];exact True.intro) hs he (Ro (Nat.le_trans (Zp kvs k) z) hd (rel.drop k) dd')
theorem Bc6 {r:Value}{Q:Value->Shared->Prop} (I:Inv X Aa σ H s) (e:H a=some (.dK kvs)) (ry:RelV (kV k) u) (l:valV kvs k=none) (h:∀ s',Inv X Aa σ H s'->Q r s') :
 wpAny (model X.prog X.w) A (call (.builtin "dict.pop") [.ref a,u,r]) Q E s:=by
 obtain⟨z,hd,vs,rel,dd⟩:=Ak6 I.hok e
 have hn:valueAt vs k=none:=RelO.none_of (by rw [←l];exact rel.val k)
 have hp:(keyPart u).isSome=true:=by
  cases k with
  | inl i=>obtain⟨t,q⟩:=(show ∃ t,u=Value.int i t from ry);subst q;rfl
  | inr x=>obtain⟨t,q⟩:=(show ∃ t,u=Value.str x t from ry);subst q;rfl
 exact call_meetsIn PySem.F.slot_dict_pop dd.typeIs PySem.F.entry_dict_pop (PySem.F.args_dict_pop_3 _ _ _) (meets_dict_pop_default (mixKind X.prog X.w) a (kV_is ry) hd hp r) ⟨vs,dd,hn,h _ (I.tok _)⟩
theorem Bg3 {Q:Value->Shared->Prop} (I:Inv X Aa σ H s) (e:Rd H a (.dK kvs)) (h:∀ t s',Inv X Aa σ H s'->Q (.int kvs.length t) s'):wpAny (model X.prog X.w) A (call (.builtin "len") [.ref a]) Q E s:=by
 obtain⟨z,hd,vs,rel,dd⟩:=Pd I.hok e
 refine call_len_dict hd dd (by rw [←rel.length];rw [sizeLine_eq] at z;omega) ?_
 rw [←rel.length]
 exact h _ _ (I.tok _)
end
def NoSl (i:Expr):Prop:=∀ ov iv,subscripted i false ov iv=operate [ov,iv] (getItem ov iv)
theorem Az2 {prog:Program}{w:World}{A:Around}{E:Value->Shared->Prop}{s:Shared}{env:Env}{value slice:Expr}{pos:Pos}{T id:String}{Q:Value->Shared->Prop}
 (hl:typeLookup (.type T) "__getitem__"=pure (some (.builtin id))) (hs:NoSl slice)
 (h:wpAny (model prog w) A (eval value env) (fun o s₁=>wpAny (model prog w) A (eval slice env) (fun i s₂=>s₂.TypeIs o T/\wpAny (model prog w) A (getItem o i) Q E s₂) E s₁) E s) :
 wpAny (model prog w) A (eval (.Subscript value slice pos) env) Q E s:=by
 refine Subscript_ (wpAny_mono h (fun o s₁ h₁=>wpAny_mono h₁ (fun i s₂ h₂=>?_) fun _ _ x=>x) fun _ _ x=>x)
 obtain⟨hT,h₂⟩:=h₂
 unfold subscriptTail
 refine wpAny_bind ?_
 rw [getitemInPython_of_ne hT.not_modules]
 refine wpAny_bind (wpAny_specialOf hT hl ?_)
 have fin:wpAny (model prog w) A (subscripted slice false o i) (fun r s₃=>wpAny (model prog w) A (letTemporaryGo value o r>>=fun _=>pure r) Q E s₃) E s₂:=by
  rw [hs o i]
  exact wpAny_operating (wpAny_mono h₂ (fun r s₃ h₃=>wpAny_bind (wpAny_letTemporaryGo (wpAny_pure h₃))) fun _ _ x=>x)
 first
  | exact wpAny_pure (wpAny_bind fin)
  | exact wpAny_bind (wpAny_pure (wpAny_bind fin))
  | exact wpAny_bind fin
theorem Yq {X:Cx}{Aa:List (Addr × Obj)}{σ:St}{H:Hp}{s:Shared}{a:Addr}{y:V}{o:Option V} (I:Inv X Aa σ H s) (g:DGet H a y o):s.TypeIs (.ref a) "dict":=by
 rcases g with ⟨kvs,k,e,_,_⟩|⟨kvs,k,b,e,_,_,_⟩
 . obtain⟨_,_,vs,_,dd⟩:=Pd I.hok e
   exact dd.typeIs
 . obtain⟨_,_,xs,_,dd⟩:=Yp I.hok e
   exact dd.typeIs
def Be2 (td ty:TE):TE:=fun σ H Q=>td σ H fun x H1=>ty σ H1 fun y H2=>∃ a v,x=.ref a/\DGet H2 a y (some v)/\Q v H2
def Be6 (td ty tv:TE):TS:=fun D σ H=>tv σ H fun v H1=>td σ H1 fun x H2=>ty σ H2 fun y H3=>∃ a H4,x=.ref a/\DPut H3 a y v H4/\D.nx σ H4
section
variable {X:Cx}{o i e value:Expr}{pos pos' tpos:Pos}{td ty tv:TE}
theorem Xq (hu:X.A.units+1<cLine) (ho:PE X o td) (hi:PE X i ty) (hs:NoSl i):PE X (.Subscript o i pos) (Be2 td ty):=by
 intro Aa s σ H Q I h
 refine Az2 PySem.F.slot_dict_getitem.lookup hs (thn (ho Aa s σ H _ I h) fun u s1 ⟨x,H1,I1,rx,q1⟩=>thn (hi Aa s1 σ H1 _ I1 q1) fun iv s2 ⟨y,H2,I2,ry,a,v,ex,g,q2⟩=>?_)
 subst ex
 obtain rfl:u=Value.ref a:=rx
 exact ⟨Yq I2 g,Al8 hu I2 g ry fun w' s3 I3 rw'=>⟨v,H2,I3,rw',q2⟩⟩
theorem Ac3 (hu:X.A.units+1<cLine) (ho:PE X o td) (hi:PE X i ty) (hv:PE X value tv) (hs:swapsWith value (some (.Subscript o i pos')) pos.line X.env=pure false) :
 PS X (.Assign [.Subscript o i pos'] value pos) (Be6 td ty tv):=by
 intro Aa s σ H D I h
 refine wpAny_Assign_Subscript (thn (hv Aa s σ H _ I h) fun r s1 ⟨v,H1,I1,rv,q1⟩=>thn (ho Aa s1 σ H1 _ I1 q1) fun u s2 ⟨x,H2,I2,rx,q2⟩=>thn (hi Aa s2 σ H2 _ I2 q2) fun iv s3 ⟨y,H3,I3,ry,a,H4,ex,g,q3⟩=>?_) hs
 subst ex
 obtain rfl:u=Value.ref a:=rx
 exact Al7 hu I3 g ry rv fun s4 I4=>⟨σ,H4,I4,q3⟩
end
theorem dk_empty {P:Program}{w:World}{H:Hp} (h:Heap) (hb:sysModules<h.objs.size):ObjOk P w H (h.push { cls:=.type "dict",data:=.dict #[] }) h.objs.size (.dK []) :=
 ⟨Nat.zero_le _,beq_eq_false_iff_ne.mpr (Ne.symm (Nat.ne_of_lt hb)),[],.nil,Heap.DictOf.new h⟩
def A69:TE:=fun _ H Q=>∀ p,H p=none->Q (.ref p) (upd H p (.dK []))
section
variable {X:Cx}{pos:Pos}
theorem S9:PE X (.Dict [] [] pos) A69:=fun Aa s σ H Q I h =>
 wpAny_Dict_empty ⟨.ref s.heap.objs.size,_,I.laid (a:=s.heap.objs.size) (o:=.dK []) (t':=s.toks) (fun _ _ q=>Heap.get?_push_of_some _ q) (Nat.le_refl _) (dk_empty s.heap I.big),rfl,h _ (I.hok.fresh (Nat.le_refl _))⟩
end
def tPairs:List (TE × TE)->St->Hp->(List (V × V)->Hp->Prop)->Prop
 | [],_,H,Q=>Q [] H
 | (tk,tv)::r,σ,H,Q=>tk σ H fun x H1=>tv σ H1 fun y H2=>tPairs r σ H2 fun ps H3=>Q ((x,y)::ps) H3
abbrev VV:List (V × V)->List (Value × Value)->Prop:=Paired fun p q=>RelV p.1 q.1/\RelV p.2 q.2
def PPs (X:Cx) (pos:Pos) (keys:List (Option Expr)) (values:List Expr) (trs:List (TE × TE)):Prop :=
 ∀ (Aa:List (Addr × Obj)) (s:Shared) (σ:St) (H:Hp) (Q:List (V × V)->Hp->Prop),Inv X Aa σ H s->tPairs trs σ H Q →
   wpAny (model X.prog X.w) X.A (evalPairs (pairTrees keys values X.env pos)) (fun vs s'=>∃ ps H',Inv X Aa σ H' s'/\VV ps vs/\Q ps H') X.xe s
theorem A07 {X:Cx}{pos:Pos}:PPs X pos [] [] []:=fun Aa s σ H Q I h=>pairTrees_nil_walk ⟨[],H,I,.nil,h⟩
theorem Aq9 {X:Cx}{pos:Pos}{k v:Expr}{ks:List (Option Expr)}{vs:List Expr}{tk tv:TE}{trs:List (TE × TE)} (hk:PE X k tk) (hv:PE X v tv) (hr:PPs X pos ks vs trs) :
 PPs X pos (some k::ks) (v::vs) ((tk,tv)::trs):=fun Aa s σ H Q I h =>
 pairTrees_cons_walk (thn (hk Aa s σ H _ I h) fun u s1 ⟨x,H1,I1,rx,q1⟩=>thn (hv Aa s1 σ H1 _ I1 q1) fun w2 s2 ⟨y,H2,I2,ry,q2⟩ =>
  thn (hr Aa s2 σ H2 _ I2 q2) fun ws s3 ⟨ps,H3,I3,rel,q3⟩=>⟨(x,y)::ps,H3,I3,.cons ⟨rx,ry⟩ rel,q3⟩)
def Fd (kvs more:List (Key × V)):List (Key × V):=more.foldl (fun acc kv=>putK acc kv.1 kv.2) kvs
theorem KV.merge:∀{more:List (Key × V)}{rs:List (Key × Value)}{kvs:List (Key × V)}{vs:List (Key × Value)},KV more rs->KV kvs vs->KV (Fd kvs more) (merged vs rs):=by
 intro more rs kvs vs r
 unfold KV at r
 induction r generalizing kvs vs with
 | nil=>intro q;exact q
 | @cons p q ps qs h t ih =>
   intro r0
   have e:KV (putK kvs p.1 p.2) (stored vs q.1 q.2):=by
    have:=r0.put p.1 h.2
    rw [←h.1];exact this
   exact ih e
theorem Fz:∀ (more kvs:List (Key × V)),(Fd kvs more).length<=kvs.length+more.length
 | [],kvs=>by show kvs.length<=kvs.length+0;omega
 | p::r,kvs=>by
   have h1:=Fz r (putK kvs p.1 p.2)
   have h2:=J2 kvs p.1 p.2
   show (Fd (putK kvs p.1 p.2) r).length<=_
   rw [List.length_cons];omega
theorem Ry {P:Program}{w:World}:∀{kvs:List (Key × V)}{ws:List (Value × Value)},VV (kvs.map fun kv=>(kV kv.1,kv.2)) ws->∃ rs,Carries (mixKind P w) ws rs/\KV kvs rs
 | [],_,r=>by rw [List.map_nil] at r;cases r;exact ⟨[],True.intro,.nil⟩
 | p::kvs,_,r=>by
   rw [List.map_cons] at r
   cases r with
   | @cons a b as bs h t =>
     obtain⟨rs,c,q⟩:=Ry (P:=P) (w:=w) t
     obtain⟨b1,b2⟩:=b
     exact ⟨(p.1,b2)::rs,⟨kV_is h.1,rfl,c⟩,.cons ⟨rfl,h.2⟩ q⟩
def Be1 (trs:List (TE × TE)):TE:=fun σ H Q=>∀ p,H p=none->tPairs trs σ (upd H p (.dK [])) fun ps H2=>H2 p=some (.dK [])/\∃ kvs:List (Key × V),ps=kvs.map (fun kv=>(kV kv.1,kv.2))/\kvs.length<=15/\Q (.ref p) (upd H2 p (.dK (Fd [] kvs)))
theorem A15 {X:Cx}{pos:Pos}{keys:List (Option Expr)}{values:List Expr}{trs:List (TE × TE)} (h:PPs X pos keys values trs) (hall:keys.all (·.isSome)=true) (hl:keys.length=values.length) (h0:keys≠[])
 (h15:keys.length<=15):PE X (.Dict keys values pos) (Be1 trs):=by
 intro Aa s σ H Q I q
 have hn:=I.hok.fresh (Nat.le_refl s.heap.objs.size)
 have I1:=I.laid (a:=s.heap.objs.size) (o:=.dK []) (h':=s.heap.push { cls:=.type "dict",data:=.dict #[] }) (t':=s.toks) (fun _ _ q=>Heap.get?_push_of_some _ q) (Nat.le_refl _) (dk_empty s.heap I.big)
 refine wpAny_Dict_walk (knd:=mixKind X.prog X.w) hall hl h0 h15 (thn (h Aa _ σ _ _ I1 (q _ hn)) fun ws s2 ⟨ps,H2,I2,rel,e,kvs,ep,lk,q2⟩=>?_)
 subst ep
 obtain⟨rs,c,rk⟩:=Ry (P:=X.prog) (w:=X.w) rel
 obtain⟨z,hd,vs0,r0,dd⟩:=Ak6 I2.hok e
 cases r0
 refine⟨rs,c,dd,fun h' dd' hs=>⟨.ref s.heap.objs.size,_,?_,rfl,q2⟩⟩
 have hz:(Fd [] kvs).length<=sizeLine:=by
  have h1:=Fz kvs []
  rw [List.length_nil] at h1
  rw [sizeLine_eq];omega
 have he:∃ q,h'.get? s.heap.objs.size=some q:=let ⟨q,_,_,hq,_⟩:=dd';⟨q,hq⟩
 exact Pg I2 (by rw [e];exact True.intro) hs he (Ro hz hd (rk.merge .nil) dd')
structure M1 (X:Cx) (o:Expr) (m:Str) (apos:Pos) (e:Expr) (cpos:Pos):Prop where
 base:attributeBase o m X.env (eval o X.env)=eval o X.env
 few:((backTo cpos (starEach [e] X.env)).all (fun x=>!x.1)&&(backToKw cpos (keywordEach [] X.env)).all (fun x=>x.1.isSome)
  && decide (([e]:List Expr).length+([]:List Keyword).length+(if ([]:List Keyword).isEmpty then 0 else 1)<30))=true
 line:(apos.endLine==cpos.line)=true
 trees:backTo cpos (starEach [e] X.env)=[(false,eval e X.env)]
structure M2 (X:Cx) (o:Expr) (m:Str) (apos:Pos) (e f:Expr) (cpos:Pos):Prop where
 base:attributeBase o m X.env (eval o X.env)=eval o X.env
 few:((backTo cpos (starEach [e,f] X.env)).all (fun x=>!x.1)&&(backToKw cpos (keywordEach [] X.env)).all (fun x=>x.1.isSome)
  && decide (([e,f]:List Expr).length+([]:List Keyword).length+(if ([]:List Keyword).isEmpty then 0 else 1)<30))=true
 line:(apos.endLine==cpos.line)=true
 trees:backTo cpos (starEach [e,f] X.env)=[(false,eval e X.env),(false,eval f X.env)]
def IsD (H:Hp) (a:Addr):Prop:=(∃ kvs,Rd H a (.dK kvs))\/∃ kvs,Rd H a (.dT kvs)
theorem Ai3 {X:Cx}{Aa:List (Addr × Obj)}{σ:St}{H:Hp}{s:Shared}{a:Addr} (I:Inv X Aa σ H s) (d:IsD H a) :
 s.TypeIs (.ref a) "dict"/\(∀ b,Value.ref a=.ref b->∃ ob,s.heap.get? b=some ob/\ob.dict=none)/\(a==sysModules)=false:=by
 rcases d with ⟨kvs,e⟩|⟨kvs,e⟩
 . obtain⟨_,hd,vs,_,dd⟩:=Pd I.hok e
   refine⟨dd.typeIs,fun b q=>?_,hd⟩
   cases q
   obtain⟨ob,_,_,h1,h2,_⟩:=dd
   exact ⟨ob,h1,h2.2.1⟩
 . obtain⟨_,hd,xs,_,dd⟩:=Yp I.hok e
   refine⟨dd.typeIs,fun b q=>?_,hd⟩
   cases q
   obtain⟨ob,_,_,h1,h2,_⟩:=dd
   exact ⟨ob,h1,h2.2.1⟩
section
variable {X:Cx}{Aa:List (Addr × Obj)}{σ:St}{H:Hp}{s:Shared}{a:Addr}{y d:V}{u r:Value}{o:Option V}{A:Around}{E:Value->Shared->Prop}
theorem Bc8 {Q:Value->Shared->Prop} (hu:A.units+1<cLine) (I:Inv X Aa σ H s) (g:DGet H a y o) (ry:RelV y u) (h:∀ w' s',Inv X Aa σ H s'->RelV (o.getD .non) w'->Q w' s') :
 wpAny (model X.prog X.w) A (call (.builtin "dict.get") [.ref a,u]) Q E s:=by
 rcases g with ⟨kvs,k,e,ey,l⟩|⟨kvs,k,b,e,ey,eb,l⟩
 . subst ey
   obtain⟨z,hd,vs,rel,dd⟩:=Pd I.hok e
   refine call_meetsIn PySem.F.slot_dict_get dd.typeIs PySem.F.entry_dict_get (PySem.F.args_dict_get_2 _ _) (meets_dict_get (mixKind X.prog X.w) a (kV_is ry) hd) ⟨_,dd.mapOf,h _ _ (I.tok _) ?_⟩
   rw [l]
   exact (rel.val k).getD rfl
 . subst ey
   cases (show u=Value.ref b from ry)
   obtain⟨z,hd,xs,rel,dd⟩:=Yp I.hok e
   refine call_meetsIn PySem.F.slot_dict_get dd.typeIs PySem.F.entry_dict_get (PySem.F.args_dict_get_2 _ _) (meetsH_dict_get (tupleKind (mixKind X.prog X.w)) a b hd) ⟨tupleKind_room_in1 hu,k,xs,Rm I.hok eb,dd,h _ _ (I.tok _) ?_⟩
   rw [l]
   exact (rel.val k).getD rfl
theorem Bc7 {Q:Value->Shared->Prop} (hu:A.units+1<cLine) (I:Inv X Aa σ H s) (g:DGet H a y o) (ry:RelV y u) (rd:RelV d r) (h:∀ w' s',Inv X Aa σ H s'->RelV (o.getD d) w'->Q w' s') :
 wpAny (model X.prog X.w) A (call (.builtin "dict.get") [.ref a,u,r]) Q E s:=by
 rcases g with ⟨kvs,k,e,ey,l⟩|⟨kvs,k,b,e,ey,eb,l⟩
 . subst ey
   obtain⟨z,hd,vs,rel,dd⟩:=Pd I.hok e
   refine call_meetsIn PySem.F.slot_dict_get dd.typeIs PySem.F.entry_dict_get (PySem.F.args_dict_get_3 _ _ _) (meets_dict_get_default (mixKind X.prog X.w) a (kV_is ry) hd r) ⟨_,dd.mapOf,h _ _ (I.tok _) ?_⟩
   rw [l]
   exact (rel.val k).getD rd
 . subst ey
   cases (show u=Value.ref b from ry)
   obtain⟨z,hd,xs,rel,dd⟩:=Yp I.hok e
   refine call_meetsIn PySem.F.slot_dict_get dd.typeIs PySem.F.entry_dict_get (PySem.F.args_dict_get_3 _ _ _) (meetsH_dict_get_default (tupleKind (mixKind X.prog X.w)) a b hd r) ⟨tupleKind_room_in1 hu,k,xs,Rm I.hok eb,dd,h _ _ (I.tok _) ?_⟩
   rw [l]
   exact (rel.val k).getD rd
end
def tDGet1 (td ty:TE):TE:=fun σ H Q=>td σ H fun x H1=>∃ a,x=.ref a/\IsD H1 a/\ty σ H1 fun y H2=>∃ o,DGet H2 a y o/\Q (o.getD .non) H2
def A70 (td ty tx:TE):TE:=fun σ H Q=>td σ H fun x H1=>∃ a,x=.ref a/\IsD H1 a/\ty σ H1 fun y H2=>tx σ H2 fun z H3=>∃ o,DGet H3 a y o/\Q (o.getD z) H3
def A68 (td ty tx:TE):TE:=fun σ H Q=>td σ H fun x H1=>∃ a,x=.ref a/\IsD H1 a/\ty σ H1 fun y H2=>tx σ H2 fun z H3=>∃ kvs k,H3 a=some (.dK kvs)/\y=kV k ∧
 (∀ v,valV kvs k=some v->Q v (upd H3 a (.dK (V2 kvs k))))/\(valV kvs k=none->Q z H3)
section
variable {X:Cx}{o e f:Expr}{apos cpos:Pos}{td ty tx:TE}
theorem Ar8 (hu:X.A.units+1<cLine) (ho:PE X o td) (he:PE X e ty) (m:M1 X o "get" apos e cpos):PE X (.Call (.Attribute o "get" apos) [e] [] cpos) (tDGet1 td ty):=by
 intro Aa s σ H Q I h
 refine wpAny_Call_method m.base m.few m.line PySem.F.plainAttrs_dict PySem.F.slot_dict_get PySem.F.type_dict_get (thn (ho Aa s σ H _ I h) fun u s1 ⟨x,H1,I1,rx,a,ex,d,q1⟩=>?_)
 subst ex
 obtain rfl:u=Value.ref a:=rx
 obtain⟨t1,t2,_⟩:=Ai3 I1 d
 refine⟨t1,t2,?_⟩
 rw [m.trees]
 refine Calls.callWith_builtin rfl (Calls.evalArgs_plain (Calls.spliced_cons (thn (he Aa s1 σ H1 _ I1 q1) fun iv s2 ⟨y,H2,I2,ry,ov,g,q2⟩=>Calls.spliced_nil ?_)))
 exact Bc8 hu I2 g ry fun w' s3 I3 rw'=>⟨_,H2,I3,rw',q2⟩
theorem Ar7 (hu:X.A.units+1<cLine) (ho:PE X o td) (he:PE X e ty) (hf:PE X f tx) (m:M2 X o "get" apos e f cpos):PE X (.Call (.Attribute o "get" apos) [e,f] [] cpos) (A70 td ty tx):=by
 intro Aa s σ H Q I h
 refine wpAny_Call_method m.base m.few m.line PySem.F.plainAttrs_dict PySem.F.slot_dict_get PySem.F.type_dict_get (thn (ho Aa s σ H _ I h) fun u s1 ⟨x,H1,I1,rx,a,ex,d,q1⟩=>?_)
 subst ex
 obtain rfl:u=Value.ref a:=rx
 obtain⟨t1,t2,_⟩:=Ai3 I1 d
 refine⟨t1,t2,?_⟩
 rw [m.trees]
 refine Calls.callWith_builtin rfl (Calls.evalArgs_plain (Calls.spliced_cons (thn (he Aa s1 σ H1 _ I1 q1) fun iv s2 ⟨y,H2,I2,ry,q2⟩ =>
  Calls.spliced_cons (thn (hf Aa s2 σ H2 _ I2 q2) fun fv s3 ⟨z,H3,I3,rz,ov,g,q3⟩=>Calls.spliced_nil ?_))))
 exact Bc7 hu I3 g ry rz fun w' s4 I4 rw'=>⟨_,H3,I4,rw',q3⟩
theorem Ar6 (ho:PE X o td) (he:PE X e ty) (hf:PE X f tx) (m:M2 X o "pop" apos e f cpos):PE X (.Call (.Attribute o "pop" apos) [e,f] [] cpos) (A68 td ty tx):=by
 intro Aa s σ H Q I h
 refine wpAny_Call_method m.base m.few m.line PySem.F.plainAttrs_dict PySem.F.slot_dict_pop PySem.F.type_dict_pop (thn (ho Aa s σ H _ I h) fun u s1 ⟨x,H1,I1,rx,a,ex,d,q1⟩=>?_)
 subst ex
 obtain rfl:u=Value.ref a:=rx
 obtain⟨t1,t2,_⟩:=Ai3 I1 d
 refine⟨t1,t2,?_⟩
 rw [m.trees]
 refine Calls.callWith_builtin rfl (Calls.evalArgs_plain (Calls.spliced_cons (thn (he Aa s1 σ H1 _ I1 q1) fun iv s2 ⟨y,H2,I2,ry,q2⟩ =>
  Calls.spliced_cons (thn (hf Aa s2 σ H2 _ I2 q2) fun fv s3 ⟨z,H3,I3,rz,kvs,k,ea,ey,q3,q4⟩=>Calls.spliced_nil ?_))))
 subst ey
 cases l:valV kvs k with
 | some v=>exact Bg2 I3 ea ry l (.inr ⟨fv,rfl⟩) fun w' s4 I4 rw'=>⟨v,_,I4,rw',q3 v l⟩
 | none=>exact Bc6 I3 ea ry l fun s4 I4=>⟨z,H3,I4,rz,q4 l⟩
end
section
variable {X:Cx}{Aa:List (Addr × Obj)}{σ:St}{H:Hp}{s:Shared}{a:Addr}{kvs:List (Key × V)}{A:Around}{E:Value->Shared->Prop}
theorem Av0 {Q:Value->Shared->Prop} (I:Inv X Aa σ H s) (e:Rd H a (.dK kvs)) (h:∀ p s',H p=none->Inv X Aa σ (upd H p (.dK kvs)) s'->Q (.ref p) s'):wpAny (model X.prog X.w) A (call (.type "dict") [.ref a]) Q E s:=by
 obtain⟨z,hd,vs,rel,dd⟩:=Pd I.hok e
 refine kt_call_dict hd dd (by rw [←rel.length];exact z) fun h' dd' hs=>?_
 refine h _ _ (I.hok.fresh (Nat.le_refl _)) (I.laid (a:=s.heap.objs.size) (o:=.dK kvs) (t':=s.toks) (fun b q hq=>?_) (Nat.le_refl _) (Ro z (beq_eq_false_iff_ne.mpr (Ne.symm (Nat.ne_of_lt I.big))) rel dd'))
 exact (hs.2 b (Nat.ne_of_lt (Heap.lt_size hq))).trans (Heap.get?_push_of_some _ hq)
end
section
variable {X:Cx}{Aa:List (Addr × Obj)}{σ:St}{H:Hp}{s:Shared}{a:Addr}{y:V}{u:Value}{A:Around}{E:Value->Shared->Prop}
end
end L2
namespace L2
open PySem PySem.Spec PyProof.Rows
section
variable {X:Cx}
theorem Pu:F9 X (.builtin "len") (fun xs H Q=>∃ a kvs,xs=[V.ref a]/\H a=some (.dK kvs)/\Q (.int kvs.length) H):=by
 intro Aa s σ H xs us Q I r h
 obtain⟨a,kvs,rfl,ha,q⟩:=h
 obtain⟨u,rfl,ru⟩:=Um r
 cases ru
 exact Bg3 I (.inl ha) fun t s' I'=>⟨.int kvs.length,H,I',⟨t,rfl⟩,q⟩
end
end L2
namespace L2
open PySem PySem.Spec PyProof.Rows
def clOf (cells:List (Str × Addr)):List (Str × NameKind)->List (Str × Addr)->List (Str × Addr)
 | [],acc=>acc
 | (n,k)::r,acc=>clOf cells r (if (k==NameKind.free)=true then (n,(cells.lookup n).getD 0)::acc else acc)
theorem Mi {sc:Scope}{env:Env} (h:∀ n,(n,NameKind.free)∈sc.names->∃ c,env.cells.lookup n=some c):closureFor sc env=pure (clOf env.cells sc.names []):=by
 have all:∀ (l:List (Str × NameKind)) (acc:List (Str × Addr)),(∀ n,(n,NameKind.free)∈l->∃ c,env.cells.lookup n=some c) →
  (forIn l acc fun (x:Str × NameKind) (cs:List (Str × Addr))=>match x with
    | (name,kind)=>if (kind==NameKind.free)=true then (do let c ←cellOf env name;pure (ForInStep.yield ((name,c)::cs))) else pure (ForInStep.yield cs))=(pure (clOf env.cells l acc):Sem _):=by
  intro l
  induction l with
  | nil=>intro acc _;rfl
  | cons x r ih =>
    intro acc hl
    obtain⟨n,k⟩:=x
    rw [List.forIn_cons]
    by_cases hk:(k==NameKind.free)=true
    . have hk':k=NameKind.free:=by simpa using hk
      subst hk'
      obtain⟨c,hc⟩:=hl n List.mem_cons_self
      have e1:cellOf env n=pure c:=by unfold cellOf;rw [hc]
      simp only [beq_self_eq_true,if_true,e1,pure_bind]
      rw [ih _ fun m hm=>hl m (List.mem_cons_of_mem _ hm)]
      show _=(pure (clOf env.cells r (if (NameKind.free==NameKind.free)=true then (n,(env.cells.lookup n).getD 0)::acc else acc)):Sem _)
      rw [if_pos (by simp),hc]
      rfl
    . have hk2:(k==NameKind.free)=false:=by simpa using hk
      simp only [hk2,Bool.false_eq_true,if_false,pure_bind]
      rw [ih _ fun m hm=>hl m (List.mem_cons_of_mem _ hm)]
      show _=(pure (clOf env.cells r (if (k==NameKind.free)=true then (n,(env.cells.lookup n).getD 0)::acc else acc)):Sem _)
      rw [if_neg hk]
 have:=all sc.names [] h
 unfold closureFor
 dsimp only
 rw [this,pure_bind]
theorem B3 {cells:List (Str × Addr)}{x:Str}{c:Addr}:∀{l:List (Str × NameKind)}{acc:List (Str × Addr)},(∀ n,(n,NameKind.free)∈l->∃ c,cells.lookup n=some c) →
 (acc.lookup x=some c->cells.lookup x=some c)->(clOf cells l acc).lookup x=some c->cells.lookup x=some c
 | [],_,_,ha,h=>ha h
 | (n,k)::r,acc,hl,ha,h=>by
   refine B3 (l:=r) (fun m hm=>hl m (List.mem_cons_of_mem _ hm)) ?_ h
   by_cases hk:(k==NameKind.free)=true
   . rw [if_pos hk]
     have hk':k=NameKind.free:=by simpa using hk
     subst hk'
     obtain⟨d,hd⟩:=hl n List.mem_cons_self
     intro e
     rw [List.lookup_cons] at e
     cases hx:x==n with
     | true =>
       rw [hx] at e
       have hxn:x=n:=by simpa using hx
       subst hxn
       rw [hd] at e ⊢
       exact e
     | false=>rw [hx] at e;exact ha e
   . rw [if_neg hk];exact ha
theorem Kw {cells:List (Str × Addr)}{x:Str}:∀{l:List (Str × NameKind)}{acc:List (Str × Addr)},((x,NameKind.free)∈l\/∃ c,acc.lookup x=some c)->∃ c,(clOf cells l acc).lookup x=some c
 | [],_,h=>by
   rcases h with h | h
   . exact nomatch h
   . exact h
 | (n,k)::r,acc,h=>by
   refine Kw (l:=r) ?_
   by_cases hk:(k==NameKind.free)=true
   . rw [if_pos hk]
     by_cases hx:(x==n)=true
     . exact .inr ⟨(cells.lookup n).getD 0,by rw [List.lookup_cons,hx]⟩
     . have hx2:(x==n)=false:=by simpa using hx
       rcases h with h|⟨c,h⟩
       . rcases List.mem_cons.mp h with e | e
         . have e1:x=n:=congrArg Prod.fst e
           exact absurd (by simp [e1]) hx
         . exact .inl e
       . exact .inr ⟨c,by rw [List.lookup_cons,hx2];exact h⟩
   . rw [if_neg hk]
     rcases h with h | h
     . rcases List.mem_cons.mp h with e | e
       . have e2:NameKind.free=k:=congrArg Prod.snd e
         exact absurd (by simp [←e2]) hk
       . exact .inl e
     . exact .inr h
def Dp (X:Cx) (sc:Scope) (N':List Str) (C:Addr) (s₀:Shared) (H₀:Hp) (fp:List Addr):Cx where
 prog:=X.prog
 w:=X.w
 K:=X.K
 mg:=X.mg
 base:=X.base
 A:=X.A
 N:=N'
 s₀:=s₀
 H₀:=H₀
 env:=compEnvC sc (clOf X.env.cells sc.names []) C X.env
 outer:=X.stack
 stack:=X.stack
 ex:=fp
 fn:=fun _=>false
 calm:=X.calm
 pn:=[]
 xe:=fun _ _=>False
def capS (cap:List (Option Nat)) (σ:St):St:=cap.map fun o=>o.bind fun j=>(σ[j]?).join
structure W5 (X:Cx) (sc:Scope) (N':List Str) (cap:List (Option Nat)):Prop where
 kind:sc.kind=.function
 len:cap.length=N'.length
 nocell:∀ x∈sc.names,x.2≠NameKind.cell
 locals:∀ x∈sc.names,x.2=NameKind.local->sc.names.lookup x.1=some NameKind.local
 free:∀ n,(n,NameKind.free)∈sc.names->X.env.kindOf n=some .cell\/X.env.kindOf n=some .free
 slots:∀ (i j:Nat) (x:Str),N'[i]?=some x->cap[i]?=some (some j)->X.N[j]?=some x/\((relabel sc X.env).names.lookup x=some .cell\/(relabel sc X.env).names.lookup x=some .free)/\Vis X.env.scope x
section
variable {X:Cx}{sc:Scope}{N':List Str}{cap:List (Option Nat)}{Aa:List (Addr × Obj)}{σ:St}{H:Hp}{s:Shared}{C:Addr}{fp:List Addr}
theorem W5.cells (c:W5 X sc N' cap) (ok:X.Ok):∀ n,(n,NameKind.free)∈sc.names->∃ c,X.env.cells.lookup n=some c:=fun n hn=>ok.has n (c.free n hn)
theorem Fr {env:Env}{x:Str}{k:NameKind} (hnc:∀ x∈sc.names,x.2≠NameKind.cell) (h:(relabel sc env).names.lookup x=some k) (hk:k=.cell\/k=.free):(x,NameKind.free)∈sc.names:=by
 have all:∀ (l:List (Str × NameKind)),(∀ x∈l,x.2≠NameKind.cell)->(l.map fun (n,k)=>if (k==NameKind.free&&env.scope.kind==.function&&env.kindOf n==some .cell) then (n,NameKind.cell) else (n,k)).lookup x=some k->(x,NameKind.free)∈l:=by
  intro l
  induction l with
  | nil=>intro _ h;exact nomatch h
  | cons p r ih =>
    intro hn h
    obtain⟨n,q⟩:=p
    rw [List.map_cons,List.lookup_cons] at h
    by_cases hc:(q==NameKind.free&&env.scope.kind==.function&&env.kindOf n==some .cell)=true
    . have hq:q=NameKind.free:=by
       have:=hc
       simp only [Bool.and_eq_true] at this
       simpa using this.1.1
      simp only [hc,if_true] at h
      cases hx:x==n with
      | true =>
        have e:x=n:=by simpa using hx
        rw [e,hq]
        exact List.mem_cons_self
      | false =>
        rw [hx] at h
        exact List.mem_cons_of_mem _ (ih (fun y hy=>hn y (List.mem_cons_of_mem _ hy)) h)
    . simp only [hc] at h
      cases hx:x==n with
      | true =>
        have e:x=n:=by simpa using hx
        simp only [Bool.false_eq_true,if_false,hx] at h
        have e2:q=k:=by simpa using h
        rcases hk with z | z
        . exact absurd (e2.trans z) (hn (n,q) List.mem_cons_self)
        . rw [e,←z,←e2]
          exact List.mem_cons_self
      | false =>
        simp only [Bool.false_eq_true,if_false,hx] at h
        exact List.mem_cons_of_mem _ (ih (fun y hy=>hn y (List.mem_cons_of_mem _ hy)) h)
 exact all sc.names hnc h
theorem A55 (c:W5 X sc N' cap) (I:Inv X Aa σ H s) (hC:s.heap.objs.size<=C) (hf:∀ b∈fp,FpOk X Aa H b) (hb:∀ b∈fp,b<s.heap.objs.size):(Dp X sc N' C s H fp).Ok where
 mod:=I.ok.mod
 kind:=c.kind
 glob:=I.ok.glob
 blt:=I.ok.blt
 above:=hC
 inj:=fun x y a hx hy=>I.ok.inj x y a (B3 (c.cells I.ok) (fun z=>by simp at z) hx) (B3 (c.cells I.ok) (fun z=>by simp at z) hy)
 has:=fun x hx=>by
  refine Kw (.inl ?_)
  rcases hx with hx | hx
  . exact Fr c.nocell hx (.inl rfl)
  . exact Fr c.nocell hx (.inr rfl)
 cab:=fun _ _ h=>nomatch h
 hd:=I.ok.hd
 frames:=I.ok.frames
 stk:=.inl rfl
 exf:=fun b hb'=>⟨Nat.ne_of_lt (Nat.lt_of_lt_of_le (hb b hb') hC),fun x a e=>(hf b hb').2.2.2.2.1 x a (B3 (c.cells I.ok) (fun z=>by simp at z) e)⟩
 bs:=I.bs
 bsz:=Nat.le_trans I.ok.bsz I.sz
 noex:=fun b o e hb'=>by
  rcases (hf b hb').2.2.2.1 with z | z
  . exact I.ok.noex b o e z
  . exact absurd (Nat.lt_of_lt_of_le (Heap.lt_size e) (Nat.le_trans I.ok.bsz z)) (Nat.lt_irrefl _)
 exfs:=fun b hb' z=>by
  obtain⟨_,f1,f2,_⟩:=hf b hb'
  rcases List.mem_cons.mp (I.stkSub b z) with e | e
  . exact f1 e
  . exact f2 e
 funs:=I.stack
 frf:=I.stkFree
theorem Av8 (c:W5 X sc N' cap) (I:Inv X Aa σ H s) {D:Addr}{h1:Heap}{t:Nat} (hC:C=s.heap.objs.size+1) (hD:D=s.heap.objs.size) (hf:∀ b∈fp,FpOk X Aa H b) (hb:∀ b∈fp,b<s.heap.objs.size)
 (hn:h1.Ns C fun _=>none) (hl:h1.get? D=some { cls:=.type "list",data:=.seq #[] 0 }) (k:∀ b o,s.heap.get? b=some o->h1.get? b=some o) :
 Inv (Dp X sc N' C s H fp) [] (capS cap σ) (upd H D (.lst [])) { s with heap:=h1,toks:=t }:=by
 have hCs:s.heap.objs.size<=C:=by rw [hC];exact Nat.le_succ _
 have hCD:C≠D:=by rw [hC,hD];exact Nat.succ_ne_self _
 have ok:=A55 (C:=C) (fp:=fp) c I hCs hf hb
 have hDn:H D=none:=by rw [hD];exact I.fresh
 have ltc:∀ x a,(clOf X.env.cells sc.names []).lookup x=some a->X.env.cells.lookup x=some a:=fun x a e=>B3 (c.cells I.ok) (fun z=>by simp at z) e
 have cel:∀ a v,s.heap.IsCell a v->h1.IsCell a v:=fun a v ⟨o,ho,hd⟩=>⟨o,k a o ho,hd⟩
 have ltD:∀ a v,s.heap.IsCell a v->a≠D:=fun a v ⟨o,ho,hd⟩=>by rw [hD];exact Nat.ne_of_lt (Heap.lt_size ho)
 refine⟨ok,rfl,I.bare,Un.laid k (by rw [hD];exact Nat.le_refl _) hDn,⟨_,hn,fun i x v e1 e2 e3=>?_⟩,fun x a e=>?_,?_,fun x a e=>?_,fun p hp=>absurd hp (by simp [Dp]),?_,?_⟩
 . have e2':cap[i]?.map (fun o=>o.bind fun j=>(σ[j]?).join)=some (some v):=by
    have:=e2
    unfold capS at this
    rw [List.getElem?_map] at this
    exact this
   cases hc:cap[i]? with
   | none=>rw [hc] at e2';cases e2'
   | some o =>
     rw [hc] at e2'
     cases o with
     | none=>cases e2'
     | some j =>
       have e4:(σ[j]?).join=some v:=by simpa using e2'
       obtain⟨q1,q2',q3⟩:=c.slots i j x e1 hc
       have q2:(x,NameKind.free)∈sc.names:=q2'.elim (fun z=>Fr c.nocell z (.inl rfl)) fun z=>Fr c.nocell z (.inr rfl)
       obtain⟨m,hm,hl'⟩:=I.loc
       have e5:σ[j]?=some (some v):=by
        cases z:σ[j]? with
        | none=>rw [z] at e4;cases e4
        | some y=>rw [z] at e4;cases y with
          | none=>cases e4
          | some y'=>cases e4;rfl
       obtain⟨u,r,l⟩:=hl' j x v q1 e5 q3
       refine⟨u,r,?_⟩
       obtain⟨a,ha⟩:=Kw (cells:=X.env.cells) (l:=sc.names) (acc:=[]) (x:=x) (.inl q2)
       have kd:X.env.kindOf x=some .cell\/X.env.kindOf x=some .free:=c.free x q2
       rcases l with ⟨hk,_⟩|⟨hk,a',ha',hcell⟩
       . rcases kd with z | z<;>rw [z] at hk<;>cases hk
       . have e6:a'=a:=by
          have:=ltc x a ha
          rw [ha'] at this
          exact Option.some.inj this
         refine .inr ⟨q2',a,ha,?_⟩
         rw [←e6]
         exact cel _ _ hcell
 . obtain⟨v,z⟩:=I.cell x a (ltc x a e)
   exact ⟨v,cel a v z⟩
 . show upd H D (.lst []) C=none
   rw [Ah hCD]
   exact I.hok.fresh hCs
 . show upd H D (.lst []) a=none
   obtain⟨v,z⟩:=I.cell x a (ltc x a e)
   rw [Ah (ltD a v z)]
   exact I.freeC x a (ltc x a e)
 . exact I.hok.laid k (by rw [hD];exact Nat.le_refl _) ⟨Nat.zero_le _,[],0,.nil,hl⟩
 . show (capS cap σ).length=N'.length
   unfold capS
   rw [List.length_map,c.len]
end
end L2
namespace L2
open PySem PySem.Spec PyProof.Rows
def capB (osc:Scope) (N:List Str) (sc:Scope) (N':List Str) (cap:List (Option Nat)):Bool :=
 decide (sc.kind=.function)&&decide (cap.length=N'.length)&&sc.names.all (fun x=>decide (x.2≠NameKind.cell))&&sc.names.all (fun x=>decide (x.2=NameKind.local->sc.names.lookup x.1=some NameKind.local)) &&
 sc.names.all (fun x=>decide (x.2=NameKind.free->(osc.names.lookup x.1=some .cell\/osc.names.lookup x.1=some .free))) &&
 (N'.zip cap).all (fun p=>match p.2 with
   | none=>true
   | some j=>decide (N[j]?=some p.1)&&decide (((sc.names.map fun (n,k)=>if (k==.free&&osc.kind==.function&&osc.names.lookup n==some .cell) then (n,NameKind.cell) else (n,k)).lookup p.1=some .cell) ∨
      ((sc.names.map fun (n,k)=>if (k==.free&&osc.kind==.function&&osc.names.lookup n==some .cell) then (n,NameKind.cell) else (n,k)).lookup p.1=some .free)) &&
     decide (osc.names.lookup p.1=some .local\/osc.names.lookup p.1=some .cell\/osc.names.lookup p.1=some .free))
theorem An4 {X:Cx}{sc:Scope}{N':List Str}{cap:List (Option Nat)} (h:capB X.env.scope X.N sc N' cap=true):W5 X sc N' cap:=by
 unfold capB at h
 rw [Bool.and_eq_true,Bool.and_eq_true,Bool.and_eq_true,Bool.and_eq_true,Bool.and_eq_true,List.all_eq_true,List.all_eq_true,List.all_eq_true,List.all_eq_true] at h
 obtain⟨⟨⟨⟨⟨h1,h2⟩,h3⟩,h4⟩,h5⟩,h6⟩:=h
 refine⟨of_decide_eq_true h1,of_decide_eq_true h2,fun x hx=>of_decide_eq_true (h3 x hx),fun x hx=>of_decide_eq_true (h4 x hx),fun n hn=>of_decide_eq_true (h5 _ hn) rfl,fun i j x e1 e2=>?_⟩
 have hm:(x,some j)∈N'.zip cap:=by
  have e:(N'.zip cap)[i]?=some (x,some j):=by
   rw [List.getElem?_zip_eq_some]
   exact ⟨e1,e2⟩
  exact List.mem_of_getElem? e
 have h7:=h6 _ hm
 dsimp only at h7
 rw [Bool.and_eq_true,Bool.and_eq_true] at h7
 obtain⟨⟨h8,h9⟩,h10⟩:=h7
 exact ⟨of_decide_eq_true h8,of_decide_eq_true (p:=(relabel sc X.env).names.lookup x=some .cell\/(relabel sc X.env).names.lookup x=some .free) h9,of_decide_eq_true (p:=X.env.scope.names.lookup x=some .local\/X.env.scope.names.lookup x=some .cell\/X.env.scope.names.lookup x=some .free) h10⟩
def PTs (X:Cx) (ifs:List Expr) (t:TT):Prop :=
 ∀ (Aa:List (Addr × Obj)) (s:Shared) (σ:St) (H:Hp) (Q:Bool->Hp->Prop),Inv X Aa σ H s->t σ H Q →
   wpAny (model X.prog X.w) X.A (forIn ifs true fun c r=>if r=true then do let ok ←isTrue c X.env (eval c X.env);pure (ForInStep.yield ok) else pure (ForInStep.yield r)) (TP X Aa σ Q) X.xe s
def tYes:TT:=fun _ H Q=>Q true H
theorem Dd {X:Cx}:PTs X [] tYes:=fun _ _ _ H _ I h=>wpAny_tests_nil ⟨H,I,h⟩
theorem D9 {X:Cx}{c:Expr}{t:TT} (h:PT X c t):PTs X [c] t:=fun Aa s σ H Q I hw=>wpAny_tests_one (h Aa s σ H Q I hw)
def RunC (J:It) (g:TG) (tc:TT) (te:TE) (D:Addr) (Q:Hp->Prop) (τ:St) (H:Hp):Prop :=
 ∃ W:Nat->Nat->List V->St->Hp->Prop,(∃ m,W 0 m [] τ H)/\∀ i m ys τ H,W i m ys τ H →
   (J.stop i H/\Q H) ∨
   (J.go i H/\∃ N:List V->St->Hp->Prop,(∀ ys' τ' H',N ys' τ' H'->∃ m',m'<m/\W (i+1) m' ys' τ' H') ∧
     ∀ x H',J.yld i H x H'->g x τ H' fun τ2 H2=>tc τ2 H2 fun b H3=>if b=true then te τ2 H3 fun y H4=>H4 D=some (.lst ys)/\ys.length<sizeLine/\N (ys++[y]) τ2 (upd H4 D (.lst (ys++[y]))) else N ys τ2 H3)
section
variable {X:Cx}{sc:Scope}{N':List Str}{cap:List (Option Nat)}{tg elt iter:Expr}{ifs:List Expr}{pos:Pos}{g:TG}{tc:TT}{te:TE}
theorem V9 {Y:Cx}{J:It}{fp:List Addr}{it D:Addr}{tn:Nat->Heap->Prop}{R:Result->Shared->Prop}{Q:Hp->Prop}{τ:St}{H:Hp}{s:Shared}
 (hx:Y.xe=fun _ _=>False) (hc:Y.calm=true) (hg:PG Y tg g) (ht:PTs Y ifs tc) (he:PE Y elt te) (T:Turn Y.prog Y.w Y.K tg J fp it tn) (st:tn 0 s.heap) (hf:∀ b∈fp,FpOk Y [] H b) (I:Inv Y [] τ H s)
 (h:RunC J g tc te D Q τ H) (hR:∀ τ' H' s',Inv Y [] τ' H' s'->Q H'->R (.ok .next) s') :
 codeAny (model Y.prog Y.w) Y.A (.compLoop (.ListComp elt [⟨tg,iter,ifs,0⟩] sc pos) 0 (.ref it) (.ref D) Y.env) R s:=by
 obtain⟨W,⟨m0,w0⟩,turn⟩:=h
 have stat:∀{H':Hp},(∀ b∈fp,H' b=none)->∀ b∈fp,FpOk Y [] H' b:=fun hn b hb=>⟨hn b hb,(hf b hb).2⟩
 have no:∀{P:Prop}{e:Value}{s':Shared},Y.xe e s'->P:=fun z=>by rw [hx] at z;exact z.elim
 refine codeAny_loop rfl (fun n s'=>∃ i ys τ' H',Inv Y [] τ' H' s'/\tn i s'.heap/\(∀ b∈fp,H' b=none)/\W i n ys τ' H') ?_ m0 ⟨0,[],τ,H,I,st,fun b hb=>(hf b hb).1,w0⟩
 rintro n s3 ⟨i,ys,τ3,H3,I3,st3,fr3,w3⟩
 show wpAny _ Y.A ((compTurn (.ListComp elt [⟨tg,iter,ifs,0⟩] sc pos) 0 (.ref it) (.ref D) Y.env).onRaise (fun x=>do noteFrame x Y.env;theTreesLotGoes x)) _ _ s3
 refine wpAny_noted ?_
 rw [compTurn_list]
 refine wpAny_bind (wpAny_standAt (wpAny_bind ?_))
 rcases turn i n ys τ3 H3 w3 with ⟨stop,qn⟩|⟨go,N,hN,step⟩
 . refine wpAny_mono (T.done Y rfl rfl rfl hc i [] s3 τ3 H3 (fun _ _=>False) I3 (stat fr3) st3 stop) (fun r s4 ⟨hr,I4⟩=>?_) fun _ _ z=>z.elim
   subst hr
   exact wpAny_pure (hR _ _ _ I4 qn)
 . refine wpAny_mono (T.item Y rfl rfl rfl hc i [] s3 τ3 H3 (fun _ _=>False) I3 (stat fr3) st3 go) (fun r s4 ⟨u,hr,h4⟩=>?_) fun _ _ z=>z.elim
   subst hr
   refine wpAny_bind (wpAny_mono h4 (fun _ s5 ⟨x,H5,I5,r5,y5,st5,fr5⟩=>?_) fun _ _ z=>z.elim)
   have I5':=I5.pinned (stat fr5) (T.obj _ _ st5)
   have again:∀{τ7:St}{H7:Hp}{ys7:List V}{s7:Shared},Inv Y ([]++U6 fp s5.heap) τ7 H7 s7->N ys7 τ7 H7->∃ m,m<n/\∃ i ys τ' H',Inv Y [] τ' H' s7/\tn i s7.heap/\(∀ b∈fp,H' b=none)/\W i m ys τ' H':=fun {τ7 H7 ys7 s7} I7 n7=>by
    obtain⟨m',hm,w7⟩:=hN ys7 τ7 H7 n7
    refine⟨m',hm,i+1,ys7,τ7,H7,I7.unpinned,T.keep _ _ _ st5 fun b hb o e=>(I7.pin (b,o) (List.mem_append_right _ (List.mem_append_right _ (Iu hb e)))).1,fun b hb=>?_,w7⟩
    obtain⟨o,e,d⟩:=T.obj _ _ st5 b hb
    exact (I7.pin (b,o) (List.mem_append_right _ (List.mem_append_right _ (Iu hb e)))).2.1
   refine wpAny_bind (wpAny_mono (hg _ s5 τ3 H5 x u _ I5' r5 (step x H5 y5)) (fun _ s6 ⟨τ6,H6,I6,q6⟩=>?_) fun _ _ z=>no z)
   refine wpAny_bind (wpAny_mono (ht _ s6 τ6 H6 _ I6 q6) (fun ok s7 ⟨H7,I7,q7⟩=>?_) fun _ _ z=>no z)
   cases ok with
   | false =>
     have q8:N ys τ6 H7:=by simpa using q7
     exact wpAny_pure ⟨rfl,again I7 q8⟩
   | true =>
     have q8:te τ6 H7 fun y H4=>H4 D=some (.lst ys)/\ys.length<sizeLine/\N (ys++[y]) τ6 (upd H4 D (.lst (ys++[y]))):=by simpa using q7
     refine wpAny_bind (wpAny_bind (wpAny_mono (he _ s7 τ6 H7 _ I7 q8) (fun y s8 ⟨v8,H8,I8,r8,hD,hl,n8⟩=>?_) fun _ _ z=>no z))
     refine wpAny_bind (wpAny_mono (B5 _ s8 τ6 H8 (.ref D) [v8] (.ref D) [y] (fun _ H9=>N (ys++[v8]) τ6 H9) I8 rfl (.cons r8 .nil) ⟨D,ys,v8,rfl,rfl,hD,hl,n8⟩) (fun _ s9 ⟨_,H9,I9,_,n9⟩=>?_) fun _ _ z=>no z)
     exact wpAny_pure (wpAny_pure ⟨rfl,again I9 n9⟩)
theorem Rq {Aa:List (Addr × Obj)}{σ:St}{H:Hp}{s:Shared}{J:It}{fp:List Addr}{it:Addr}{tn:Nat->Heap->Prop}{RR:Value->Addr->Result->Shared->Prop}{Q:Addr->Hp->Prop}{E:Value->Shared->Prop}
 (c:W5 X sc N' cap) (hc:X.calm=true) (hg:∀ C s₀ H₀ fp,PG (Dp X sc N' C s₀ H₀ fp) tg g) (ht:∀ C s₀ H₀ fp,PTs (Dp X sc N' C s₀ H₀ fp) ifs tc) (he:∀ C s₀ H₀ fp,PE (Dp X sc N' C s₀ H₀ fp) elt te)
 (I:Inv X Aa σ H s) (T:Turn X.prog X.w X.K tg J fp it tn) (st:tn 0 s.heap) (hf:∀ b∈fp,FpOk X Aa H b)
 (h:∀ D,H D=none->RunC J g tc te D (Q D) (capS cap σ) (upd H D (.lst [])))
 (hR:∀ D C s' H' m',H D=none->s.heap.objs.size<=C->s'.os=s.os->AllBare s'.gens->Un (frs X.stack) fp H H' s.heap s'.heap->HOk X.prog X.w H' s'.heap->s'.heap.Ns C m'->H' C=none->C ∉ fp->Q D H'->RR (.ref D) C (.ok .next) s') :
 wpAny (model X.prog X.w) X.A (newList []) (fun acc s₃=>wpAny (model X.prog X.w) X.A (newFunctionEnv sc X.env.globals (clOf X.env.cells sc.names []) [] X.env.qual none .none (some X.env)) (fun cenv s₄ =>
  codeAny (model X.prog X.w) X.A (.compStart (.ListComp elt [⟨tg,iter,ifs,0⟩] sc pos) 0 (.ref it) acc { cenv with scope:=relabel sc X.env }) (RR acc cenv.locals) s₄) E s₃) E s:=by
 have hb:∀ b∈fp,b<s.heap.objs.size:=fun b hb=>by
  obtain⟨o,e,_⟩:=T.obj _ _ st b hb
  exact Heap.lt_size e
 refine wpAny_newObj_type (wpAny_newFunctionEnv c.nocell (by intro y hy;simp at hy) (fun h₁ hns₁ hsb₁=>?_) c.kind)
 dsimp only at hns₁ hsb₁ ⊢
 generalize hH2:s.heap.push { cls:=.type "list",dict:=none,data:=.seq ([]:List Value).toArray }=H2 at hns₁ hsb₁ ⊢
 have hC:H2.objs.size=s.heap.objs.size+1:=by rw [←hH2,Heap.size_push]
 have hCl:s.heap.objs.size<=H2.objs.size:=by rw [hC];exact Nat.le_succ _
 have hCn:s.heap.objs.size≠H2.objs.size:=by rw [hC];exact (Nat.succ_ne_self _).symm
 have old:∀ b o,s.heap.get? b=some o->h₁.get? b=some o:=fun b o e=>by
  have l1:=Heap.lt_size e
  exact hsb₁.extBut b o (Nat.ne_of_lt (Nat.lt_of_lt_of_le l1 hCl)) (Heap.get?_push_of_some _ (hH2▸Heap.get?_push_of_some _ e))
 have hl:h₁.get? s.heap.objs.size=some { cls:=.type "list",data:=.seq #[] 0 }:=hsb₁.extBut _ _ hCn (Heap.get?_push_of_some _ (hH2▸Heap.get?_push_size _ rfl))
 have hns₂:h₁.Ns H2.objs.size fun _=>none:=by simpa using hns₁
 have I4:Inv (Dp X sc N' H2.objs.size s H fp) [] (capS cap σ) (upd H s.heap.objs.size (.lst [])) { s with heap:=h₁,toks:=s.toks+([]:List (Str × Value)).length }:=Av8 c I hC rfl hf hb hns₂ hl old
 have hfr:H s.heap.objs.size=none:=I.fresh
 have f4:∀ b∈fp,FpOk (Dp X sc N' H2.objs.size s H fp) [] (upd H s.heap.objs.size (.lst [])) b:=fun b hb'=>by
  obtain⟨f0,f1,f2,f3,f4,f5⟩:=hf b hb'
  have lb:=hb b hb'
  refine⟨by rw [Ah (Nat.ne_of_lt lb)];exact f0,(Nat.ne_of_lt (Nat.lt_of_lt_of_le lb hCl):b≠H2.objs.size),fun z=>?_,.inl hb',fun x a e=>f4 x a (B3 (c.cells I.ok) (fun z=>by simp at z) e),fun p hp=>absurd hp (by simp [Dp])⟩
  rcases List.mem_cons.mp (I.stkSub b z) with e | e
  . exact f1 e
  . exact f2 e
 have st4:tn 0 h₁:=T.keep _ _ _ st fun b _ o e=>old b o e
 have loop:∀ s₅:Shared,s₅={ s with heap:=h₁,toks:=s.toks+([]:List (Str × Value)).length } →
  codeAny (model X.prog X.w) X.A (.compLoop (.ListComp elt [⟨tg,iter,ifs,0⟩] sc pos) 0 (.ref it) (.ref s.heap.objs.size) (Dp X sc N' H2.objs.size s H fp).env) (RR (.ref s.heap.objs.size) H2.objs.size) s₅:=by
  rintro s₅ rfl
  refine V9 (Y:=Dp X sc N' H2.objs.size s H fp) (J:=J) (fp:=fp) (tn:=tn) (Q:=Q s.heap.objs.size) rfl hc (hg _ _ _ _) (ht _ _ _ _) (he _ _ _ _) T st4 f4 I4 (h _ hfr) fun τ' H' s' I' q'=>?_
  obtain⟨m',hn',_⟩:=I'.loc
  exact hR _ _ s' H' m' hfr hCl I'.os I'.bare I'.base I'.hok hn' I'.free (fun z=>absurd (Nat.lt_of_lt_of_le (hb _ z) hCl) (Nat.lt_irrefl _)) q'
 exact codeAny_compStart_list (loop _ rfl) (T.self _ 0 _ _ _ st4 (loop _ rfl))
def Az1 (wi:TI) (cap:List (Option Nat)) (g:TG) (tc:TT) (te:TE):TE:=fun σ H Q=>wi σ H fun J H1=>∀ D,H1 D=none->RunC J g tc te D (fun H'=>Q (.ref D) H') (capS cap σ) (upd H1 D (.lst []))
theorem Inv.fpCh {Aa:List (Addr × Obj)}{H:Hp}{fp:List Addr} (hf:∀ b∈fp,FpOk X Aa H b):∀ b∈fp,(b∈X.ex\/X.s₀.heap.objs.size<=b)/\b≠X.env.locals/\(∀ x c,X.env.cells.lookup x=some c->c≠b)/\∀ p∈X.pn++Aa,p.1≠b :=
 fun b hb=>let ⟨_,f1,_,f3,f4,f5⟩:=hf b hb;⟨f3,f1,f4,f5⟩
theorem Cn {wi:TI} (hc:X.calm=true) (hcap:capB X.env.scope X.N sc N' cap=true) (hi:PI X tg iter wi) (hg:∀ C s₀ H₀ fp,PG (Dp X sc N' C s₀ H₀ fp) tg g) (ht:∀ C s₀ H₀ fp,PTs (Dp X sc N' C s₀ H₀ fp) ifs tc)
 (he:∀ C s₀ H₀ fp,PE (Dp X sc N' C s₀ H₀ fp) elt te) (hs:∀ x,foldedSetIterable iter X.env x=pure x:=by intro _;rfl):PE X (.ListComp elt [⟨tg,iter,ifs,0⟩] sc pos) (Az1 wi cap g tc te):=by
 intro Aa s σ H Q I h
 have c:W5 X sc N' cap:=An4 hcap
 rw [eval_ListComp]
 refine wpAny_comprehension_free (use:=none) rfl hs (Mi (c.cells I.ok)) c.kind c.locals (thn (hi Aa s σ H _ I h) fun v s1 h1=>thn h1 fun itv s2 h2=>?_)
 obtain⟨it,fp,tn,J,H2,e,I2,T,st2,f2,hW⟩:=h2
 subst e
 refine Rq (RR:=fun acc C=>compPost (model X.prog X.w) X.A X.xe none (EP X Aa σ Q) acc C) (Q:=fun D H'=>Q (.ref D) H') c hc hg ht he I2 T st2 f2 hW ?_
 intro D C s' H' m' hD hC hos hbare hun hok hn hHC hCf q
 refine⟨m',hn,fun h' hsb=>?_⟩
 have I3:Inv X Aa σ H' s':=I2.call' hos hun hok hbare (Inv.fpCh f2)
 have f3:FpOk X Aa H' C:=I2.fpOk hC hHC
 obtain⟨_,k1,_,k3,k4,k5⟩:=f3
 have I4:Inv X Aa σ H' { s' with heap:=h' }:=I3.turned (t':=s'.toks) (fun b o hb e=>(hsb.2 b hb).trans e) hHC k1 k3 k4 k5
 exact ⟨.ref D,H',I4,rfl,q⟩
theorem Jy {wi:TI}{i:Nat}{x:Str}{px spos:Pos} (hN:X.N.Nodup) (hi':X.N[i]?=some x) (hx:Loc X.env.scope x) (hc:X.calm=true) (hcap:capB X.env.scope X.N sc N' cap=true) (hi:PI X tg iter wi)
 (hg:∀ C s₀ H₀ fp,PG (Dp X sc N' C s₀ H₀ fp) tg g) (ht:∀ C s₀ H₀ fp,PTs (Dp X sc N' C s₀ H₀ fp) ifs tc) (he:∀ C s₀ H₀ fp,PE (Dp X sc N' C s₀ H₀ fp) elt te)
 (hsw:swapsWith (.ListComp elt [⟨tg,iter,ifs,0⟩] sc pos) (some (.Name x px)) spos.line X.env=pure true:=by rfl)
 (hs:∀ x,foldedSetIterable iter X.env x=pure x:=by intro _;rfl) (hf:X.fn x=true\/X.env.scope.names.lookup x=some .local:=by first | exact .inl rfl | exact .inr rfl | assumption) :
 PS X (.Assign [.Name x px] (.ListComp elt [⟨tg,iter,ifs,0⟩] sc pos) spos) (tAsg (Az1 wi cap g tc te) (n0 i)):=by
 intro Aa s σ H D I h
 have c:W5 X sc N' cap:=An4 hcap
 rw [exec_Assign_Name_used _ _ _ _ hsw]
 refine wpAny_bind (wpAny_standAt (wpAny_bind ?_))
 show wpAny _ X.A (do let _ ←comprehension (.ListComp elt [⟨tg,iter,ifs,0⟩] sc pos) sc X.env _ (newList []) false (eval iter X.env) (some (assign (.Name x px) X.env))) _ _ s
 refine wpAny_bind (thn (wpAny_comprehension_free (use:=some (assign (.Name x px) X.env)) (Q:=fun _ s'=>SP X Aa D .next s') rfl hs (Mi (c.cells I.ok)) c.kind c.locals
  (thn (hi Aa s σ H _ I h) fun v s1 h1=>thn h1 fun itv s2 h2=>?_)) fun _ s' hq=>wpAny_pure (wpAny_pure hq))
 obtain⟨it,fp,tn,J,H2,e,I2,T,st2,f2,hW⟩:=h2
 subst e
 refine Rq (RR:=fun acc C=>compPost (model X.prog X.w) X.A X.xe (some (assign (.Name x px) X.env)) (fun _ s'=>SP X Aa D .next s') acc C) (Q:=fun A H'=>n0 i (.ref A) σ H' D.nx) c hc hg ht he I2 T st2 f2 hW ?_
 intro A C s' H' m' hD hC hos hbare hun hok hn hHC hCf q
 have I3:Inv X Aa σ H' s':=I2.call' hos hun hok hbare (Inv.fpCh f2)
 have f3:FpOk X Aa H' C:=I2.fpOk hC hHC
 obtain⟨_,k1,_,k3,k4,k5⟩:=f3
 show wpAny _ X.A (assign (.Name x px) X.env (.ref A)) _ _ s'
 refine wpAny_assign_Name (Nv I3 hN hi' hx (v:=.ref A) rfl (fun s'' I'' ⟨a,hsb,ha⟩=>?_) hf)
 have hCa:C≠a:=by
  rcases ha with z | z
  . rw [z];exact k1
  . exact fun z'=>k4 x a z z'.symm
 refine⟨m',hn.sameBut hsb hCa,fun h' hsb'=>?_⟩
 have I4:Inv X Aa (σ.set i (some (.ref A))) H' { s'' with heap:=h' }:=I''.turned (t':=s''.toks) (fun b o hb e=>(hsb'.2 b hb).trans e) hHC k1 k3 k4 k5
 exact ⟨_,H',I4,q⟩
end
section
variable {g:TG}{tc:TT}{te:TE}{D:Addr}{Q:Hp->Prop}{τ:St}{H:Hp}
theorem Hz {K:W.Frag}{a:Addr}{xs:List V} (Pv:Nat->List V->St->Hp->Prop) (h0:Pv 0 [] τ H) (hl:∀ i ys τ H,i<=xs.length->Pv i ys τ H->SqL K H a xs)
 (hs:∀ i x ys τ H,xs[i]?=some x->Pv i ys τ H->g x τ H fun τ2 H2=>tc τ2 H2 fun b H3=>if b=true then te τ2 H3 fun y H4=>H4 D=some (.lst ys)/\ys.length<sizeLine/\Pv (i+1) (ys++[y]) τ2 (upd H4 D (.lst (ys++[y]))) else Pv (i+1) ys τ2 H3)
 (hd:∀ ys τ H,Pv xs.length ys τ H->Q H):RunC (Itl K a) g tc te D Q τ H:=by
 refine⟨fun i m ys τ H=>m=xs.length-i/\i<=xs.length/\Pv i ys τ H,⟨xs.length,by simp,Nat.zero_le _,h0⟩,?_⟩
 rintro i m ys τ H ⟨rfl,hi,p⟩
 have q:=hl i ys τ H hi p
 by_cases hlt:i<xs.length
 . refine .inr ⟨⟨xs,xs[i],q,by simp [hlt]⟩,Pv (i+1),fun ys' τ' H' p'=>⟨xs.length-(i+1),by omega,rfl,hlt,p'⟩,fun x H' y=>?_⟩
   obtain⟨e,y⟩:=y
   subst e
   exact hs i x ys τ _ (y xs q) p
 . have e:i=xs.length:=by omega
   subst e
   exact .inl ⟨⟨xs,q,Nat.le_refl _⟩,hd ys τ H p⟩
theorem Av6 {K:W.Frag}{a:Addr}{xs:List V} (Pv:Nat->List V->St->Hp->Prop) (h0:Pv 0 [] τ H) (hl:∀ i ys τ H,i<=xs.length->Pv i ys τ H->SqT K H a xs)
 (hs:∀ i x ys τ H,xs[i]?=some x->Pv i ys τ H->g x τ H fun τ2 H2=>tc τ2 H2 fun b H3=>if b=true then te τ2 H3 fun y H4=>H4 D=some (.lst ys)/\ys.length<sizeLine/\Pv (i+1) (ys++[y]) τ2 (upd H4 D (.lst (ys++[y]))) else Pv (i+1) ys τ2 H3)
 (hd:∀ ys τ H,Pv xs.length ys τ H->Q H):RunC (Itt K a) g tc te D Q τ H:=by
 refine⟨fun i m ys τ H=>m=xs.length-i/\i<=xs.length/\Pv i ys τ H,⟨xs.length,by simp,Nat.zero_le _,h0⟩,?_⟩
 rintro i m ys τ H ⟨rfl,hi,p⟩
 have q:=hl i ys τ H hi p
 by_cases hlt:i<xs.length
 . refine .inr ⟨⟨xs,xs[i],q,by simp [hlt]⟩,Pv (i+1),fun ys' τ' H' p'=>⟨xs.length-(i+1),by omega,rfl,hlt,p'⟩,fun x H' y=>?_⟩
   obtain⟨e,y⟩:=y
   subst e
   exact hs i x ys τ _ (y xs q) p
 . have e:i=xs.length:=by omega
   subst e
   exact .inl ⟨⟨xs,q,Nat.le_refl _⟩,hd ys τ H p⟩
theorem Fi {lo:Int}{n:Nat} (Pv:Nat->List V->St->Hp->Prop) (h0:Pv 0 [] τ H)
 (hs:∀ i ys τ H,i<n->Pv i ys τ H->g (.int (lo+i)) τ H fun τ2 H2=>tc τ2 H2 fun b H3=>if b=true then te τ2 H3 fun y H4=>H4 D=some (.lst ys)/\ys.length<sizeLine/\Pv (i+1) (ys++[y]) τ2 (upd H4 D (.lst (ys++[y]))) else Pv (i+1) ys τ2 H3)
 (hd:∀ ys τ H,Pv n ys τ H->Q H):RunC (Itr lo n) g tc te D Q τ H:=by
 refine⟨fun i m ys τ H=>m=n-i/\i<=n/\Pv i ys τ H,⟨n,by simp,Nat.zero_le _,h0⟩,?_⟩
 rintro i m ys τ H ⟨rfl,hi,p⟩
 by_cases hlt:i<n
 . refine .inr ⟨hlt,Pv (i+1),fun ys' τ' H' p'=>⟨n-(i+1),by omega,rfl,hlt,p'⟩,fun x H' y=>?_⟩
   obtain⟨e,y⟩:=y
   subst e y
   exact hs i ys τ _ hlt p
 . have e:i=n:=by omega
   subst e
   exact .inl ⟨Nat.le_refl _,hd ys τ H p⟩
end
end L2
namespace L2
open PySem PySem.Spec PyProof.Rows PySem.SeqAt
def cK (ms:List (Int × Int)):List (Key × V):=ms.map fun p=>(Sum.inl p.1,V.int p.2)
def lookI (ms:List (Int × Int)) (k:Int):Option Int:=(ms.find? fun p=>decide (p.1=k)).map (·.2)
end L2
namespace L2
open PySem PySem.Spec PyProof.Rows
section
variable {prog:Program}{w:World}{A:Around}{E:Value->Shared->Prop}
theorem Vm:typeLookup (.type "list") "keys"=pure none:=am_miss_of_fast (by kernel_rfl)
theorem Qz {s:Shared}{a:Addr}{xs:Array Value}{k:Nat}{Q:Option Value->Shared->Prop}
 (hx:s.heap.get? a=some { cls:=.type "list",data:=.seq xs k }) (hA:A.handled=none)
 (h:∀ h' tk,(∀ b o,s.heap.get? b=some o->h'.get? b=some o)->Q none { s with heap:=h',toks:=tk }) :
 wpAny (model prog w) A (getAttr? (.ref a) "keys") Q E s:=by
 obtain⟨hp,g,d,tk,os⟩:=s
 have hT:∀ tk',(⟨hp,g,d,tk',os⟩:Shared).TypeIs (.ref a) "list":=fun _=>⟨_,hx,rfl⟩
 have f1:=sub_AttributeError
 have f3:=F.slot_list_getattribute.lookup
 have f4:=F.slot_list_getattribute.bind (.ref a)
 have f5:=am_list_getattr_none
 unfold getAttr? getAttrBy? getAttrBy
 repeat (any_goals (first | assumption | exact hT _ | ((with_reducible show wpAny _ _ (call (Value.builtin "list.__getattribute__") _ _) _ _ _);refine call_meets F.slot_list_getattribute (hT _) am_entry_list_getattribute (F.args_list_getattribute_2 _ _) (meets_getattribute_miss_list a xs k #[] "keys" _ Vm (by decide +kernel)) ⟨hx,hA,fun h' tk' e hx'=>?_⟩) | wp_step))
 obtain⟨t',u',he⟩:=hx'.there
 show wpAny _ _ (getattributeRaised _ _ _ _ _ _ _) _ _ _
 unfold getattributeRaised
 repeat (any_goals (first | assumption | wp_step))
 exact h _ _ hx'.keeps
theorem Fu:plainId "dict.update.loop"=true:=by decide +kernel
theorem O8:entryFor table "dict.update.loop"=some Builtin.«dict.update.loop»:=entryFor_of_fast (by kernel_rfl)
variable {KT:Type} [DecidableEq KT] {knd:KeyKind prog w KT}
def But2 (d it:Addr) (h0 h:Heap):Prop:=∀ b o,b≠d->b≠it->h0.get? b=some o->h.get? b=some o
theorem Ak7 (hh:A.handled=none) {d it l:Addr}{items:Array Value}{prs:List (KT × Value)} (hl:prs.length=items.size) (ndi:d≠it) (nld:l≠d) (nli:l≠it) {h0:Heap} (hL:h0.IsList l items)
 (hP:∀ (i:Nat) (x:Value),items[i]?=some x->∃ (p:KT × Value) (t:Addr) (key:Value),prs[i]?=some p/\x=.ref t/\t≠d/\t≠it/\h0.IsTuple t #[key,p.2]/\knd.is p.1 key=true) {R:Result->Shared->Prop} :
 ∀ (n i:Nat) (s:Shared) (acc:List (KT × Value)),prs.length-i=n->i<=prs.length->acc.length+n<=sizeLine->s.heap.DictOf knd d acc->s.heap.IsListIter it l i->But2 d it h0 s.heap →
   (∀ h' tk,h'.DictOf knd d (merged acc (prs.drop i))->But2 d it h0 h'->R (.ok (.ret .none)) { s with heap:=h',toks:=tk }) →
   codeAny (model prog w) A (.builtin "dict.update.loop" ⟨[.ref d,.ref it,rawInt i,.none],[]⟩) R s:=by
 intro n
 induction n with
 | zero =>
   intro i s acc hn hi hz hd hit hb k
   refine codeAny_builtin O8 ?_
   rw [Around.under_plainId Fu]
   have hLs:s.heap.IsList l items:=let ⟨o,ho,r⟩:=hL;⟨o,hb _ _ nld nli ho,r⟩
   have hx:items[i]?=none:=by simp;omega
   show wpAny _ _ (pyNext (.ref it)>>=_) _ _ s
   refine wpAny_bind (wpAny_pyNext_list_end hh hit hLs hx fun h' he=>?_)
   show wpAny _ _ (Builtin.Dict.addKeywords d []>>=_) _ _ _
   refine wpAny_bind (wpAny_pure (wpAny_pure ?_))
   have e:prs.drop i=[]:=by simp;omega
   have k':=k h' s.toks (by rw [e];exact hd.extBut he ndi) fun b o n1 n2 q=>he b o n2 (hb b o n1 n2 q)
   exact k'
 | succ n ih =>
   intro i s acc hn hi hz hd hit hb k
   refine codeAny_builtin O8 ?_
   rw [Around.under_plainId Fu]
   have hLs:s.heap.IsList l items:=let ⟨o,ho,r⟩:=hL;⟨o,hb _ _ nld nli ho,r⟩
   have hlt:i<items.size:=by omega
   obtain⟨p,t,key,hp,ex,ntd,nti,hT,hkey⟩:=hP i items[i] (by simp [hlt])
   show wpAny _ _ (pyNext (.ref it)>>=_) _ _ s
   refine wpAny_bind (wpAny_pyNext_list_item hit hLs (x:=items[i]) (by simp [hlt]) fun h1 hit1 hs1=>?_)
   rw [ex]
   have hT1:h1.IsTuple t #[key,p.2]:=let ⟨o,ho,r⟩:=hT;⟨o,(hs1.2 t nti).trans (hb _ _ ntd nti ho),r⟩
   have hd1:h1.DictOf knd d acc:=hd.sameBut hs1 ndi
   obtain⟨o,ho,hc,m,hdat⟩:=hT1
   refine wpAny_bind (wpAny_holding ?_)
   refine wpAny_bind (wpAny_tryCatch ?_)
   unfold Builtin.Dict.pairItems
   refine wpAny_bind (wpAny_typeOf (show (({ s with heap:=h1 }:Shared).TypeIs (.ref t) "tuple") from ⟨o,ho,hc⟩) ?_)
   rw [if_pos (by decide)]
   refine wpAny_bind (wpAny_seqItems ho hdat (wpAny_pure ?_))
   show wpAny _ _ (holding [key,p.2] (dictSet d key p.2)) _ _ _
   refine wpAny_holding (wpAny_dictSet_pairs (s:={ s with heap:=h1 }) hkey hd1 (fun h2 hd2 hs2=>?_) (by omega))
   refine wpAny_pure ⟨plainId_quiet Fu _,?_⟩
   have e2:prs.drop i=p::prs.drop (i+1):=by
    rw [List.drop_eq_getElem_cons (by omega)]
    congr 1
    rw [List.getElem?_eq_getElem (by omega)] at hp
    exact Option.some.inj hp
   have hl2:=stored_length_le acc p.1 p.2
   refine ih (i+1) { s with heap:=h2,toks:=s.toks+1 } (stored acc p.1 p.2) (by omega) (by omega) (by omega) hd2 ?_ (fun b o' n1 n2 q=>?_) (fun h' tk hd' hb'=>k h' tk (by rw [e2];exact hd') hb')
   . obtain⟨oi,hoi,ri⟩:=hit1
     exact ⟨oi,(hs2.2 it (Ne.symm ndi)).trans hoi,ri⟩
   . exact (hs2.2 b n1).trans ((hs1.2 b n2).trans (hb b o' n1 n2 q))
end
theorem vals_pair {x y:V}{us:List Value} (r:Vals [x,y] us):∃ a b,us=[a,b]/\RelV x a/\RelV y b:=by
 cases r with
 | cons h1 r =>
   cases r with
   | cons h2 r =>
     cases r
     exact ⟨_,_,rfl,h1,h2⟩
theorem Zh {P:Program}{w:World}{H:Hp}{h:Heap} (hok:HOk P w H h):∀ (ts:List Addr) (kvs:List (Key × V)),ts.length=kvs.length->(∀ (i:Nat) t,ts[i]?=some t->∃ kv:Key × V,kvs[i]?=some kv/\H t=some (.tup [kV kv.1,kv.2])) →
 ∃ prs:List (Key × Value),KV kvs prs/\prs.length=ts.length/\∀ (i:Nat) t,ts[i]?=some t->∃ (p:Key × Value) (key:Value),prs[i]?=some p/\h.IsTuple t #[key,p.2]/\(mixKind P w).is p.1 key=true
 | [],[],_,_=>⟨[],.nil,rfl,fun i t e=>by simp at e⟩
 | [],_::_,hl,_=>by simp at hl
 | _::_,[],hl,_=>by simp at hl
 | t::ts,kv::kvs,hl,hk=>by
   obtain⟨prs,h1,h2,h3⟩:=Zh hok ts kvs (by simpa using hl) fun i t e=>by
    obtain⟨kv',e1,e2⟩:=hk (i+1) t (by simpa using e)
    exact ⟨kv',by simpa using e1,e2⟩
   obtain⟨kv',e1,e2⟩:=hk 0 t rfl
   have e1':kv=kv':=by simpa using e1
   subst e1'
   obtain⟨_,its,rv,o,ho,hc,hdn,n,hd⟩:=hok t _ e2
   obtain⟨a,b,rfl,ra,rb⟩:=vals_pair rv
   refine⟨(kv.1,b)::prs,.cons ⟨rfl,rb⟩ h1,by simp [h2],fun i t' e=>?_⟩
   cases i with
   | zero =>
     have:t=t':=by simpa using e
     subst this
     exact ⟨(kv.1,b),a,rfl,⟨o,ho,hc,n,hd⟩,kV_is ra⟩
   | succ i =>
     obtain⟨p,key,q1,q2,q3⟩:=h3 i t' (by simpa using e)
     exact ⟨p,key,by simpa using q1,q2,q3⟩
theorem Rz {X:Cx} (hc:X.calm=true):F9 X (.type "dict") (fun xs H Q=>∃ (p:Addr) (ts:List Addr) (kvs:List (Key × V)),xs=[.ref p]/\H p=some (.lst (ts.map V.ref))/\ts.length=kvs.length ∧
 (∀ (i:Nat) t,ts[i]?=some t->∃ kv:Key × V,kvs[i]?=some kv/\H t=some (.tup [kV kv.1,kv.2]))/\∀ D,H D=none->Q (.ref D) (upd H D (.dK (Fd [] kvs)))):=by
 intro Aa s σ H xs us Q I r h
 obtain⟨l,ts,kvs,rfl,hl,hlen,hk,q⟩:=h
 obtain⟨u,rfl,ru⟩:=Um r
 cases ru
 have hh:X.A.handled=none:=I.ok.hd hc
 obtain⟨hz,its,n,rv,ho⟩:=I.hok l _ hl
 rw [List.length_map] at hz
 have hil:its.length=ts.length:=by rw [←rv.length,List.length_map]
 obtain⟨prs,hkv,hpl,hP⟩:=Zh I.hok ts kvs hlen hk
 have at_:∀ (i:Nat) (x:Value),its.toArray[i]?=some x->∃ t,ts[i]?=some t/\x=.ref t:=fun i x e=>by
  have e':its[i]?=some x:=by simpa using e
  have hlt:i<its.length:=(List.getElem?_eq_some_iff.mp e').1
  have hb:ts[i]?=some (ts[i]'(by omega)):=by simp<;>omega
  obtain⟨u,hu,ru⟩:=rv.get (i:=i) (x:=V.ref (ts[i]'(by omega))) (by rw [List.getElem?_map,hb];rfl)
  rw [e'] at hu
  cases hu
  cases ru
  exact ⟨_,hb,rfl⟩
 refine callType_codes (Q₁:=fun obj s₁=>obj=.ref s.heap.objs.size/\s₁={ s with heap:=s.heap.push { cls:=.type "dict",data:=.dict #[] } }) PySem.F.kt_called_dict (PySem.F.kt_typeCall_dict_1 _) PySem.F.entry_dict_init (kt_code_dict_new _ ⟨rfl,rfl⟩) ?_
 rintro obj s₁ ⟨rfl,rfl⟩
 have hnew:(s.heap.push { cls:=.type "dict",data:=.dict #[] }).DictOf (mixKind X.prog X.w) s.heap.objs.size []:=Heap.DictOf.new s.heap
 refine⟨hnew.typeIs,PySem.F.args_dict_init_2 _ _,?_⟩
 unfold Builtin.«dict.__init__»
 refine wpAny_bind ?_
 unfold Builtin.Dict.selfAndRest
 refine wpAny_bind (wpAny_notOrdered_dict hnew.typeIs ?_)
 show wpAny _ _ (pure (s.heap.objs.size,[Value.ref l])) _ _ _
 refine wpAny_pure ?_
 show wpAny _ _ (Builtin.Dict.updateFrom "dict.__init__" s.heap.objs.size (.ref l) [] .none) _ _ _
 unfold Builtin.Dict.updateFrom
 have ho1:(s.heap.push { cls:=.type "dict",data:=.dict #[] }).get? l=some { cls:=.type "list",data:=.seq its.toArray n }:=Heap.get?_push_of_some _ ho
 refine wpAny_bind (wpAny_typeOf (show (({ s with heap:=s.heap.push { cls:=.type "dict",data:=.dict #[] } }:Shared).TypeIs (.ref l) "list") from ⟨_,ho1,rfl⟩) ?_)
 rw [if_pos (by decide)]
 refine wpAny_bind (Qz ho1 hh fun h1 tk hk1=>?_)
 rw [if_pos (show (none:Option Value).isNone=true from rfl)]
 refine wpAny_bind (wpAny_rule ?_)
 have hl1:h1.IsList l its.toArray:=⟨_,hk1 _ _ ho1,rfl,n,rfl⟩
 refine wpAny_bind (wpAny_pyIter_list hl1 ?_)
 refine wpAny_pure ⟨plainId_quiet Fu _,?_⟩
 have lt0:l<s.heap.objs.size:=Heap.lt_size ho
 have nD:∀ b o,s.heap.get? b=some o->b≠s.heap.objs.size:=fun b o e=>Nat.ne_of_lt (Heap.lt_size e)
 have up:∀ b o,s.heap.get? b=some o->h1.get? b=some o:=fun b o e=>hk1 _ _ (Heap.get?_push_of_some _ e)
 have nI:∀ b o,s.heap.get? b=some o->b≠h1.objs.size:=fun b o e=>Nat.ne_of_lt (Heap.lt_size (up b o e))
 obtain⟨oD,esD,epD,hoD,rD⟩:=id hnew
 have hD1:h1.DictOf (mixKind X.prog X.w) s.heap.objs.size []:=⟨oD,esD,epD,hk1 _ _ hoD,rD⟩
 have ndi:s.heap.objs.size≠h1.objs.size:=Nat.ne_of_lt (Heap.lt_size (hk1 _ _ hoD))
 refine Ak7 (knd:=mixKind X.prog X.w) (show X.A.in1.handled=none from hh) (prs:=prs) (items:=its.toArray) (l:=l) (d:=s.heap.objs.size) (it:=h1.objs.size) (h0:=h1.push { cls:=.type "list_iterator",data:=.fields #[.ref l,.int 0 0] }) (by simp;omega) ndi (nD _ _ ho) (nI _ _ ho)
  ⟨_,Heap.get?_push_of_some _ (hk1 _ _ ho1),rfl,n,rfl⟩ (fun i x e=>?_) prs.length 0 _ [] (by omega) (by omega) ?_ (hD1.push _) ⟨_,Heap.get?_push_size _ rfl,rfl,rfl⟩ (fun b o _ _ e=>e) (fun h' tk' hd' hb'=>?_)
 . obtain⟨t,e1,rfl⟩:=at_ i x e
   obtain⟨p,key,e2,⟨o,ho',r'⟩,e4⟩:=hP i t e1
   exact ⟨p,t,key,e2,rfl,nD _ _ ho',nI _ _ ho',⟨o,Heap.get?_push_of_some _ (up _ _ ho'),r'⟩,e4⟩
 . have e0:([]:List (Key × Value)).length=0:=rfl
   omega
 . refine⟨rfl,.ref s.heap.objs.size,upd H s.heap.objs.size (.dK (Fd [] kvs)),?_,rfl,q _ (I.hok.fresh (Nat.le_refl _))⟩
   have hzz:(Fd [] kvs).length<=sizeLine:=by
    have h1:=Fz kvs []
    rw [List.length_nil] at h1
    omega
   refine I.laid (a:=s.heap.objs.size) (o:=.dK (Fd [] kvs)) (t':=tk') (fun b o e=>hb' b o (nD _ _ e) (nI _ _ e) (Heap.get?_push_of_some _ (up _ _ e))) (Nat.le_refl _) (Ro hzz (beq_eq_false_iff_ne.mpr (Ne.symm (Nat.ne_of_lt I.big))) (hkv.merge .nil) ?_)
   simpa using hd'
theorem Hm:∀ (more kvs:List (Key × V)),((kvs++more).map (·.1)).Nodup->Fd kvs more=kvs++more
 | [],kvs,_=>by simp [Fd]
 | p::more,kvs,h=>by
   have hnot:(kvs.any fun kv=>decide (kv.1=p.1))=false:=by
    rw [List.any_eq_false]
    intro kv hkv hd
    have e:kv.1=p.1:=by simpa using hd
    rw [List.map_append,List.nodup_append] at h
    exact h.2.2 kv.1 (List.mem_map_of_mem hkv) p.1 (by simp) e
   have e:putK kvs p.1 p.2=kvs++[p]:=by
    unfold putK
    rw [if_neg (by rw [hnot];decide)]
   show Fd (putK kvs p.1 p.2) more=_
   rw [e,Hm more (kvs++[p]) (by simpa using h)]
   simp
end L2
namespace L2
open PySem PySem.Spec PyProof.Rows PySem.SeqAt
end L2
namespace L2
open PySem PySem.Spec PyProof.Rows PySem.SeqAt
inductive D where
 | non | bl (b:Bool) | int (i:Int) | str (x:Str) | tup (ds:List D) | lst (ds:List D)
mutual
def Rep (K:W.Frag) (H:Hp):V->D->Prop
 | v,.non=>v=.non
 | v,.bl b=>v=.bl b
 | v,.int i=>v=.int i
 | v,.str x=>v=.str x
 | v,.tup ds=>∃ a vs,v=.ref a/\SqT K H a vs/\Reps K H vs ds
 | v,.lst ds=>∃ a vs,v=.ref a/\SqL K H a vs/\Reps K H vs ds
def Reps (K:W.Frag) (H:Hp):List V->List D->Prop
 | vs,[]=>vs=[]
 | vs,d::ds=>∃ v r,vs=v::r/\Rep K H v d/\Reps K H r ds
end
mutual
def imm:D->Bool
 | .lst _=>false
 | .tup ds=>imms ds
 | _=>true
def imms:List D->Bool
 | []=>true
 | d::ds=>imm d&&imms ds
end
mutual
def dep:D->Nat
 | .lst ds=>deps ds+1
 | .tup ds=>deps ds+1
 | _=>0
def deps:List D->Nat
 | []=>0
 | d::ds=>max (dep d) (deps ds)
end
mutual
def eqD:D->D->Bool
 | .non,.non=>true
 | .bl a,.bl b=>a==b
 | .bl a,.int b=>(if a then 1 else 0)==b
 | .int a,.bl b=>a==(if b then 1 else 0)
 | .int a,.int b=>a==b
 | .str a,.str b=>a==b
 | .tup a,.tup b=>eqDs a b
 | .lst a,.lst b=>eqDs a b
 | _,_=>false
def eqDs:List D->List D->Bool
 | [],[]=>true
 | a::r,b::q=>eqD a b&&eqDs r q
 | _,_=>false
end
mutual
theorem T5 (d:D):eqD d d=true:=by
 cases d with
 | non=>rfl
 | bl b=>simp [eqD]
 | int b=>simp [eqD]
 | str b=>simp [eqD]
 | tup ds=>simp only [eqD];exact eqDs_refl ds
 | lst ds=>simp only [eqD];exact eqDs_refl ds
theorem eqDs_refl (ds:List D):eqDs ds ds=true:=by
 cases ds with
 | nil=>rfl
 | cons d r=>simp only [eqDs,Bool.and_eq_true];exact ⟨T5 d,eqDs_refl r⟩
end
theorem eqDs_len:∀{a b:List D},eqDs a b=true->a.length=b.length
 | [],[],_=>rfl
 | [],_::_,h=>by simp [eqDs] at h
 | _::_,[],h=>by simp [eqDs] at h
 | x::a,y::b,h=>by
   simp only [eqDs,Bool.and_eq_true] at h
   rw [List.length_cons,List.length_cons,eqDs_len h.2]
theorem T4:∀ (a b:List D),a.length=b.length->eqDs a b=(List.range a.length).all fun j=>match a[j]?,b[j]? with | some x,some y=>eqD x y | _,_=>true
 | [],[],_=>by simp [eqDs]
 | [],_::_,h=>by simp at h
 | _::_,[],h=>by simp at h
 | x::a,y::b,h=>by
   have h':a.length=b.length:=by simpa using h
   rw [List.length_cons,List.range_succ_eq_map,List.all_cons,List.all_map]
   simp only [eqDs,T4 a b h']
   congr 1
structure Mp (H H':Hp):Prop where
 tup:∀ b xs,H b=some (.tup xs)->H' b=some (.tup xs)
 frz:∀ b o u,H b=some (.frz o u)->H' b=some (.frz o u)
section
variable {K:W.Frag}{H H' H1 H2:Hp}{a l p:Addr}{xs:List V}{o:HO}
theorem Same.t (x:Same H H'):Mp H H':=⟨fun b xs h=>x b _ h,fun b o u h=>x b _ h⟩
theorem Mp.lst (h:H l=some (.lst xs)):Mp H (upd H l o):=⟨fun b ys e=>by rw [Ah (Fw e h (by intro z;cases z))];exact e,fun b ob u e=>by rw [Ah (Fw e h (by intro z;cases z))];exact e⟩
theorem Same.new (h:H l=none):Same H (upd H l o):=fun b u e=>by rw [Ah (Ap e h)];exact e
theorem Same.turn (x:Same H H1) (h:H l=none):Same H (upd H1 l o):=fun b u e=>by rw [Ah (Ap e h)];exact x b u e
theorem SqT.t (x:Mp H H') (h:SqT K H a xs):SqT K H' a xs:=by
 rcases h with (h|⟨o,h⟩) | h
 . exact .inl (.inl (x.tup _ _ h))
 . exact .inl (.inr ⟨o,x.frz _ _ _ h⟩)
 . exact .inr h
theorem Same.seqT (x:Same H H') (h:SqT K H a xs):SqT K H' a xs:=h.t x.t
mutual
theorem Rep.t (x:Mp H H') {v:V}{d:D} (hi:imm d=true) (h:Rep K H v d):Rep K H' v d:=by
 cases d with
 | non=>exact h
 | bl b=>exact h
 | int i=>exact h
 | str x=>exact h
 | tup ds =>
   obtain⟨a,vs,e,q,r⟩:=h
   exact ⟨a,vs,e,q.t x,Reps.t x (by simpa [imm] using hi) r⟩
 | lst ds=>simp [imm] at hi
theorem Reps.t (x:Mp H H') {vs:List V}{ds:List D} (hi:imms ds=true) (h:Reps K H vs ds):Reps K H' vs ds:=by
 cases ds with
 | nil=>exact h
 | cons d r =>
   obtain⟨v,q,e,h1,h2⟩:=h
   simp only [imms,Bool.and_eq_true] at hi
   exact ⟨v,q,e,Rep.t x hi.1 h1,Reps.t x hi.2 h2⟩
end
mutual
theorem Rep.same (x:Same H H') {v:V}{d:D} (h:Rep K H v d):Rep K H' v d:=by
 cases d with
 | non=>exact h
 | bl b=>exact h
 | int i=>exact h
 | str x=>exact h
 | tup ds =>
   obtain⟨a,vs,e,q,r⟩:=h
   exact ⟨a,vs,e,x.seqT q,Reps.same x r⟩
 | lst ds =>
   obtain⟨a,vs,e,q,r⟩:=h
   exact ⟨a,vs,e,x.seq q,Reps.same x r⟩
theorem Reps.same (x:Same H H') {vs:List V}{ds:List D} (h:Reps K H vs ds):Reps K H' vs ds:=by
 cases ds with
 | nil=>exact h
 | cons d r =>
   obtain⟨v,q,e,h1,h2⟩:=h
   exact ⟨v,q,e,Rep.same x h1,Reps.same x h2⟩
end
theorem Reps.length:∀{vs:List V}{ds:List D},Reps K H vs ds->vs.length=ds.length
 | vs,[],h=>by cases (show vs=[] from h);rfl
 | vs,d::ds,h=>by
   obtain⟨v,r,rfl,_,h2⟩:=h
   rw [List.length_cons,List.length_cons,Reps.length h2]
theorem Reps.get:∀{vs:List V}{ds:List D}{i:Nat}{d:D},Reps K H vs ds->ds[i]?=some d->∃ v,vs[i]?=some v/\Rep K H v d
 | vs,[],i,d,h,e=>by simp at e
 | vs,d0::ds,0,d,h,e=>by
   obtain⟨v,r,rfl,h1,_⟩:=h
   simp only [List.getElem?_cons_zero,Option.some.injEq] at e
   subst e
   exact ⟨v,by simp,h1⟩
 | vs,d0::ds,i+1,d,h,e=>by
   obtain⟨v,r,rfl,_,h2⟩:=h
   obtain⟨u,e1,e2⟩:=Reps.get (i:=i) h2 (by simpa using e)
   exact ⟨u,by simpa using e1,e2⟩
theorem Reps.getV:∀{vs:List V}{ds:List D}{i:Nat}{v:V},Reps K H vs ds->vs[i]?=some v->∃ d,ds[i]?=some d/\Rep K H v d:=fun {vs ds i v} h e=>by
 have hl:=h.length
 have hi:i<vs.length:=(List.getElem?_eq_some_iff.mp e).1
 obtain⟨d,hd⟩:∃ d,ds[i]?=some d:=⟨ds[i]'(by omega),by simp<;>omega⟩
 obtain⟨u,e1,e2⟩:=h.get hd
 rw [e] at e1
 cases e1
 exact ⟨d,hd,e2⟩
theorem Reps.append:∀{vs ws:List V}{ds es:List D},Reps K H vs ds->Reps K H ws es->Reps K H (vs++ws) (ds++es)
 | vs,ws,[],es,h,h'=>by cases (show vs=[] from h);exact h'
 | vs,ws,d::ds,es,h,h'=>by
   obtain⟨v,r,rfl,h1,h2⟩:=h
   exact ⟨v,r++ws,rfl,h1,Reps.append h2 h'⟩
theorem Reps.one {v:V}{d:D} (h:Rep K H v d):Reps K H [v] [d]:=⟨v,[],rfl,h,rfl⟩
theorem Reps.snoc {vs:List V}{ds:List D}{v:V}{d:D} (h:Reps K H vs ds) (h':Rep K H v d):Reps K H (vs++[v]) (ds++[d]):=h.append (.one h')
theorem Reps.take:∀{vs:List V}{ds:List D} (n:Nat),Reps K H vs ds->Reps K H (vs.take n) (ds.take n)
 | vs,ds,0,h=>by simp [Reps]
 | vs,[],n+1,h=>by cases (show vs=[] from h);simp [Reps]
 | vs,d::ds,n+1,h=>by
   obtain⟨v,r,rfl,h1,h2⟩:=h
   exact ⟨v,r.take n,rfl,h1,Reps.take n h2⟩
def nums (ns:List Int):List D:=ns.map D.int
abbrev tI (ns:List Int):D:=.tup (nums ns)
theorem Vw:∀ ns:List Int,imms (nums ns)=true
 | []=>rfl
 | n::ns=>by show (imm (.int n)&&imms (nums ns))=true;rw [Vw ns];rfl
theorem Ai5 (ns:List Int):imm (tI ns)=true:=Vw ns
theorem Ks:∀ xs:List (List Int),imms (xs.map tI)=true
 | []=>rfl
 | x::xs=>by show (imm (tI x)&&imms (xs.map tI))=true;rw [Ks xs,Ai5];rfl
theorem V0:∀ a b:List Int,eqDs (nums a) (nums b)=decide (a=b)
 | [],[]=>by simp [nums,eqDs]
 | [],_::_=>by simp [nums,eqDs]
 | _::_,[]=>by simp [nums,eqDs]
 | x::a,y::b=>by
   show (eqD (.int x) (.int y)&&eqDs (nums a) (nums b))=_
   rw [V0 a b]
   simp only [eqD]
   by_cases e:x=y
   . subst e;by_cases e2:a=b<;>simp [e2]
   . simp [e]
theorem Ay2 (a b:List Int):eqD (tI a) (tI b)=decide (a=b):=by simp only [eqD];exact V0 a b
theorem Fb:∀{vs:List V}{ns:List Int},Reps K H vs (nums ns)↔vs=ns.map V.int
 | vs,[]=>Iff.rfl
 | vs,n::ns=>by
   constructor
   . rintro ⟨v,r,rfl,h1,h2⟩
     have h1':v=.int n:=h1
     rw [h1',Fb.mp h2];rfl
   . rintro rfl
     exact ⟨.int n,ns.map V.int,rfl,rfl,Fb.mpr rfl⟩
end
section
variable {X:Cx}{Aa:List (Addr × Obj)}{σ:St}{H:Hp}{s:Shared}
theorem Af9 (I:Inv X Aa σ H s) {a:Addr}{xs ys:List V} (h:SqT X.K H a xs) (h':SqL X.K H a ys):False:=by
 obtain⟨its,r,⟨o,e,c,n,d⟩,_⟩:=I.tuple h
 obtain⟨its',r',⟨o',n',e',c',_,d'⟩,_⟩:=I.list h'
 rw [e] at e';cases e'
 rw [c] at c'
 have z:("tuple":String)="list":=by injection c'
 exact absurd z (by decide)
mutual
theorem Rep.inj (I:Inv X Aa σ H s) {v:V}{d e:D} (h:Rep X.K H v d) (h':Rep X.K H v e):d=e:=by
 cases d with
 | non=>cases (show v=.non from h);cases e<;>first | rfl | (exfalso;first | (cases (show V.non=_ from h')) | (obtain⟨_,_,z,_⟩:=h';cases z))
 | bl b=>cases (show v=.bl b from h);cases e<;>first | (cases (show V.bl b=_ from h');rfl) | (exfalso;first | (cases (show V.bl b=_ from h')) | (obtain⟨_,_,z,_⟩:=h';cases z))
 | int b=>cases (show v=.int b from h);cases e<;>first | (cases (show V.int b=_ from h');rfl) | (exfalso;first | (cases (show V.int b=_ from h')) | (obtain⟨_,_,z,_⟩:=h';cases z))
 | str b=>cases (show v=.str b from h);cases e<;>first | (cases (show V.str b=_ from h');rfl) | (exfalso;first | (cases (show V.str b=_ from h')) | (obtain⟨_,_,z,_⟩:=h';cases z))
 | tup ds =>
   obtain⟨a,vs,rfl,q,r⟩:=h
   cases e with
   | tup es =>
     obtain⟨b,ws,z,q',r'⟩:=h'
     cases z
     have e1:=I.tuple_inj q q'
     subst e1
     rw [Reps.inj I r r']
   | lst es =>
     obtain⟨b,ws,z,q',r'⟩:=h'
     cases z
     exact (Af9 I q q').elim
   | non=>cases (show V.ref a=_ from h')
   | bl _=>cases (show V.ref a=_ from h')
   | int _=>cases (show V.ref a=_ from h')
   | str _=>cases (show V.ref a=_ from h')
 | lst ds =>
   obtain⟨a,vs,rfl,q,r⟩:=h
   cases e with
   | lst es =>
     obtain⟨b,ws,z,q',r'⟩:=h'
     cases z
     have e1:=I.list_inj q q'
     subst e1
     rw [Reps.inj I r r']
   | tup es =>
     obtain⟨b,ws,z,q',r'⟩:=h'
     cases z
     exact (Af9 I q' q).elim
   | non=>cases (show V.ref a=_ from h')
   | bl _=>cases (show V.ref a=_ from h')
   | int _=>cases (show V.ref a=_ from h')
   | str _=>cases (show V.ref a=_ from h')
theorem Reps.inj (I:Inv X Aa σ H s) {vs:List V}{ds es:List D} (h:Reps X.K H vs ds) (h':Reps X.K H vs es):ds=es:=by
 cases ds with
 | nil =>
   cases (show vs=[] from h)
   cases es with
   | nil=>rfl
   | cons e es=>obtain⟨_,_,z,_⟩:=h';cases z
 | cons d ds =>
   obtain⟨v,r,rfl,h1,h2⟩:=h
   cases es with
   | nil=>cases (show v::r=[] from h')
   | cons e es =>
     obtain⟨v',r',z,h1',h2'⟩:=h'
     cases z
     rw [Rep.inj I h1 h1',Reps.inj I h2 h2']
end
def EqD (X:Cx) (H:Hp) (s:Shared) (d:D):Prop:=∀ (A:Around) (x y:V) (u v:Value) (e:D),A.units+dep d<cLine->Rep X.K H x d->Rep X.K H y e->RelV x u->RelV y v->RcAt A s u v (eqD d e)/\EqAt A s u v (eqD d e)
theorem Aw3 (I:Inv X Aa σ H s) {ds es:List D}{vs ws:List V}{us us':List Value}{A:Around} (hu:A.units+deps ds<cLine) (r:Reps X.K H vs ds) (r':Reps X.K H ws es) (rv:Vals vs us) (rv':Vals ws us')
 (ih:∀ d∈ds,EqD X H s d) (hdm:∀ d∈ds,dep d<=deps ds):∀ j (h1:j<us.toArray.size) (h2:j<us'.toArray.size),EqAt A s us.toArray[j] us'.toArray[j] (match ds[j]?,es[j]? with | some x,some y=>eqD x y | _,_=>true):=by
 intro j h1 h2
 have l1:=r.length
 have l2:=r'.length
 have l3:=rv.length
 have l4:=rv'.length
 have h1':j<us.length:=by simpa using h1
 have h2':j<us'.length:=by simpa using h2
 have e1:ds[j]?=some (ds[j]'(by omega)):=by simp<;>omega
 have e2:es[j]?=some (es[j]'(by omega)):=by simp<;>omega
 obtain⟨v,ev,rd⟩:=r.get e1
 obtain⟨w,ew,re⟩:=r'.get e2
 obtain⟨u,eu,ru⟩:=rv.get ev
 obtain⟨u',eu',ru'⟩:=rv'.get ew
 have f1:us.toArray[j]=u:=by
  have:us[j]?=some us[j]:=by simp
  rw [eu] at this
  have:=(Option.some.inj this).symm
  simpa using this
 have f2:us'.toArray[j]=u':=by
  have:us'[j]?=some us'[j]:=by simp
  rw [eu'] at this
  have:=(Option.some.inj this).symm
  simpa using this
 rw [f1,f2,e1,e2]
 have hm:ds[j]'(by omega)∈ds:=List.getElem_mem _
 exact (ih _ hm A v w u u' _ (by have:=hdm _ hm;omega) rd re ru ru').2
theorem T8:∀{ds:List D}{d:D},d∈ds->dep d<=deps ds
 | d0::ds,d,h=>by
   simp only [deps]
   rcases List.mem_cons.mp h with rfl | h
   . omega
   . have:=T8 h;omega
theorem U1 {a b:List D} (h:¬a.length=b.length):eqDs a b=false:=by
 cases q:eqDs a b with
 | false=>rfl
 | true=>exact absurd (eqDs_len q) h
mutual
theorem Ay3 (I:Inv X Aa σ H s) (d:D):EqD X H s d:=by
 intro A x y u v e hu hx hy rx ry
 cases d with
 | non =>
   cases (show x=.non from hx)
   cases (show u=Value.none from rx)
   cases e with
   | non=>cases (show y=.non from hy);cases (show v=Value.none from ry);exact ⟨.none_none,.same _⟩
   | bl b=>cases (show y=.bl b from hy);cases (show v=Value.bool b from ry);exact ⟨.none_bool b,.none_bool b⟩
   | int i=>cases (show y=.int i from hy);obtain⟨t,rfl⟩:=ry;exact ⟨.none_int i t,.none_int i t⟩
   | str z=>cases (show y=.str z from hy);obtain⟨t,rfl⟩:=ry;exact ⟨.none_str z t,.none_str z t⟩
   | tup es=>obtain⟨a,vs,rfl,q,r⟩:=hy;cases ry;obtain⟨its,_,p,_⟩:=I.tuple q;exact ⟨.none_tuple p (by omega),.none_tuple p (by omega)⟩
   | lst es=>obtain⟨a,vs,rfl,q,r⟩:=hy;cases ry;obtain⟨its,_,p,_⟩:=I.list q;exact ⟨.none_list p.isList (by omega),.none_list p.isList (by omega)⟩
 | bl c =>
   cases (show x=.bl c from hx)
   cases (show u=Value.bool c from rx)
   cases e with
   | non=>cases (show y=.non from hy);cases (show v=Value.none from ry);exact ⟨.bool_none c,.bool_none c⟩
   | bl b=>cases (show y=.bl b from hy);cases (show v=Value.bool b from ry);exact ⟨.bool_bool c b,.bool_bool c b⟩
   | int i=>cases (show y=.int i from hy);obtain⟨t,rfl⟩:=ry;exact ⟨.bool_int c i t,.bool_int c i t⟩
   | str z=>cases (show y=.str z from hy);obtain⟨t,rfl⟩:=ry;exact ⟨.bool_str c z t,.bool_str c z t⟩
   | tup es=>obtain⟨a,vs,rfl,q,r⟩:=hy;cases ry;obtain⟨its,_,p,_⟩:=I.tuple q;exact ⟨.bool_tuple c p (by omega),.bool_tuple c p (by omega)⟩
   | lst es=>obtain⟨a,vs,rfl,q,r⟩:=hy;cases ry;obtain⟨its,_,p,_⟩:=I.list q;exact ⟨.bool_list c p.isList (by omega),.bool_list c p.isList (by omega)⟩
 | int c =>
   cases (show x=.int c from hx)
   obtain⟨t,rfl⟩:=rx
   cases e with
   | non=>cases (show y=.non from hy);cases (show v=Value.none from ry);exact ⟨.int_none c t,.int_none c t⟩
   | bl b=>cases (show y=.bl b from hy);cases (show v=Value.bool b from ry);exact ⟨.int_bool c t b,.int_bool c t b⟩
   | int i=>cases (show y=.int i from hy);obtain⟨t',rfl⟩:=ry;exact ⟨.int_int c t i t',.int_int c t i t'⟩
   | str z=>cases (show y=.str z from hy);obtain⟨t',rfl⟩:=ry;exact ⟨.int_str c t z t',.int_str c t z t'⟩
   | tup es=>obtain⟨a,vs,rfl,q,r⟩:=hy;cases ry;obtain⟨its,_,p,_⟩:=I.tuple q;exact ⟨.int_tuple c t p (by omega),.int_tuple c t p (by omega)⟩
   | lst es=>obtain⟨a,vs,rfl,q,r⟩:=hy;cases ry;obtain⟨its,_,p,_⟩:=I.list q;exact ⟨.int_list c t p.isList (by omega),.int_list c t p.isList (by omega)⟩
 | str c =>
   cases (show x=.str c from hx)
   obtain⟨t,rfl⟩:=rx
   cases e with
   | non=>cases (show y=.non from hy);cases (show v=Value.none from ry);exact ⟨.str_none c t,.str_none c t⟩
   | bl b=>cases (show y=.bl b from hy);cases (show v=Value.bool b from ry);exact ⟨.str_bool c t b,.str_bool c t b⟩
   | int i=>cases (show y=.int i from hy);obtain⟨t',rfl⟩:=ry;exact ⟨.str_int c t i t',.str_int c t i t'⟩
   | str z=>cases (show y=.str z from hy);obtain⟨t',rfl⟩:=ry;exact ⟨.str_str c t z t',.str_str c t z t'⟩
   | tup es=>obtain⟨a,vs,rfl,q,r⟩:=hy;cases ry;obtain⟨its,_,p,_⟩:=I.tuple q;exact ⟨.str_tuple c t p (by omega),.str_tuple c t p (by omega)⟩
   | lst es=>obtain⟨a,vs,rfl,q,r⟩:=hy;cases ry;obtain⟨its,_,p,_⟩:=I.list q;exact ⟨.str_list c t p.isList (by omega),.str_list c t p.isList (by omega)⟩
 | tup ds =>
   have hx':=hx
   obtain⟨a,vs,rfl,q,r⟩:=hx
   cases rx
   obtain⟨its,rv,p,_⟩:=I.tuple q
   have hu':A.units+1+deps ds<cLine:=by simp only [dep] at hu;omega
   cases e with
   | non=>cases (show y=.non from hy);cases (show v=Value.none from ry);exact ⟨.tuple_none p (by omega),.tuple_none p (by omega)⟩
   | bl b=>cases (show y=.bl b from hy);cases (show v=Value.bool b from ry);exact ⟨.tuple_bool b p (by omega),.tuple_bool b p (by omega)⟩
   | int i=>cases (show y=.int i from hy);obtain⟨t',rfl⟩:=ry;exact ⟨.tuple_int i t' p (by omega),.tuple_int i t' p (by omega)⟩
   | str z=>cases (show y=.str z from hy);obtain⟨t',rfl⟩:=ry;exact ⟨.tuple_str z t' p (by omega),.tuple_str z t' p (by omega)⟩
   | lst es=>obtain⟨b,ws,rfl,q',r'⟩:=hy;cases ry;obtain⟨its',_,p',_⟩:=I.list q';exact ⟨.tuple_list p p'.isList (by omega),.tuple_list p p'.isList (by omega)⟩
   | tup es =>
     have hy':=hy
     obtain⟨b,ws,rfl,q',r'⟩:=hy
     cases ry
     obtain⟨its',rv',p',_⟩:=I.tuple q'
     have main:RcAt A s (.ref a) (.ref b) (eqD (.tup ds) (.tup es)):=by
      have:=RcAt.tuples (A:=A) p p' (by omega) (Aw3 I (A:=A.in1) (by show A.units+1+deps ds<cLine;omega) r r' rv rv' (eqDs_ok I ds) fun d h=>T8 h)
      have l1:=r.length
      have l2:=r'.length
      have l3:=rv.length
      have l4:=rv'.length
      have e1:its.toArray.size=ds.length:=by simp<;>omega
      have e2:its'.toArray.size=es.length:=by simp<;>omega
      rw [e1,e2] at this
      simp only [eqD]
      by_cases hl:ds.length=es.length
      . rw [T4 ds es hl]
        rw [←hl,Nat.min_self] at this
        simpa using this
      . rw [U1 hl]
        have z:(ds.length==es.length)=false:=by simpa using hl
        rw [z,Bool.and_false] at this
        exact this
     refine⟨main,?_⟩
     by_cases hab:a=b
     . subst hab
       have e3:D.tup ds=D.tup es:=Rep.inj I hx' hy'
       rw [e3,T5]
       exact .same _
     . exact .of_refs hab main
 | lst ds =>
   have hx':=hx
   obtain⟨a,vs,rfl,q,r⟩:=hx
   cases rx
   obtain⟨its,rv,p,_⟩:=I.list q
   have hu':A.units+1+deps ds<cLine:=by simp only [dep] at hu;omega
   cases e with
   | non=>cases (show y=.non from hy);cases (show v=Value.none from ry);exact ⟨.list_none p.isList (by omega),.list_none p.isList (by omega)⟩
   | bl b=>cases (show y=.bl b from hy);cases (show v=Value.bool b from ry);exact ⟨.list_bool b p.isList (by omega),.list_bool b p.isList (by omega)⟩
   | int i=>cases (show y=.int i from hy);obtain⟨t',rfl⟩:=ry;exact ⟨.list_int i t' p.isList (by omega),.list_int i t' p.isList (by omega)⟩
   | str z=>cases (show y=.str z from hy);obtain⟨t',rfl⟩:=ry;exact ⟨.list_str z t' p.isList (by omega),.list_str z t' p.isList (by omega)⟩
   | tup es=>obtain⟨b,ws,rfl,q',r'⟩:=hy;cases ry;obtain⟨its',_,p',_⟩:=I.tuple q';exact ⟨.list_tuple p.isList p' (by omega),.list_tuple p.isList p' (by omega)⟩
   | lst es =>
     have hy':=hy
     obtain⟨b,ws,rfl,q',r'⟩:=hy
     cases ry
     obtain⟨its',rv',p',_⟩:=I.list q'
     have main:RcAt A s (.ref a) (.ref b) (eqD (.lst ds) (.lst es)):=by
      have l1:=r.length
      have l2:=r'.length
      have l3:=rv.length
      have l4:=rv'.length
      have e1:its.toArray.size=ds.length:=by simp<;>omega
      have e2:its'.toArray.size=es.length:=by simp<;>omega
      simp only [eqD]
      by_cases hl:ds.length=es.length
      . have:=RcAt.lists (A:=A) p.isList p'.isList (by omega) (by omega) (Aw3 I (A:=A.in1) (by show A.units+1+deps ds<cLine;omega) r r' rv rv' (eqDs_ok I ds) fun d h=>T8 h)
        rw [e1] at this
        rw [T4 ds es hl]
        exact this
      . rw [U1 hl]
        exact RcAt.lists_lengths p.isList p'.isList (by simpa [e1,e2] using hl) (by omega)
     refine⟨main,?_⟩
     by_cases hab:a=b
     . subst hab
       have e3:D.lst ds=D.lst es:=Rep.inj I hx' hy'
       rw [e3,T5]
       exact .same _
     . exact .of_refs hab main
theorem eqDs_ok (I:Inv X Aa σ H s) (ds:List D):∀ d∈ds,EqD X H s d:=by
 cases ds with
 | nil=>exact fun _ h=>nomatch h
 | cons d0 r =>
   intro d h
   rcases List.mem_cons.mp h with e | h
   . exact e▸Ay3 I d0
   . exact eqDs_ok I r d h
end
end
end L2
namespace L2
open PySem PySem.Spec PyProof.Rows PySem.SeqAt
section
variable {X:Cx}
def eqF (X:Cx) (H:Hp) (d:D) (u:Value):Bool:=@decide (∃ v e,RelV v u/\Rep X.K H v e/\eqD e d=true) (Classical.propDecidable _)
theorem Ak0 {Aa:List (Addr × Obj)}{σ:St}{H:Hp}{s:Shared} (I:Inv X Aa σ H s) {d e:D}{v:V}{u:Value} (r:RelV v u) (h:Rep X.K H v e):eqF X H d u=eqD e d:=by
 cases q:eqD e d with
 | true=>exact @decide_eq_true _ (Classical.propDecidable _) ⟨v,e,r,h,q⟩
 | false =>
   refine @decide_eq_false _ (Classical.propDecidable _) ?_
   rintro ⟨v',e',r',h',q'⟩
   have:=r.inj r'
   subst this
   rw [Rep.inj I h h'] at q
   rw [q] at q'
   cases q'
theorem Ak1 {Aa:List (Addr × Obj)}{σ:St}{H:Hp}{s:Shared} (I:Inv X Aa σ H s) {A:Around}{x:V}{v:Value}{d:D}{vs:List V}{us:List Value}{ds:List D} (hu:A.units+deps ds<cLine) (hx:Rep X.K H x d) (rx:RelV x v)
 (r:Reps X.K H vs ds) (rv:Vals vs us):∀ y,y∈us.toArray->EqAt A s y v (eqF X H d y):=by
 intro y hy
 have hy':y∈us:=by simpa using hy
 obtain⟨i,hi⟩:=List.getElem?_of_mem hy'
 have hlt:i<us.length:=(List.getElem?_eq_some_iff.mp hi).1
 have l1:=rv.length
 obtain⟨w,hw⟩:∃ w,vs[i]?=some w:=⟨vs[i]'(by omega),by simp<;>omega⟩
 obtain⟨u,hu2,ru⟩:=rv.get hw
 rw [hi] at hu2
 cases hu2
 obtain⟨e,he,re⟩:=r.getV hw
 rw [Ak0 I ru re]
 have hm:e∈ds:=List.mem_of_getElem? he
 exact (Ay3 I e A w x y v d (by have:=T8 hm;omega) re hx ru rx).2
theorem Ao3 {Aa:List (Addr × Obj)}{σ:St}{H:Hp}{s:Shared} (I:Inv X Aa σ H s) {d:D}:∀{vs:List V}{us:List Value}{ds:List D},Reps X.K H vs ds->Vals vs us->us.any (eqF X H d)=ds.any fun e=>eqD e d
 | vs,us,[],r,rv=>by
   cases (show vs=[] from r)
   cases rv
   rfl
 | vs,us,e::ds,r,rv=>by
   obtain⟨v,q,rfl,h1,h2⟩:=r
   cases rv with
   | cons r1 r2=>rw [List.any_cons,List.any_cons,Ak0 I r1 h1,Ao3 I h2 r2]
def SeqD (K:W.Frag) (H:Hp) (y:V) (ds:List D):Prop:=Rep K H y (.lst ds)\/Rep K H y (.tup ds)
def rInD (K:W.Frag) (n:Nat) (neg:Bool):R2:=fun x y H Q=>∃ d ds,Rep K H x d/\SeqD K H y ds/\deps ds+1<=n/\Q (.bl (if neg then !(ds.any fun e=>eqD e d) else ds.any fun e=>eqD e d)) H
theorem Ad7 {n:Nat} (hu:X.A.units+n<cLine):OpR X (compareOp .NotIn) (rInD X.K n true):=by
 intro Aa s σ H x y v u Q I rx ry h
 obtain⟨d,ds,hx,hs,hn,q⟩:=h
 have fin:∀{us:List Value}{vs:List V},Reps X.K H vs ds->Vals vs us->EP X Aa σ Q (.bool (!us.toArray.any (eqF X H d))) s:=fun r rv =>
  ⟨.bl (!(ds.any fun e=>eqD e d)),H,I,by show Value.bool _=Value.bool _;rw [List.any_toArray,Ao3 I r rv],q⟩
 rcases hs with ⟨a,vs,rfl,hq,r⟩|⟨a,vs,rfl,hq,r⟩
 . cases ry
   obtain⟨its,rv,p,_⟩:=I.list hq
   exact notIn_listAt (eqF X H d) p.isList (Ak1 I (A:=X.A.in1) (by show X.A.units+1+deps ds<cLine;omega) hx rx r rv) (fin r rv)
 . cases ry
   obtain⟨its,rv,p,_⟩:=I.tuple hq
   exact notIn_tupleAt (eqF X H d) p (Ak1 I (A:=X.A.in1) (by show X.A.units+1+deps ds<cLine;omega) hx rx r rv) (fin r rv)
def Aw4 (K:W.Frag) (n:Nat):V->List V->Hp->VK->Prop:=fun x vs H Q=>∃ ds y d j,vs=[y]/\Rep K H x (.lst ds)/\Rep K H y d/\deps ds+1<=n/\ds.findIdx? (fun e=>eqD e d)=some j/\Q (.int (j:Nat)) H
theorem At4 {n:Nat} (hu:X.A.units+n<cLine):MtR X "list.index" (Aw4 X.K n):=by
 intro Aa s σ H x vs v us Q I rx rv h
 obtain⟨ds,y,d,j,rfl,⟨a,ws,rfl,hq,r⟩,hy,hn,hj,q⟩:=h
 cases rx
 obtain⟨u,rfl,ru⟩:=rv.one
 obtain⟨its,rw',p,hz⟩:=I.list hq
 have l1:=r.length
 have l2:=rw'.length
 obtain⟨hlt,hit,hno⟩:=List.findIdx?_eq_some_iff_getElem.mp hj
 have at':∀ m (hm:m<its.toArray.size) (hm':m<ds.length),eqF X H d its.toArray[m]=eqD ds[m] d:=fun m hm hm'=>by
  obtain⟨w,hw,re⟩:=r.get (i:=m) (d:=ds[m]) (by simp)
  obtain⟨u',hu',ru'⟩:=rw'.get hw
  have e1:its.toArray[m]=u':=by
   have hm2:m<its.length:=by simpa using hm
   have:its[m]?=some its[m]:=by simp
   rw [hu'] at this
   have:=(Option.some.inj this).symm
   simpa using this
  rw [e1]
  exact Ak0 I ru' re
 obtain⟨o,k,ho,hc,hdn,hd⟩:=id p
 obtain⟨cls,dd,data,sl⟩:=o
 simp only at hc hdn hd
 subst hc hdn hd
 have hsz:ds.length<=sizeLine:=by omega
 have big:(sizeLine:Nat)<2 ^ 62:=by rw [sizeLine_eq];decide
 refine call_meets PySem.F.slot_list_index ⟨_,ho,rfl⟩ PySem.F.entry_list_index (PySem.F.args_list_index_2 _ _)
  (list_indexAt a its.toArray k none sl u (eqF X H d) j (by simp<;>omega) (by omega) ?_ ?_) ⟨ho,Ak1 I (A:=X.A.in1) (by show X.A.units+1+deps ds<cLine;omega) hy ru r rw',?_⟩
 . rw [at' j (by simp<;>omega) hlt];exact hit
 . intro m hm hmj
   rw [at' m hm (by omega)]
   have:=hno m hmj
   simpa using this
 . exact ⟨.int (j:Nat),H,I.tok _,⟨_,rfl⟩,q⟩
def isD (n:String):D->Bool
 | .non=>false
 | .bl _=>n=="int" || n=="bool"
 | .int _=>n=="int"
 | .str _=>n=="str"
 | .tup _=>n=="tuple"
 | .lst _=>n=="list"
def tyD:D->String
 | .non=>"NoneType"
 | .bl _=>"bool"
 | .int _=>"int"
 | .str _=>"str"
 | .tup _=>"tuple"
 | .lst _=>"list"
theorem Ax9 {K:W.Frag}{n:String}{d:D} (hn:n="int"\/n="bool"\/n="str"\/n="tuple"\/n="list"\/n="dict"):PySem.W.kitOne K (.type (tyD d)) (.type n)=some (isD n d):=by
 rcases hn with rfl | rfl | rfl | rfl | rfl | rfl<;>cases d<;>(unfold PySem.W.kitOne PySem.W.kitCls PySem.W.subIn tyD isD;first | rfl | decide +kernel)
theorem Ka:F9 X (.builtin "isinstance") (fun xs H Q=>∃ x n d,xs=[x,.ty n]/\(n="int"\/n="bool"\/n="str"\/n="tuple"\/n="list"\/n="dict")/\Rep X.K H x d/\Q (.bl (isD n d)) H):=by
 intro Aa s σ H xs us Q I r h
 obtain⟨x,n,d,rfl,hn,hx,q⟩:=h
 obtain⟨u,v,rfl,rx,rt⟩:=Ap6 r
 cases rt
 have k:=Ax9 (K:=X.K) (d:=d) hn
 have fin:∀ tk,EP X Aa σ Q (.bool (isD n d)) { s with toks:=tk }:=fun tk=>⟨.bl (isD n d),H,I.tok tk,rfl,q⟩
 cases d with
 | non=>cases (show x=.non from hx);cases (show u=Value.none from rx);exact PySem.W.kia_one PySem.W.kitx_none I.kIn True.intro k (fun z=>nomatch z) fin
 | bl b=>cases (show x=.bl b from hx);cases (show u=Value.bool b from rx);exact PySem.W.kia_one PySem.W.kitx_bool I.kIn True.intro k (fun z=>nomatch z) fin
 | int b=>cases (show x=.int b from hx);obtain⟨t,rfl⟩:=rx;exact PySem.W.kia_one PySem.W.kitx_int I.kIn True.intro k (fun z=>nomatch z) fin
 | str b=>cases (show x=.str b from hx);obtain⟨t,rfl⟩:=rx;exact PySem.W.kia_one PySem.W.kitx_str I.kIn True.intro k (fun z=>nomatch z) fin
 | tup ds =>
   obtain⟨a,vs,rfl,hq,_⟩:=hx
   cases rx
   obtain⟨its,_,⟨o,e,c,_⟩,_⟩:=I.tuple hq
   exact PySem.W.kia_one PySem.W.kitx_tuple I.kIn ⟨o,e,c⟩ k (fun z=>nomatch z) fin
 | lst ds =>
   obtain⟨a,vs,rfl,hq,_⟩:=hx
   cases rx
   obtain⟨its,_,⟨o,_,e,c,_⟩,_⟩:=I.list hq
   exact PySem.W.kia_one PySem.W.kitx_list I.kIn ⟨o,e,c⟩ k (fun z=>nomatch z) fin
def A80 (K:W.Frag):R2:=fun x y H Q=>∃ a b xs ys,x=.ref a/\y=.ref b/\SqT K H a xs/\SqT K H b ys/\xs.length+ys.length<=sizeLine/\∀ p H',Same H H'->SqT K H' p (xs++ys)->Q (.ref p) H'
theorem A18:OpR X (binaryOp .Add) (A80 X.K):=by
 intro Aa s σ H x y v u Q I rx ry h
 obtain⟨a,b,xs,ys,rfl,rfl,ha,hb,hz,q⟩:=h
 by_cases hx:xs=[]
 . subst hx
   cases rx
   cases ry
   obtain⟨its,r1,p1,_⟩:=I.tuple ha
   obtain⟨its2,r2,p2,_⟩:=I.tuple hb
   cases r1
   obtain⟨⟨cls,dd,data,sl⟩,ho,hc,n,hd⟩:=id p1
   obtain⟨⟨cls2,dd2,data2,sl2⟩,ho2,hc2,n2,hd2⟩:=id p2
   simp only at hc hd hc2 hd2
   subst hc hd hc2 hd2
   exact concat_meets ⟨_,ho,rfl⟩ ⟨_,ho2,rfl⟩ noFill_tuple_add seq_tuple_add PySem.F.slot_tuple_add PySem.F.entry_tuple_add (PySem.F.args_tuple_add_2 _ _)
    (tuple_addW0 a b _ _ n n2 dd dd2 sl sl2 (by simp)) ⟨ho,ho2,⟨.ref b,H,I,rfl,q b H (Same.refl H) (by simpa using hb)⟩⟩
 . refine A19 Aa s σ H (.ref a) (.ref b) v u Q I rx ry ⟨a,b,xs,ys,rfl,rfl,ha,hb,hx,hz,fun e=>?_,fun e p hp=>?_⟩
   . subst e;exact q a H (Same.refl H) (by simpa using ha)
   . exact q p _ (Same.new hp) (.of Ad)
def A78 (K:W.Frag):V->Option Int->Option Int->Hp->VK->Prop:=fun x lo hi H Q=>∃ a xs,x=.ref a/\SqT K H a xs ∧
 ¬(HT.sIx xs.length 0 lo=0/\HT.sIx xs.length xs.length hi=xs.length)/\∀ p H',Same H H'->SqT K H' p (cutV xs lo hi)->Q (.ref p) H'
theorem Az3:SlR X (A78 X.K):=by
 intro Aa s σ H x v vl vu lo hi sl Q I rx hs pl pu h
 obtain⟨a,xs,rfl,hx,hw,q⟩:=h
 exact A73 Aa s σ H (.ref a) v vl vu lo hi sl Q I rx hs pl pu ⟨a,xs,rfl,hx,hw,fun p hp=>q p _ (Same.new hp) (.of Ad)⟩
def Aw5 (K:W.Frag):R2:=fun x y H Q=>∃ l b xs zs,x=.ref l/\y=.ref b/\SqL K H l xs/\SqL K H b zs/\xs.length+zs.length<=sizeLine/\∀ p,H p=none->Q (.ref p) (upd H p (.lst (xs++zs)))
theorem As4:OpR X (binaryOp .Add) (Aw5 X.K):=by
 intro Aa s σ H x y v u Q I rx ry h
 obtain⟨l,b,xs,zs,rfl,rfl,hl,hb,hz,q⟩:=h
 cases rx
 cases ry
 obtain⟨its,r1,p1,_⟩:=I.list hl
 obtain⟨its2,r2,p2,_⟩:=I.list hb
 obtain⟨⟨cls,dd,data,sl⟩,n,ho,hc,hdd,hd⟩:=id p1
 obtain⟨⟨cls2,dd2,data2,sl2⟩,n2,ho2,hc2,hdd2,hd2⟩:=id p2
 simp only at hc hd hc2 hd2
 subst hc hd hc2 hd2
 refine concat_meets ⟨_,ho,rfl⟩ ⟨_,ho2,rfl⟩ noFill_list_add seq_list_add PySem.F.slot_list_add PySem.F.entry_list_add (PySem.F.args_list_add_2 _ _)
  (list_addW l b its.toArray its2.toArray n n2 dd dd2 sl sl2 (by rw [List.size_toArray,List.size_toArray,←r1.length,←r2.length];exact hz)) ⟨ho,ho2,?_⟩
 rw [show its.toArray++its2.toArray=(its++its2).toArray by simp]
 exact ⟨.ref s.heap.objs.size,_,I.lnew (t':=s.toks) (r1.append r2) (by rw [List.length_append];exact hz),rfl,q _ I.fresh⟩
theorem An7 (hc:X.calm=true):F9 X (.builtin "all") (fun xs H Q=>∃ (p:Addr) (bs:List Bool),xs=[.ref p]/\SqL X.K H p (bs.map V.bl)/\Q (.bl (bs.all id)) H):=by
 intro Aa s σ H xs us Q I r h
 obtain⟨p,bs,rfl,hq,q⟩:=h
 obtain⟨u,rfl,ru⟩:=Um r
 cases ru
 obtain⟨its,rv,pl,hz⟩:=I.list hq
 have hh:X.A.handled=none:=I.ok.hd hc
 have rel:∀ (i:Nat) (v:Value),its.toArray[i]?=some v->∃ b,bs[i]?=some b/\v=.bool b:=fun i v e=>by
  have e':its[i]?=some v:=by simpa using e
  have hlt:i<its.length:=(List.getElem?_eq_some_iff.mp e').1
  have l1:=rv.length
  rw [List.length_map] at l1
  have hb:bs[i]?=some (bs[i]'(by omega)):=by simp<;>omega
  obtain⟨u,hu,ru⟩:=rv.get (i:=i) (x:=V.bl (bs[i]'(by omega))) (by rw [List.getElem?_map,hb];rfl)
  rw [e'] at hu
  cases hu
  exact ⟨_,hb,ru⟩
 refine call_all_walk (wpAny_pyIter_list pl.isList ?_)
 refine⟨s.heap.objs.size,[s.heap.objs.size,p],[s.heap.objs.size],its.toArray.size,_,_,fun i=>(bs[i]?).getD true,rfl,Walks.list (show X.A.in1.handled=none from hh) s.heap.objs.size p ?_ its.toArray,⟨⟨_,Heap.get?_push_size _ rfl,rfl,rfl⟩,?_⟩,?_,fun h' tk k=>?_⟩
 . obtain⟨o,_,ho,_⟩:=pl
   exact Nat.ne_of_lt (Heap.lt_size ho)
 . exact pl.isList.at fun o e=>Heap.get?_push_of_some _ e
 . intro i v s' Q' E' hv hQ
   obtain⟨b,hb,rfl⟩:=rel i v hv
   dsimp only at hQ
   rw [hb] at hQ
   exact wpAny_truthy_bool hQ
 . have e:(List.range its.toArray.size).all (fun i=>(bs[i]?).getD true)=bs.all id:=by
    have l1:=rv.length
    rw [List.length_map] at l1
    rw [List.size_toArray,←l1]
    rw [Bool.eq_iff_iff,List.all_eq_true,List.all_eq_true]
    constructor
    . intro hx b hb
      obtain⟨i,hi⟩:=List.getElem?_of_mem hb
      have:=hx i (List.mem_range.mpr (List.getElem?_eq_some_iff.mp hi).1)
      rw [hi] at this
      exact this
    . intro hx i hi
      have hlt:=List.mem_range.mp hi
      have hb:bs[i]?=some bs[i]:=by simp
      rw [hb]
      exact hx _ (List.getElem_mem _)
   rw [e]
   have I1:Inv X Aa σ H { s with heap:=h',toks:=tk }:=I.kept (fun b o e=>k b o (by simp;exact Nat.ne_of_lt (Heap.lt_size e)) (Heap.get?_push_of_some _ e))
   exact ⟨.bl (bs.all id),H,I1,rfl,q⟩
end
structure Has (P:Program) (w:World) (K:W.Frag) (mg:Str->Option Value) (base:Heap) (x:Str) (ps:List Str) (k:Nat) (sp:Sp):Prop where
 ex:∃ (f:Addr) (fd:FuncData),mg x=some (.ref f)/\PySem.W.keepIn K (.ref f)=true/\Kd K fd ps []/\FnOk P w K mg base CX0 k f fd ps sp
section
variable {X:Cx}{x:Str}{ps:List Str}{j k:Nat}{sp:Sp}{p pos:Pos}{e:Expr}{es:List Expr}{t:TA}
theorem Am (h:Has X.prog X.w X.K X.mg X.base x ps j sp) (hr:Room k X.A) (hg:Gl X x) (ha:PA X (e::es) t) (hk:j<=k:=by decide) (hdb:(x==("__debug__":Str))=false:=by decide)
 (he:starEach (e::es) X.env=(false,eval e X.env)::starEach es X.env:=by rfl) (hpl:(backTo pos (starEach es X.env)).any (·.1)=false:=by rfl):PE X (.Call (.Name x p) (e::es) [] pos) (tCall sp [] E0 t):=by
 obtain⟨f,fd,h1,h2,h3,h4⟩:=h.ex
 exact A16 h4 (hr.mono hk) hg h1 h2 h3 .nil As1 ha hdb he hpl
end
theorem boot_intT:bootBuiltins "int"=some (.type "int"):=by decide +kernel
theorem R4:bootBuiltins "bool"=some (.type "bool"):=by decide +kernel
theorem Dg:bootBuiltins "tuple"=some (.type "tuple"):=by decide +kernel
theorem x6:bootBuiltins "list"=some (.type "list"):=by decide +kernel
theorem Mj:bootBuiltins "dict"=some (.type "dict"):=by decide +kernel
theorem Id:bootBuiltins "max"=some (.builtin "max"):=by decide +kernel
theorem Wn:bootBuiltins "all"=some (.builtin "all"):=by decide +kernel
theorem Bn:bootBuiltins "isinstance"=some (.builtin "isinstance"):=by decide +kernel
end L2
namespace L2
open PySem PySem.Spec PyProof.Rows
section
variable {X:Cx}{K:W.Frag}{tg l:Expr}{tl:TE}{n:Nat}
theorem Kr (hK:X.K=K:=by rfl):OpR X (binaryOp .Add) (A80 K):=by subst hK;exact A18
theorem Ou (hK:X.K=K:=by rfl):OpR X (binaryOp .Add) (Aw5 K):=by subst hK;exact As4
theorem F1 (hK:X.K=K:=by rfl):SlR X (A78 K):=by subst hK;exact Az3
theorem To (hK:X.K=K:=by rfl):SlR X (rSlL K):=by subst hK;exact Az5
theorem A3 (hK:X.K=K:=by rfl):IxR X (rIxL K):=by subst hK;exact A38
theorem A7 (hK:X.K=K:=by rfl):IxR X (rIxT K):=by subst hK;exact Bb9
theorem Ak (hK:X.K=K:=by rfl):F9 X (.builtin "len") (fun xs H Q=>∃ p ys,xs=[.ref p]/\(SqL K H p ys\/SqT K H p ys)/\Q (.int ys.length) H):=by subst hK;exact Wl
theorem Tp (hK:X.K=K:=by rfl):F9 X (.type "list") (fun xs H Q=>∃ p ys,xs=[.ref p]/\(SqL K H p ys\/SqT K H p ys)/\∀ l,H l=none->Q (.ref l) (upd H l (.lst ys))):=by subst hK;exact Wk
theorem Dk (hK:X.K=K:=by rfl):F9 X (.type "tuple") (fun xs H Q=>∃ p ys,xs=[.ref p]/\((SqL K H p ys/\∀ l,H l=none->Q (.ref l) (upd H l (.tup ys)))\/(SqT K H p ys/\Q (.ref p) H))):=by subst hK;exact Uf
theorem Es (hK:X.K=K:=by rfl):F9 X (.builtin "isinstance") (fun xs H Q=>∃ x n d,xs=[x,.ty n]/\(n="int"\/n="bool"\/n="str"\/n="tuple"\/n="list"\/n="dict")/\Rep K H x d/\Q (.bl (isD n d)) H):=by subst hK;exact Ka
theorem Rn (hc:X.calm=true) (hK:X.K=K:=by rfl):F9 X (.builtin "all") (fun xs H Q=>∃ (p:Addr) (bs:List Bool),xs=[.ref p]/\SqL K H p (bs.map V.bl)/\Q (.bl (bs.all id)) H):=by subst hK;exact An7 hc
theorem Fe (hu:X.A.units+n<cLine) (hK:X.K=K:=by rfl):OpR X (compareOp .NotIn) (rInD K n true):=by subst hK;exact Ad7 hu
theorem Ah1 (hu:X.A.units+n<cLine) (hK:X.K=K:=by rfl):MtR X "list.index" (Aw4 K n):=by subst hK;exact At4 hu
theorem Bo (hl:PE X l tl) (hK:X.K=K:=by rfl):PI X tg l (Bc2 K tl):=by subst hK;exact A11 hl
theorem Lz (hl:PE X l tl) (hK:X.K=K:=by rfl):PI X tg l (iTup K tl):=by subst hK;exact A86 hl
variable {o e:Expr}{es:List Expr}{to:TE}{t:TA}{name:Str}{apos cpos:Pos}{T id:String}{r:V->List V->Hp->VK->Prop}
theorem Gj (pa:PlainAttrs T) (slot:Slot T name id) (hty:typeOf (.builtin id)=pure (.type "method_descriptor")) (hm:MtR X id r) (ho:PE X o to) (ha:PA X (e::es) t) (hK:X.K=K:=by rfl)
 (hbase:attributeBase o name X.env (eval o X.env)=eval o X.env:=by rfl)
 (hfew:((backTo cpos (starEach (e::es) X.env)).all (fun x=>!x.1)&&(backToKw cpos (keywordEach [] X.env)).all (fun x=>x.1.isSome)
   && decide ((e::es).length+([]:List Keyword).length+(if ([]:List Keyword).isEmpty then 0 else 1)<30))=true:=by rfl)
 (hline:(apos.endLine==cpos.line)=true:=by rfl) (hs:starEach (e::es) X.env=(false,eval e X.env)::starEach es X.env:=by rfl) (hplain:(backTo cpos (starEach es X.env)).any (·.1)=false:=by rfl) :
 PE X (.Call (.Attribute o name apos) (e::es) [] cpos) (tBM K T r to t):=by subst hK;exact Be9 pa slot hty hm ho ha hbase hfew hline hs hplain
theorem Hn {es:List Expr}{k:Nat}{t:TGs}{n:Nat}{pos:Pos} (hc:X.calm=true) (h:PGs X es t) (hK:X.K=K:=by rfl)
 (hn:(assignEach es X.env).length=n:=by rfl) (hst:(assignEach es X.env).findIdx? (·.1)=none:=by rfl):PG X (.Tuple es k pos) (gTup K n t):=by subst hK;exact A87 hc h hn hst
end
end L2
namespace L2
open PySem PySem.Spec PyProof.Rows
end L2
namespace L2
open PySem PySem.Spec PyProof.Rows
section
variable {fs:List Addr}{H H':Hp}{h B h' h2:Heap}
end
abbrev XJ:=Value->Option Addr->St->Hp->Prop
section
variable {X:Cx}{Aa:List (Addr × Obj)}{σ:St}{H H':Hp}{s s':Shared}{e:Addr}{cls a0:Value}{dx:Option Addr}
end
section
variable {P:Program}{w:World}{K:W.Frag}{mg:Str->Option Value}{base:Heap}{N:List Str}{qual:Str}{scope:Scope}{f:Addr}{cd:Value}{A:Around}{outer:List Env}{s:Shared}{H:Hp}{E:XK}
end
section
variable {X:Cx}{J:XJ}{x:Str}{ps:List Str}{j k:Nat}{sp:Sp}{p pos:Pos}{e:Expr}{es:List Expr}{t:TA}
end
end L2
namespace L2
open PySem PySem.Spec PyProof.Rows PySem.W
section
variable {X:Cx}{Aa pn:List (Addr × Obj)}{σ:St}{H:Hp}{s:Shared}{J:XJ}
end
section
variable {X:Cx}{th:Ends->XJ}
end
section
variable {prog:Program}{w:World}{A:Around}{E:Value->Shared->Prop}{h:Heap}{g:Array GenState}{d:Drawn}{t:Nat}{os:OsState}{a C:Addr}{o:Obj}{K:Frag}
end
section
variable {X:Cx}{K:Frag}
end
end L2
namespace L2
open PySem PySem.Spec PyProof.Rows
def Ite (K:W.Frag) (a:Addr):It :=
 ⟨fun i H=>∃ xs x,SqL K H a xs/\xs[i]?=some x,fun i H x H'=>∃ p v,H p=none/\x=.ref p/\H'=upd H p (.tup [.int i,v])/\∀ xs,SqL K H a xs->xs[i]?=some v,fun i H=>∃ xs,SqL K H a xs/\xs.length<=i⟩
theorem Aa0 {P:Program}{w:World}{K:W.Frag}{es:List Expr}{x1:Nat}{tpos:Pos} (a e it:Addr) (hne:e≠it):Turn P w K (.Tuple es x1 tpos) (Ite K a) [e,it] e (fun i h=>(∃ old,IsEnum h e it (i:Int) old)/\h.IsListIter it a i) where
 mem:=by simp
 obj:=fun i h st b hb=>by
  obtain⟨⟨old,h1⟩,o,h2,c,d⟩:=st
  rcases List.mem_cons.mp hb with rfl | hb
  . exact ⟨_,h1,fun v z=>by cases (show Data.fields _=Data.cell v from z)⟩
  . have z:b=it:=by simpa using hb
    subst z
    exact ⟨o,h2,fun v z=>by rw [d] at z;cases z⟩
 keep:=fun i h h' st k=>by
  obtain⟨⟨old,h1⟩,h2⟩:=st
  exact ⟨⟨old,k e (by simp) _ h1⟩,h2.at fun o z=>k it (by simp) o z⟩
 item:=by
  intro X hP hw hK hc i Aa s σ H E I hf st hg
  subst hP hw hK
  obtain⟨⟨old,h1⟩,h2⟩:=st
  obtain⟨xs,x,hq,hx⟩:=hg
  obtain⟨its,rv,p,hz⟩:=I.list hq
  obtain⟨u,hu,ru⟩:=rv.get hx
  have fe:=hf e (by simp)
  have fi:=hf it (by simp)
  have lte:e<s.heap.objs.size:=Heap.lt_size h1
  have hfresh:H s.heap.objs.size=none:=I.hok.fresh (Nat.le_refl _)
  refine wpAny_pyNext_enum_item h1 h2 p.isList (x:=u) (by simpa using hu) hne fun h' hout hit' htup hsz hk=>?_
  refine⟨_,rfl,wpAny_letOwnedTupleGo_enum hout fun h3 hen hsb=>?_⟩
  replace hsb:Heap.SameBut e h' h3:=hsb
  have kk:∀ b o,b≠e->b≠it->s.heap.get? b=some o->h3.get? b=some o:=fun b o n1 n2 z=>(hsb.2 b n1).trans (hk b o n1 n2 z)
  have ht3:h3.get? s.heap.objs.size=some { cls:=.type "tuple",data:=.seq #[.int i s.toks,u] }:=(hsb.2 _ (Nat.ne_of_gt lte)).trans htup
  have hi3:h3.IsListIter it a (i+1):=hit'.at fun o z=>(hsb.2 it hne.symm).trans z
  have nch:∀ b,b ∉ [e,it]->b≠e/\b≠it:=fun b hb=>by simpa using hb
  have ntr:∀ b v,H b=some v->b≠e/\b≠it:=fun b v z=>⟨Ap z fe.1,Ap z fi.1⟩
  have nsz:∀ b v,H b=some v->b≠s.heap.objs.size:=fun b v z=>Ap z hfresh
  refine⟨.ref s.heap.objs.size,upd H s.heap.objs.size (.tup [.int i,x]),?_,rfl,⟨s.heap.objs.size,x,hfresh,rfl,rfl,fun ys hy=>by rw [I.list_inj hy hq];exact hx⟩,⟨⟨_,hen⟩,hi3⟩,fun b hb=>?_⟩
  . refine Inv.step (s:=s) (h':=h3) (t':=s.toks+1) (H':=upd H s.heap.objs.size (.tup [.int i,x])) I (g':=s.gens) (d':=s.drawn) (ch:=[e,it]) (fun b hb=>?_) (fun b o _ _ hb z _=>kk b o (nch b hb).1 (nch b hb).2 z) (fun b o _ _ hb z _=>⟨o.slots,kk b o (nch b hb).1 (nch b hb).2 z⟩) (fun b o hb z n=>?_) (fun b o hb z=>⟨o,kk b o (nch b hb).1 (nch b hb).2 z⟩)
     (fun b ys z=>by rw [Ah (nsz b _ z)];exact z) (fun b o v z=>by rw [Ah (nsz b _ z)];exact z) (fun b ps z=>⟨#[],by rw [Ah (nsz b _ z),z];simp⟩) (fun m hm=>?_) (fun b v z=>?_) I.bare
    . rcases List.mem_cons.mp hb with rfl | hb
      . exact ⟨fe.2.2.2.1,fe.2.1,fe.2.2.2.2.1,fe.2.2.2.2.2⟩
      . have z:b=it:=by simpa using hb
        subst z
        exact ⟨fi.2.2.2.1,fi.2.1,fi.2.2.2.2.1,fi.2.2.2.2.2⟩
    . rw [Ah (Nat.ne_of_lt (Heap.lt_size z))]
      exact n
    . obtain⟨o,es',ep,ho,r⟩:=hm
      exact ⟨o,es',ep,kk _ o fe.2.1.symm fi.2.1.symm ho,r⟩
    . by_cases hb:b=s.heap.objs.size
      . subst hb
        rw [Ad] at z
        cases z
        exact ⟨(by show (2:Nat)<=sizeLine;decide),[.int i s.toks,u],.cons ⟨_,rfl⟩ (.cons ru .nil),⟨_,ht3,rfl,rfl,_,rfl⟩⟩
      . rw [Ah hb] at z
        refine (I.hok b v z).stay (fun c y hc' q=>?_) (fun c q=>by rw [Ah (nsz c _ q)];exact q) fun c ys q=>by rw [Ah (nsz c _ q)];exact q
        rcases hc' with rfl | hc'
        . exact kk _ _ (ntr _ _ z).1 (ntr _ _ z).2 q
        . exact kk _ _ (ntr _ _ hc').1 (ntr _ _ hc').2 q
  . have lb:b<s.heap.objs.size:=by
     rcases List.mem_cons.mp hb with rfl | hb
     . exact lte
     . have z:b=it:=by simpa using hb
       subst z
       obtain⟨o,z,_⟩:=h2
       exact Heap.lt_size z
    rw [Ah (Nat.ne_of_lt lb)]
    exact (hf b hb).1
 done:=by
  intro X hP hw hK hc i Aa s σ H E I hf st hg
  subst hP hw hK
  obtain⟨⟨old,h1⟩,h2⟩:=st
  obtain⟨xs,hq,hx⟩:=hg
  obtain⟨its,rv,p,hz⟩:=I.list hq
  obtain⟨f0,f1,f2,f3,f4,f5⟩:=hf it (by simp)
  have hl:=rv.length
  exact wpAny_pyNext_enum_end (I.ok.hd hc) h1 h2 p.isList (by simp;omega) fun h' eb=>⟨rfl,I.turned (t':=s.toks) (fun b o hb z=>eb b o hb z) f0 f1 f3 f4 f5⟩
 self:=fun _ _ _ _ _ st h=>by
  obtain⟨⟨old,h1⟩,h2⟩:=st
  exact wpAny_pyIter_enum h1 h
def Bf9 (K:W.Frag) (ta:TA):TI:=fun σ H R=>ta σ H fun vs H1=>∃ a,vs=[.ref a]/\(∃ xs,SqL K H1 a xs)/\R (Ite K a) H1
theorem Px:bootBuiltins "enumerate"=some (.type "enumerate"):=by decide +kernel
theorem Ad2 {X:Cx}{K:W.Frag}{es:List Expr}{x1:Nat}{tpos:Pos}{a:Expr}{ta:TA}{p pos:Pos} (hg:Gl X "enumerate") (hm:X.mg "enumerate"=none) (ha:PA X [a] ta) (hK:X.K=K:=by rfl) (hs:starEach [a] X.env=[(false,eval a X.env)]:=by rfl):PI X (.Tuple es x1 tpos) (.Call (.Name "enumerate" p) [a] [] pos) (Bf9 K ta):=by
 subst hK
 intro Aa s σ H R I h
 refine Call_ (Kp I hg hm Px (PyProof.Rows.callWith_type1 (thn (ha pos Aa s σ H _ I h) fun us s1 ⟨vs,H1,I1,r1,q1⟩=>?_) hs rfl))
 obtain⟨l,e,⟨xs,hq⟩,q⟩:=q1
 subst e
 cases r1 with
 | cons r rr =>
   cases rr
   cases r
   obtain⟨its,rv,pl,hz⟩:=I1.list hq
   refine call_enumerate_list pl.isList fun h' hen hit hsz hk=>?_
   refine wpAny_pyIter_enum hen ⟨s1.heap.objs.size+1,[s1.heap.objs.size+1,s1.heap.objs.size],_,_,H1,rfl,I1.kept (t':=s1.toks) hk,Aa0 l _ _ (Nat.succ_ne_self _),⟨⟨_,hen⟩,hit⟩,fun b hb=>?_,q⟩
   have lb:s1.heap.objs.size<=b:=by
    rcases List.mem_cons.mp hb with rfl | hb
    . exact Nat.le_succ _
    . have z:b=s1.heap.objs.size:=by simpa using hb
      rw [z]
      exact Nat.le_refl _
   exact I1.fpOk lb (I1.hok.fresh lb)
section
variable {g:TG}{tc:TT}{te:TE}{D:Addr}{Q:Hp->Prop}{τ:St}{H:Hp}
theorem Wa {K:W.Frag}{a:Addr}{xs:List V} (Pv:Nat->List V->St->Hp->Prop) (h0:Pv 0 [] τ H) (hl:∀ i ys τ H,i<=xs.length->Pv i ys τ H->SqL K H a xs)
 (hs:∀ i x ys τ H p,xs[i]?=some x->Pv i ys τ H->H p=none->g (.ref p) τ (upd H p (.tup [.int i,x])) fun τ2 H2=>tc τ2 H2 fun b H3=>if b=true then te τ2 H3 fun y H4=>H4 D=some (.lst ys)/\ys.length<sizeLine/\Pv (i+1) (ys++[y]) τ2 (upd H4 D (.lst (ys++[y]))) else Pv (i+1) ys τ2 H3)
 (hd:∀ ys τ H,Pv xs.length ys τ H->Q H):RunC (Ite K a) g tc te D Q τ H:=by
 refine⟨fun i m ys τ H=>m=xs.length-i/\i<=xs.length/\Pv i ys τ H,⟨xs.length,by simp,Nat.zero_le _,h0⟩,?_⟩
 rintro i m ys τ H ⟨rfl,hi,pp⟩
 have q:=hl i ys τ H hi pp
 by_cases hlt:i<xs.length
 . refine .inr ⟨⟨xs,xs[i],q,by simp [hlt]⟩,Pv (i+1),fun ys' τ' H' p'=>⟨xs.length-(i+1),by omega,rfl,hlt,p'⟩,fun x H' y=>?_⟩
   obtain⟨p,v,hp,rfl,rfl,y⟩:=y
   exact hs i v ys τ _ p (y xs q) pp hp
 . have e:i=xs.length:=by omega
   subst e
   exact .inl ⟨⟨xs,q,Nat.le_refl _⟩,hd ys τ H pp⟩
end
end L2
namespace L2
open PySem PySem.Spec PyProof.Rows
theorem Inv.turnedN {X:Cx}{Aa:List (Addr × Obj)}{σ:St}{H:Hp}{s:Shared}{h':Heap}{t':Nat}{fp:List Addr} (I:Inv X Aa σ H s) (k:∀ b o,b ∉ fp->s.heap.get? b=some o->h'.get? b=some o) (hf:∀ b∈fp,FpOk X Aa H b) :
 Inv X Aa σ H { s with heap:=h',toks:=t' }:=by
 have ntr:∀ c o,H c=some o->c ∉ fp:=fun c o e hm=>by rw [(hf c hm).1] at e;cases e
 refine I.step (g':=s.gens) (d':=s.drawn) (ch:=fp) (fun b hb=>?_) (fun b o _ _ hc e _=>k b o hc e) (fun b o _ _ hc e _=>⟨o.slots,k b o hc e⟩) (fun _ _ _ _ n=>n)
  (fun b o hc e=>⟨o,k b o hc e⟩) (fun _ _ e=>e) (fun _ _ _ e=>e) (fun b ps e=>⟨#[],by rw [e];simp⟩) (fun m hm=>?_) (fun b u e=>?_) I.bare
 . have f:=hf b hb
   exact ⟨f.2.2.2.1,f.2.1,f.2.2.2.2.1,f.2.2.2.2.2⟩
 . obtain⟨o,es',ep,ho,r⟩:=hm
   exact ⟨o,es',ep,k _ o (fun z=>(hf _ z).2.1 rfl) ho,r⟩
 . refine (I.hok b u e).stay (fun c y hc' q=>?_) (fun c q=>q) fun c ys q=>q
   rcases hc' with rfl | hc'
   . exact k _ _ (ntr _ _ e) q
   . exact k _ _ (ntr _ _ hc') q
def Itz (K:W.Frag) (a b:Addr):It :=
 ⟨fun i H=>∃ xs ys x y,SqL K H a xs/\SqL K H b ys/\xs[i]?=some x/\ys[i]?=some y,
  fun i H v H'=>∃ p x y,H p=none/\v=.ref p/\H'=upd H p (.tup [x,y])/\(∀ xs,SqL K H a xs->xs[i]?=some x)/\∀ ys,SqL K H b ys->ys[i]?=some y,
  fun i H=>∃ xs ys,SqL K H a xs/\SqL K H b ys/\(xs.length<=i\/ys.length<=i)⟩
theorem Ap7 {P:Program}{w:World}{K:W.Frag}{es:List Expr}{x1:Nat}{tpos:Pos} (a b z TI TO i1 i2:Addr) (D:ZipApart z TI TO i1 i2 a b) :
 Turn P w K (.Tuple es x1 tpos) (Itz K a b) [z,TI,TO,i1,i2] z (fun i h=>IsZip h z TI TO .none/\IsPair h TI (.ref i1) (.ref i2)/\(∃ c d,IsPair h TO c d)/\h.IsListIter i1 a i/\h.IsListIter i2 b i) where
 mem:=by simp
 obj:=fun i h st c hc=>by
  obtain⟨hz,hTI,⟨u,v,hTO⟩,⟨o1,h1,c1,d1⟩,⟨o2,h2,c2,d2⟩⟩:=st
  simp only [List.mem_cons,List.not_mem_nil,or_false] at hc
  rcases hc with rfl | rfl | rfl | rfl | rfl
  . exact ⟨_,hz,fun v q=>by cases (show Data.fields _=Data.cell v from q)⟩
  . exact ⟨_,hTI,fun v q=>by cases (show Data.seq _ _=Data.cell v from q)⟩
  . exact ⟨_,hTO,fun v q=>by cases (show Data.seq _ _=Data.cell v from q)⟩
  . exact ⟨o1,h1,fun v q=>by rw [d1] at q;cases q⟩
  . exact ⟨o2,h2,fun v q=>by rw [d2] at q;cases q⟩
 keep:=fun i h h' st k=>by
  obtain⟨hz,hTI,⟨u,v,hTO⟩,h1,h2⟩:=st
  exact ⟨k z (by simp) _ hz,k TI (by simp) _ hTI,⟨u,v,k TO (by simp) _ hTO⟩,h1.at fun o q=>k i1 (by simp) o q,h2.at fun o q=>k i2 (by simp) o q⟩
 item:=by
  intro X hP hw hK hc i Aa s σ H E I hf st hg
  subst hP hw hK
  obtain⟨hz,hTI,⟨u0,v0,hTO⟩,h1,h2⟩:=st
  obtain⟨xs,ys,x,y,hqa,hqb,hx,hy⟩:=hg
  obtain⟨ia,ra,pa,_⟩:=I.list hqa
  obtain⟨ib,rb,pb,_⟩:=I.list hqb
  obtain⟨u,hu,ru⟩:=ra.get hx
  obtain⟨v,hv,rv⟩:=rb.get hy
  have hfresh:H s.heap.objs.size=none:=I.hok.fresh (Nat.le_refl _)
  have ltz:=Heap.lt_size hz
  refine wpAny_pyNext_zip_item D hz hTI hTO h1 h2 pa.isList pb.isList (x:=u) (y:=v) (by simpa using hu) (by simpa using hv) fun h' hz' hTO' h1' h2' htup hsz hk=>?_
  refine⟨_,rfl,wpAny_letOwnedTupleGo_zip hz' fun h3 hz3 hsb=>?_⟩
  replace hsb:Heap.SameBut z h' h3:=hsb
  have kk:∀ c o,c ∉ [z,TI,TO,i1,i2]->s.heap.get? c=some o->h3.get? c=some o:=fun c o hc e=>by
   simp only [List.mem_cons,List.not_mem_nil,or_false,not_or] at hc
   obtain⟨n1,n2,n3,n4,n5⟩:=hc
   exact (hsb.2 c n1).trans (hk c o n1 n3 n4 n5 e)
  have ht3:h3.get? s.heap.objs.size=some { cls:=.type "tuple",data:=.seq #[u,v] }:=(hsb.2 _ (Nat.ne_of_gt ltz)).trans htup
  have hi1:h3.IsListIter i1 a (i+1):=h1'.at fun o e=>(hsb.2 i1 D.i1z).trans e
  have hi2:h3.IsListIter i2 b (i+1):=h2'.at fun o e=>(hsb.2 i2 D.i2z).trans e
  have hTI3:IsPair h3 TI (.ref i1) (.ref i2):=(hsb.2 TI D.TIz).trans (hk _ _ D.TIz D.TITO D.TIi1 D.TIi2 hTI)
  have hTO3:IsPair h3 TO u v:=(hsb.2 TO D.TOz).trans hTO'
  have ntr:∀ c o,H c=some o->c ∉ [z,TI,TO,i1,i2]:=fun c o e hm=>by rw [(hf c hm).1] at e;cases e
  have nsz:∀ c o,H c=some o->c≠s.heap.objs.size:=fun c o e=>Ap e hfresh
  refine⟨.ref s.heap.objs.size,upd H s.heap.objs.size (.tup [x,y]),?_,rfl,⟨s.heap.objs.size,x,y,hfresh,rfl,rfl,fun zs q=>by rw [I.list_inj q hqa];exact hx,fun zs q=>by rw [I.list_inj q hqb];exact hy⟩,⟨hz3,hTI3,⟨_,_,hTO3⟩,hi1,hi2⟩,fun c hc=>?_⟩
  . refine Inv.step (s:=s) (h':=h3) (t':=s.toks) (H':=upd H s.heap.objs.size (.tup [x,y])) I (g':=s.gens) (d':=s.drawn) (ch:=[z,TI,TO,i1,i2]) (fun c hc=>?_) (fun c o _ _ hc e _=>kk c o hc e) (fun c o _ _ hc e _=>⟨o.slots,kk c o hc e⟩) (fun c o hc e n=>?_) (fun c o hc e=>⟨o,kk c o hc e⟩)
     (fun c zs e=>by rw [Ah (nsz c _ e)];exact e) (fun c o w' e=>by rw [Ah (nsz c _ e)];exact e) (fun c ps e=>⟨#[],by rw [Ah (nsz c _ e),e];simp⟩) (fun m hm=>?_) (fun c w' e=>?_) I.bare
    . have f:=hf c hc
      exact ⟨f.2.2.2.1,f.2.1,f.2.2.2.2.1,f.2.2.2.2.2⟩
    . rw [Ah (Nat.ne_of_lt (Heap.lt_size e))]
      exact n
    . obtain⟨o,es',ep,ho,r⟩:=hm
      exact ⟨o,es',ep,kk _ o (fun q=>(hf _ q).2.1 rfl) ho,r⟩
    . by_cases hcs:c=s.heap.objs.size
      . subst hcs
        rw [Ad] at e
        cases e
        exact ⟨(by show (2:Nat)<=sizeLine;decide),[u,v],.cons ru (.cons rv .nil),⟨_,ht3,rfl,rfl,_,rfl⟩⟩
      . rw [Ah hcs] at e
        refine (I.hok c w' e).stay (fun c' y' hc' q=>?_) (fun c' q=>by rw [Ah (nsz c' _ q)];exact q) fun c' zs q=>by rw [Ah (nsz c' _ q)];exact q
        rcases hc' with rfl | hc'
        . exact kk _ _ (ntr _ _ e) q
        . exact kk _ _ (ntr _ _ hc') q
  . have lb:c<s.heap.objs.size:=by
     simp only [List.mem_cons,List.not_mem_nil,or_false] at hc
     obtain⟨o1,q1,_⟩:=h1
     obtain⟨o2,q2,_⟩:=h2
     rcases hc with rfl | rfl | rfl | rfl | rfl
     . exact ltz
     . exact Heap.lt_size hTI
     . exact Heap.lt_size hTO
     . exact Heap.lt_size q1
     . exact Heap.lt_size q2
    rw [Ah (Nat.ne_of_lt lb)]
    exact (hf c hc).1
 done:=by
  intro X hP hw hK hc i Aa s σ H E I hf st hg
  subst hP hw hK
  obtain⟨hz,hTI,⟨u0,v0,hTO⟩,h1,h2⟩:=st
  obtain⟨xs,ys,hqa,hqb,hx⟩:=hg
  obtain⟨ia,ra,pa,_⟩:=I.list hqa
  obtain⟨ib,rb,pb,_⟩:=I.list hqb
  have la:=ra.length
  have lb:=rb.length
  refine wpAny_pyNext_zip_end (I.ok.hd hc) D hz hTI hTO h1 h2 pa.isList pb.isList ?_ fun h' hk=>⟨rfl,I.turnedN (t':=s.toks) (fp:=[z,TI,TO,i1,i2]) (fun c o hc e=>?_) hf⟩
  . rcases hx with q | q
    . exact .inl (by simp;omega)
    . exact .inr (by simp;omega)
  . simp only [List.mem_cons,List.not_mem_nil,or_false,not_or] at hc
    obtain⟨n1,n2,n3,n4,n5⟩:=hc
    exact hk c o n1 n3 n4 n5 e
 self:=fun _ _ _ _ _ st h=>wpAny_pyIter_zip st.1 h
def iZip (K:W.Frag) (ta:TA):TI:=fun σ H R=>ta σ H fun vs H1=>∃ a b,vs=[.ref a,.ref b]/\(∃ xs,SqL K H1 a xs)/\(∃ ys,SqL K H1 b ys)/\R (Itz K a b) H1
theorem Ao0:bootBuiltins "zip"=some (.type "zip"):=by decide +kernel
theorem A85 {X:Cx}{K:W.Frag}{es:List Expr}{x1:Nat}{tpos:Pos}{a b:Expr}{ta:TA}{p pos:Pos} (hg:Gl X "zip") (hm:X.mg "zip"=none) (ha:PA X [a,b] ta) (hK:X.K=K:=by rfl) (hs:starEach [a,b] X.env=[(false,eval a X.env),(false,eval b X.env)]:=by rfl) (hs2:starEach [b] X.env=[(false,eval b X.env)]:=by rfl) :
 PI X (.Tuple es x1 tpos) (.Call (.Name "zip" p) [a,b] [] pos) (iZip K ta):=by
 subst hK
 intro Aa s σ H R I h
 refine Call_ (Kp I hg hm Ao0 (PyProof.Rows.callWith_type1 (thn (ha pos Aa s σ H _ I h) fun us s1 ⟨vs,H1,I1,r1,q1⟩=>?_) (by rw [hs,hs2]) (by rw [hs2];rfl)))
 obtain⟨la,lb,e,⟨xs,hqa⟩,⟨ys,hqb⟩,q⟩:=q1
 subst e
 cases r1 with
 | cons ra rr =>
   cases rr with
   | cons rb rr =>
     cases rr
     cases ra
     cases rb
     obtain⟨ia,_,pa,_⟩:=I1.list hqa
     obtain⟨ib,_,pb,_⟩:=I1.list hqb
     have a1:la<s1.heap.objs.size:=by obtain⟨_,e,_⟩:=pa.isList;exact Heap.lt_size e
     have a2:lb<s1.heap.objs.size:=by obtain⟨_,e,_⟩:=pb.isList;exact Heap.lt_size e
     refine call_zip_2 pa.isList pb.isList fun h' hz hTI hTO hi1 hi2 hsz hk=>?_
     refine wpAny_pyIter_zip hz ⟨s1.heap.objs.size+4,[s1.heap.objs.size+4,s1.heap.objs.size+2,s1.heap.objs.size+3,s1.heap.objs.size,s1.heap.objs.size+1],_,_,H1,rfl,I1.kept (t':=s1.toks) hk,Ap7 la lb _ _ _ _ _ (zipApart_new a1 a2),⟨hz,hTI,⟨_,_,hTO⟩,hi1,hi2⟩,fun c hc=>?_,q⟩
     have lc:s1.heap.objs.size<=c:=by
      simp only [List.mem_cons,List.not_mem_nil,or_false] at hc
      rcases hc with rfl | rfl | rfl | rfl | rfl
      . exact Nat.le_add_right _ _
      . exact Nat.le_add_right _ _
      . exact Nat.le_add_right _ _
      . exact Nat.le_refl _
      . exact Nat.le_add_right _ _
     exact I1.fpOk lc (I1.hok.fresh lc)
section
variable {g:TG}{tc:TT}{te:TE}{D:Addr}{Q:Hp->Prop}{τ:St}{H:Hp}
theorem Av5 {K:W.Frag}{a b:Addr}{xs ys:List V}{n:Nat} (hn:n=min xs.length ys.length) (Pv:Nat->List V->St->Hp->Prop) (h0:Pv 0 [] τ H) (hl:∀ i zs τ H,i<=n->Pv i zs τ H->SqL K H a xs/\SqL K H b ys)
 (hs:∀ i x y zs τ H p,xs[i]?=some x->ys[i]?=some y->Pv i zs τ H->H p=none->g (.ref p) τ (upd H p (.tup [x,y])) fun τ2 H2=>tc τ2 H2 fun b H3=>if b=true then te τ2 H3 fun y H4=>H4 D=some (.lst zs)/\zs.length<sizeLine/\Pv (i+1) (zs++[y]) τ2 (upd H4 D (.lst (zs++[y]))) else Pv (i+1) zs τ2 H3)
 (hd:∀ zs τ H,Pv n zs τ H->Q H):RunC (Itz K a b) g tc te D Q τ H:=by
 refine⟨fun i m zs τ H=>m=n-i/\i<=n/\Pv i zs τ H,⟨n,by simp,Nat.zero_le _,h0⟩,?_⟩
 rintro i m zs τ H ⟨rfl,hi,pp⟩
 obtain⟨qa,qb⟩:=hl i zs τ H hi pp
 by_cases hlt:i<n
 . refine .inr ⟨⟨xs,ys,xs[i],ys[i],qa,qb,by simp<;>omega,by simp<;>omega⟩,Pv (i+1),fun ys' τ' H' p'=>⟨n-(i+1),by omega,rfl,hlt,p'⟩,fun x H' y=>?_⟩
   obtain⟨p,u,v,hp,rfl,rfl,y1,y2⟩:=y
   exact hs i u v zs τ _ p (y1 xs qa) (y2 ys qb) pp hp
 . have e:i=n:=by omega
   subst e
   exact .inl ⟨⟨xs,ys,qa,qb,by omega⟩,hd zs τ H pp⟩
end
theorem op_mulX {X:Cx}:OpR X (binaryOp .Mult) (rI IntMulOk fun i j=>.int (i*j)):=opI fun _ _ _ _ _ _ _ hc q=>mul_int q hc
theorem Ko {i j:Int} (h1:-(2 ^ 64)<i) (h2:i<2 ^ 64):IntMulOk i j:=CMul.ok (.inl ⟨h1,h2⟩)
theorem Ag3 {i j:Int} (h1:-(2 ^ 64)<j) (h2:j<2 ^ 64):IntMulOk i j:=CMul.ok (.inr ⟨h1,h2⟩)
end L2
namespace L2
open PySem PySem.W PySem.Calls PyProof.Rows
end L2
namespace L2
open PySem PySem.Spec PyProof.Rows
section
variable {X:Cx}{Aa:List (Addr × Obj)}{σ:St}{H:Hp}{s:Shared}{a:Addr}{kvs:List (Key × V)}
theorem Inv.freeze (I:Inv X Aa σ H s) (e:H a=some (.dK kvs)):∃ o,Inv X Aa σ (upd H a (.frz o (.dK kvs))) s:=by
 obtain⟨z,y,vs,r,o,es,ep,ho,c⟩:=id (I.hok a _ e)
 refine⟨o,?_⟩
 have ne:∀ b u,H b=some u->u≠.dK kvs->b≠a:=fun b u q n z=>by rw [z,e] at q;exact n (Option.some.inj q).symm
 have up:∀ b u,H b=some u->u≠.dK kvs->upd H a (.frz o (.dK kvs)) b=some u:=fun b u q n=>by rw [Ah (ne b u q n)];exact q
 refine I.step (g':=s.gens) (t':=s.toks) (d':=s.drawn) (h':=s.heap) (H':=upd H a (.frz o (.dK kvs))) (ch:=[]) (fun _ q=>nomatch q) (fun b ob _ _ _ q _=>q) (fun b ob _ _ _ q _=>⟨ob.slots,q⟩) (fun b ob _ q n=>by rw [Ah (fun z=>by rw [z,e] at n;cases n)];exact n) (fun b ob _ q=>⟨ob,q⟩)
  (fun b xs q=>up b _ q (by intro z;cases z)) (fun b ob u q=>up b _ q (by intro z;cases z)) (fun b ps q=>⟨#[],by rw [up b _ q (by intro z;cases z)];simp⟩) (fun m q=>q) (fun b u q=>?_) I.bare
 by_cases hb:b=a
 . subst hb
   rw [Ad] at q
   cases q
   exact ⟨ho,(I.hok b _ e).stay (fun _ _ _ q=>q) (fun c q=>up c _ q (by intro z;cases z)) fun c xs q=>up c _ q (by intro z;cases z)⟩
 . rw [Ah hb] at q
   exact (I.hok b u q).stay (fun _ _ _ q=>q) (fun c q=>up c _ q (by intro z;cases z)) fun c xs q=>up c _ q (by intro z;cases z)
theorem Inv.thaw {o:Obj} (I:Inv X Aa σ H s) (e:H a=some (.frz o (.dK kvs))) (hb:∀ ob u,X.H₀ a≠some (.frz ob u)):Inv X Aa σ (upd H a (.dK kvs)) s:=by
 have ne:∀ b u,H b=some u->u≠.frz o (.dK kvs)->b≠a:=fun b u q n z=>by rw [z,e] at q;exact n (Option.some.inj q).symm
 have up:∀ b u,H b=some u->u≠.frz o (.dK kvs)->upd H a (.dK kvs) b=some u:=fun b u q n=>by rw [Ah (ne b u q n)];exact q
 have no:∀ b,H b=none->upd H a (.dK kvs) b=none:=fun b n=>by rw [Ah (fun z=>by rw [z,e] at n;cases n)];exact n
 refine⟨I.ok,I.os,I.bare,⟨I.base.keep,I.base.slot,fun b ob q n x=>no b (I.base.free b ob q n x),I.base.there,fun b xs q=>up b _ (I.base.tups b xs q) (by intro z;cases z),fun b ob u q=>?_,fun b ps q=>?_⟩,I.loc,I.cell,no _ I.free,fun x c q=>no _ (I.freeC x c q),fun p hp=>?_,fun b u q=>?_,I.len⟩
 . have hne:b≠a:=fun z=>hb ob u (z▸q)
   rw [Ah hne]
   exact I.base.frzs b ob u q
 . obtain⟨m,q'⟩:=I.base.tbls b ps q
   exact ⟨m,up b _ q' (by intro z;cases z)⟩
 . obtain⟨p1,p2,p3⟩:=I.pin p hp
   exact ⟨p1,no _ p2,p3⟩
 . by_cases hba:b=a
   . subst hba
     rw [Ad] at q
     cases q
     obtain⟨_,q'⟩:=I.hok b _ e
     exact q'.stay (fun _ _ _ q=>q) (fun c q=>up c _ q (by intro z;cases z)) fun c xs q=>up c _ q (by intro z;cases z)
   . rw [Ah hba] at q
     exact (I.hok b u q).stay (fun _ _ _ q=>q) (fun c q=>up c _ q (by intro z;cases z)) fun c xs q=>up c _ q (by intro z;cases z)
theorem Inv.notfrz (I:Inv X Aa σ H s) (e:H a=some (.dK kvs)):∀ ob u,X.H₀ a≠some (.frz ob u):=fun ob u q=>by
 have:=I.base.frzs a ob u q
 rw [e] at this
 cases this
theorem Inv.nodupK (I:Inv X Aa σ H s) (e:Rd H a (.dK kvs)):(kvs.map (·.1)).Nodup:=by
 obtain⟨z,hd,vs,rel,o,es,ep,_,_,_,_,_,hn⟩:=Pd I.hok e
 rw [rel.keys]
 exact hn
end
def tFrz (t:TE):TE:=fun σ H Q=>t σ H Q\/∃ (a:Addr) (kvs:List (Key × V)),H a=some (.dK kvs)/\((kvs.map (·.1)).Nodup->∀ o:Obj,t σ (upd H a (.frz o (.dK kvs))) fun v H'=>H' a=some (.frz o (.dK kvs))/\Q v (upd H' a (.dK kvs)))
def sFrz (t:TS):TS:=fun D σ H=>t D σ H\/∃ (a:Addr) (kvs:List (Key × V)),H a=some (.dK kvs)/\((kvs.map (·.1)).Nodup->∀ o:Obj,t ⟨fun σ' H'=>H' a=some (.frz o (.dK kvs))/\D.nx σ' (upd H' a (.dK kvs)),fun v H'=>H' a=some (.frz o (.dK kvs))/\D.rt v (upd H' a (.dK kvs)),
 fun σ' H'=>H' a=some (.frz o (.dK kvs))/\D.bk σ' (upd H' a (.dK kvs)),fun σ' H'=>H' a=some (.frz o (.dK kvs))/\D.ct σ' (upd H' a (.dK kvs))⟩ σ (upd H a (.frz o (.dK kvs))))
theorem Aw8 {X:Cx}{e:Expr}{t:TE} (h:PE X e t):PE X e (tFrz t):=by
 intro Aa s σ H Q I hw
 rcases hw with hw|⟨a,kvs,ea,hw⟩
 . exact h Aa s σ H Q I hw
 . obtain⟨o,I'⟩:=I.freeze ea
   have hb:=I.notfrz ea
   refine thn (h Aa s σ _ _ I' (hw (I.nodupK (.inl ea)) o)) fun u s' ⟨v,H',I2,r,e2,q⟩=>⟨v,_,I2.thaw e2 hb,r,q⟩
theorem A81 {X:Cx}{st:Stmt}{t:TS} (h:PS X st t):PS X st (sFrz t):=by
 intro Aa s σ H D I hw
 rcases hw with hw|⟨a,kvs,ea,hw⟩
 . exact h Aa s σ H D I hw
 . obtain⟨o,I'⟩:=I.freeze ea
   have hb:=I.notfrz ea
   refine thn (h Aa s σ _ _ I' (hw (I.nodupK (.inl ea)) o)) fun f s' hq=>?_
   cases f with
   | next=>obtain⟨σ',H',I2,e2,q⟩:=hq;exact ⟨σ',_,I2.thaw e2 hb,q⟩
   | brk=>obtain⟨σ',H',I2,e2,q⟩:=hq;exact ⟨σ',_,I2.thaw e2 hb,q⟩
   | cont=>obtain⟨σ',H',I2,e2,q⟩:=hq;exact ⟨σ',_,I2.thaw e2 hb,q⟩
   | ret u=>obtain⟨v,σ',H',I2,r,e2,q⟩:=hq;exact ⟨v,σ',_,I2.thaw e2 hb,r,q⟩
theorem Aj4 {X:Cx}{Aa:List (Addr × Obj)}{σ:St}{H:Hp}{s:Shared}{a:Addr}{kvs:List (Key × V)}{o:Obj} (I:Inv X Aa σ H s) (e:H a=some (.frz o (.dK kvs))) :
 s.heap.get? a=some o/\(a==sysModules)=false/\kvs.length<=sizeLine/\∃ vs es ep,KV kvs vs/\o.data=.dict es ep/\es.size=kvs.length/\o.ExactDict/\s.heap.DictAt (mixKind X.prog X.w) a vs ep:=by
 obtain⟨ho,z,y,vs,r,o',es,ep,ho',ex,hd,hk,hp,hn⟩:=I.hok a _ e
 rw [ho] at ho'
 cases ho'
 refine⟨ho,y,z,vs,es,ep,r,hd,?_,ex,⟨o,es,ho,ex,hd,hk,hp,hn⟩⟩
 rw [r.length,←hp.length]
 simp
theorem KV.getV:∀{kvs:List (Key × V)}{vs:List (Key × Value)}{i:Nat}{k:Key}{v:V},KV kvs vs->kvs[i]?=some (k,v)->∃ u,vs[i]?=some (k,u)/\RelV v u
 | _,_,i,k,v,.nil,e=>by simp at e
 | _,_,0,k,v,.cons (b:=q) r t,e=>by
   simp only [List.getElem?_cons_zero,Option.some.injEq] at e
   subst e
   obtain⟨k',u⟩:=q
   have e1:k=k':=r.1
   subst e1
   exact ⟨u,by simp,r.2⟩
 | _,_,i+1,k,v,.cons r t,e=>by
   obtain⟨u,e1,e2⟩:=KV.getV (i:=i) t (by simpa using e)
   exact ⟨u,by simpa using e1,e2⟩
theorem Bc0 {P:Program}{w:World}{k:Key}{u:Value} (h:(mixKind P w).is k u=true):RelV (kV k) u:=by
 rcases Br h with ⟨i,t,rfl,rfl⟩|⟨x,t,rfl,rfl⟩
 . exact ⟨t,rfl⟩
 . exact ⟨t,rfl⟩
def Itm (d:Addr) (o:Obj):It :=
 ⟨fun i H=>∃ kvs k v,H d=some (.frz o (.dK kvs))/\kvs[i]?=some (k,v),
  fun i H x H'=>∃ p k v,H p=none/\x=.ref p/\H'=upd H p (.tup [kV k,v])/\∀ kvs,H d=some (.frz o (.dK kvs))->kvs[i]?=some (k,v),
  fun i H=>∃ kvs,H d=some (.frz o (.dK kvs))/\kvs.length<=i⟩
theorem Oe {prog:Program}{w:World}{A:Around}{E:Value->Shared->Prop}{s:Shared}{it d:Addr}{i n ep:Nat}{ok ov:Value}{Q:Value->Shared->Prop} (hit:IsItemIter s.heap it d i n ep ok ov) (h:Q (.ref it) s):wpAny (model prog w) A (pyIter (.ref it)) Q E s:=by
 have hT:s.TypeIs (.ref it) "dict_itemiterator":=⟨_,hit,rfl⟩
 refine wpAny_pyIter_slot hT PySem.F.slot_dict_itemiterator_iter (wpAny_call_entry PySem.F.slot_dict_itemiterator_iter hT (entryFor_alias (id':="dict_keyiterator.__iter__") (by kernel_rfl) rfl (by decide +kernel) (by kernel_rfl):entryFor table "dict_itemiterator.__iter__"=some Builtin.«dict_keyiterator.__iter__») ?_ (PySem.F.args_dict_itemiterator_iter_1 _))
 show wpAny _ _ (ret (.ref it)) _ _ s
 exact wpAny_pure ⟨_,rfl,"dict_itemiterator",_,hT,PySem.F.slot_dict_itemiterator_next.lookup,h⟩
theorem Z2 {P:Program}{w:World}{K:W.Frag}{tes:List Expr}{x1:Nat}{tpos:Pos} (d it:Addr) (o:Obj) {es:Array DictEntry}{ep:Nat} (hd:o.data=.dict es ep) :
 Turn P w K (.Tuple tes x1 tpos) (Itm d o) [it] it (fun i h=>∃ ok ov,IsItemIter h it d i es.size ep ok ov) where
 mem:=by simp
 obj:=fun i h st b hb=>by
  obtain⟨ok,ov,h1⟩:=st
  have z:b=it:=by simpa using hb
  subst z
  exact ⟨_,h1,fun v q=>by cases (show Data.fields _=Data.cell v from q)⟩
 keep:=fun i h h' st k=>by
  obtain⟨ok,ov,h1⟩:=st
  exact ⟨ok,ov,k it (by simp) _ h1⟩
 item:=by
  intro X hP hw hK hc i Aa s σ H E I hf st hg
  subst hP hw hK
  obtain⟨ok,ov,hit⟩:=st
  obtain⟨kvs,k,v,hz,hx⟩:=hg
  obtain⟨ho,hsys,hl,vs,es',ep',rel,hd',hsz,ex,hm⟩:=Aj4 I hz
  rw [hd] at hd'
  cases hd'
  obtain⟨u,hu,ru⟩:=rel.getV hx
  have hn:es.size=vs.length:=by rw [hsz,rel.length]
  have fi:=hf it (by simp)
  have lti:it<s.heap.objs.size:=Heap.lt_size hit
  have hfresh:H s.heap.objs.size=none:=I.hok.fresh (Nat.le_refl _)
  rw [hn] at hit
  refine wpAny_pyNext_items_item hit hm hu fun key h' hkey hout htup hsz' hk=>?_
  refine⟨_,rfl,wpAny_letOwnedTupleGo_items hout fun h3 hen hsb=>?_⟩
  replace hsb:Heap.SameBut it h' h3:=hsb
  have kk:∀ b ob,b ∉ [it]->s.heap.get? b=some ob->h3.get? b=some ob:=fun b ob n z=>by
   have n1:b≠it:=by simpa using n
   exact (hsb.2 b n1).trans (hk b ob n1 z)
  have ht3:h3.get? s.heap.objs.size=some { cls:=.type "tuple",data:=.seq #[key,u] }:=(hsb.2 _ (Nat.ne_of_gt lti)).trans htup
  have ntr:∀ c ob,H c=some ob->c ∉ [it]:=fun c ob e hm=>by rw [(hf c hm).1] at e;cases e
  have nsz:∀ b ob,H b=some ob->b≠s.heap.objs.size:=fun b ob z=>Ap z hfresh
  refine⟨.ref s.heap.objs.size,upd H s.heap.objs.size (.tup [kV k,v]),?_,rfl,⟨s.heap.objs.size,k,v,hfresh,rfl,rfl,fun kvs' q=>by rw [hz] at q;cases q;exact hx⟩,⟨_,_,by rw [hn];exact hen⟩,fun b hb=>?_⟩
  . refine Inv.step (s:=s) (h':=h3) (t':=s.toks) (H':=upd H s.heap.objs.size (.tup [kV k,v])) I (g':=s.gens) (d':=s.drawn) (ch:=[it]) (fun b hb=>?_) (fun b ob _ _ hb z _=>kk b ob hb z) (fun b ob _ _ hb z _=>⟨ob.slots,kk b ob hb z⟩) (fun b ob hb z n=>?_) (fun b ob hb z=>⟨ob,kk b ob hb z⟩)
     (fun b ys z=>by rw [Ah (nsz b _ z)];exact z) (fun b ob w' z=>by rw [Ah (nsz b _ z)];exact z) (fun b ps z=>⟨#[],by rw [Ah (nsz b _ z),z];simp⟩) (fun m hm=>?_) (fun b w' z=>?_) I.bare
    . have f:=hf b hb
      exact ⟨f.2.2.2.1,f.2.1,f.2.2.2.2.1,f.2.2.2.2.2⟩
    . rw [Ah (Nat.ne_of_lt (Heap.lt_size z))]
      exact n
    . obtain⟨ob,es',ep',hob,r⟩:=hm
      exact ⟨ob,es',ep',kk _ ob (fun q=>(hf _ q).2.1 rfl) hob,r⟩
    . by_cases hb:b=s.heap.objs.size
      . subst hb
        rw [Ad] at z
        cases z
        exact ⟨(by show (2:Nat)<=sizeLine;decide),[key,u],.cons (Bc0 hkey) (.cons ru .nil),⟨_,ht3,rfl,rfl,_,rfl⟩⟩
      . rw [Ah hb] at z
        refine (I.hok b w' z).stay (fun c y hc' q=>?_) (fun c q=>by rw [Ah (nsz c _ q)];exact q) fun c ys q=>by rw [Ah (nsz c _ q)];exact q
        rcases hc' with rfl | hc'
        . exact kk _ _ (ntr _ _ z) q
        . exact kk _ _ (ntr _ _ hc') q
  . have z:b=it:=by simpa using hb
    subst z
    rw [Ah (Nat.ne_of_lt lti)]
    exact (hf b hb).1
 done:=by
  intro X hP hw hK hc i Aa s σ H E I hf st hg
  subst hP hw hK
  obtain⟨ok,ov,hit⟩:=st
  obtain⟨kvs,hz,hx⟩:=hg
  obtain⟨ho,hsys,hl,vs,es',ep',rel,hd',hsz,ex,hm⟩:=Aj4 I hz
  rw [hd] at hd'
  cases hd'
  have hn:es.size=vs.length:=by rw [hsz,rel.length]
  have hl2:=rel.length
  rw [hn] at hit
  exact wpAny_pyNext_items_end (I.ok.hd hc) hit hm (by simp;omega) fun h' eb=>⟨rfl,I.turnedN (t':=s.toks) (fp:=[it]) (fun b ob hb z=>eb b ob (by simpa using hb) z) hf⟩
 self:=fun _ _ _ _ _ st h=>by
  obtain⟨ok,ov,hit⟩:=st
  exact Oe hit h
def Bc3 (td:TE):TI:=fun σ H R=>td σ H fun x H1=>∃ d o kvs,x=.ref d/\H1 d=some (.frz o (.dK kvs))/\R (Itm d o) H1
theorem S6 {X:Cx}{tes:List Expr}{x1:Nat}{tpos apos cpos:Pos}{e:Expr}{td:TE} (he:PE X e td)
 (hbase:attributeBase e "items" X.env (eval e X.env)=eval e X.env:=by rfl) (hline:(apos.endLine==cpos.line)=true:=by rfl):PI X (.Tuple tes x1 tpos) (.Call (.Attribute e "items" apos) [] [] cpos) (Bc3 td):=by
 intro Aa s σ H R I h
 refine wpAny_Call_method0_late hbase hline (thn (he Aa s σ H _ I h) fun v s1 ⟨x,H1,I1,r1,d,o,kvs,ex,hz,q⟩=>?_)
 subst ex
 obtain rfl:v=Value.ref d:=r1
 obtain⟨ho,hsys,hl,vs,es,ep,rel,hd,hsz,exd,hm⟩:=Aj4 I1 hz
 refine⟨"dict","dict.items",PySem.F.plainAttrs_dict,PySem.F.slot_dict_items,PySem.F.type_dict_items,⟨o,ho,exd.1⟩,fun b e=>by cases e;exact ⟨o,ho,exd.2.1⟩,Calls.callWith_builtin rfl (PySem.evalArgs_none ?_)⟩
 refine call_meetsIn PySem.F.slot_dict_items hm.dictOf.typeIs PySem.F.entry_dict_items (PySem.F.args_dict_items_1 _) (meets_dict_items (mixKind X.prog X.w) d hsys) ⟨⟨vs,hm.dictOf⟩,?_⟩
 have I2:Inv X Aa σ H1 { s1 with heap:=s1.heap.push { cls:=.type "dict_items",data:=.fields #[.ref d] } }:=I1.kept (t':=s1.toks) fun b ob z=>Heap.get?_push_of_some _ z
 have hm2:=hm.push { cls:=.type "dict_items",data:=.fields #[.ref d] }
 refine wpAny_pyIter_items (s:={ s1 with heap:=s1.heap.push { cls:=.type "dict_items",data:=.fields #[.ref d] } }) (v:=s1.heap.objs.size) (d:=d) ⟨_,Heap.get?_push_size _ rfl,rfl,rfl⟩ hm2 ?_
 have hsz2:(s1.heap.push { cls:=.type "dict_items",data:=.fields #[.ref d] }).objs.size=s1.heap.objs.size+1:=Heap.size_push ..
 refine⟨_,[_],_,Itm d o,H1,rfl,I2.kept (t':=s1.toks) fun b ob z=>Heap.get?_push_of_some _ z,Z2 d _ o hd,⟨.none,.none,?_⟩,fun b hb=>?_,q⟩
 . rw [hsz,rel.length]
   exact Heap.get?_push_size _ rfl
 . have z:b=(s1.heap.push { cls:=.type "dict_items",data:=.fields #[.ref d] }).objs.size:=by simpa using hb
   subst z
   exact I2.fpOk (Nat.le_refl _) (I2.hok.fresh (Nat.le_refl _))
section
variable {g:TG}{tc:TT}{te:TE}{D:Addr}{Q:Hp->Prop}{τ:St}{H:Hp}
theorem Rp {d:Addr}{o:Obj}{kvs:List (Key × V)} (Pv:Nat->List V->St->Hp->Prop) (h0:Pv 0 [] τ H) (hl:∀ i zs τ H,i<=kvs.length->Pv i zs τ H->H d=some (.frz o (.dK kvs)))
 (hs:∀ i k v zs τ H p,kvs[i]?=some (k,v)->Pv i zs τ H->H p=none->g (.ref p) τ (upd H p (.tup [kV k,v])) fun τ2 H2=>tc τ2 H2 fun b H3=>if b=true then te τ2 H3 fun y H4=>H4 D=some (.lst zs)/\zs.length<sizeLine/\Pv (i+1) (zs++[y]) τ2 (upd H4 D (.lst (zs++[y]))) else Pv (i+1) zs τ2 H3)
 (hd:∀ zs τ H,Pv kvs.length zs τ H->Q H):RunC (Itm d o) g tc te D Q τ H:=by
 refine⟨fun i m zs τ H=>m=kvs.length-i/\i<=kvs.length/\Pv i zs τ H,⟨kvs.length,by simp,Nat.zero_le _,h0⟩,?_⟩
 rintro i m zs τ H ⟨rfl,hi,pp⟩
 have q:=hl i zs τ H hi pp
 by_cases hlt:i<kvs.length
 . refine .inr ⟨⟨kvs,kvs[i].1,kvs[i].2,q,by simp [hlt]⟩,Pv (i+1),fun ys' τ' H' p'=>⟨kvs.length-(i+1),by omega,rfl,hlt,p'⟩,fun x H' y=>?_⟩
   obtain⟨p,k,v,hp,rfl,rfl,y⟩:=y
   exact hs i k v zs τ _ p (y kvs q) pp hp
 . have e:i=kvs.length:=by omega
   subst e
   exact .inl ⟨⟨kvs,q,Nat.le_refl _⟩,hd zs τ H pp⟩
theorem Aj6 {d:Addr}{o:Obj}{kvs:List (Key × V)}{g:TG}{tb:TS}{D:Ends}{σ:St}{H:Hp} (Pv:Nat->St->Hp->Prop) (h0:Pv 0 σ H) (hl:∀ i σ H,i<=kvs.length->Pv i σ H->H d=some (.frz o (.dK kvs)))
 (hs:∀ i k v σ H p,kvs[i]?=some (k,v)->Pv i σ H->H p=none->g (.ref p) σ (upd H p (.tup [kV k,v])) fun σ2 H2=>tb { D with nx:=Pv (i+1),ct:=Pv (i+1),bk:=D.nx } σ2 H2) (hd:∀ σ H,Pv kvs.length σ H->D.nx σ H) :
 ∃ W:Nat->Nat->St->Hp->Prop,(∃ m,W 0 m σ H)/\∀ i m σ H,W i m σ H →
   ((Itm d o).stop i H/\D.nx σ H)\/((Itm d o).go i H/\∃ N:St->Hp->Prop,(∀ σ' H',N σ' H'->∃ m',m'<m/\W (i+1) m' σ' H')/\∀ x H',(Itm d o).yld i H x H'->g x σ H' fun σ2 H2=>tb { D with nx:=N,ct:=N,bk:=D.nx } σ2 H2):=by
 refine⟨fun i m σ H=>m=kvs.length-i/\i<=kvs.length/\Pv i σ H,⟨kvs.length,by simp,Nat.zero_le _,h0⟩,?_⟩
 rintro i m σ H ⟨rfl,hi,pp⟩
 have q:=hl i σ H hi pp
 by_cases hlt:i<kvs.length
 . refine .inr ⟨⟨kvs,kvs[i].1,kvs[i].2,q,by simp [hlt]⟩,Pv (i+1),fun σ' H' p'=>⟨kvs.length-(i+1),by omega,rfl,hlt,p'⟩,fun x H' y=>?_⟩
   obtain⟨p,k,v,hp,rfl,rfl,y⟩:=y
   exact hs i k v σ _ p (y kvs q) pp hp
 . have e:i=kvs.length:=by omega
   subst e
   exact .inl ⟨⟨kvs,q,Nat.le_refl _⟩,hd σ H pp⟩
end
end L2
namespace L2
open PySem PySem.Spec PyProof.Rows PySem.SeqAt
theorem Tk {ms:List (Int × Int)}:((cK ms).map (·.1)).Nodup↔(ms.map (·.1)).Nodup:=by
 unfold cK List.Nodup
 rw [List.map_map,List.pairwise_map,List.pairwise_map]
 constructor
 . intro h;exact h.imp fun {a b} n z=>n (by simp [z])
 . intro h;exact h.imp fun {a b} n z=>n (by simpa using z)
section
variable {X:Cx}{Aa:List (Addr × Obj)}{σ:St}{H:Hp}{s:Shared}{a:Addr}{ms:List (Int × Int)}
end
section
variable {X:Cx}{n:Nat}{K:W.Frag}
end
end L2
namespace L2
open PySem PySem.Spec PyProof.Rows
theorem v7 {X:Cx}:F9 X (.type "dict") (fun xs H Q=>∃ a kvs,xs=[.ref a]/\Rd H a (.dK kvs)/\∀ p,H p=none->Q (.ref p) (upd H p (.dK kvs))):=by
 intro Aa s σ H xs us Q I r h
 obtain⟨a,kvs,rfl,e,q⟩:=h
 obtain⟨u,rfl,rx⟩:=Um r
 cases rx
 exact Av0 I e fun p s' hp I'=>⟨.ref p,_,I',rfl,q p hp⟩
theorem u1 {n c:Nat} (h:n+8<c):n+1<c:=by omega
def getI (ms:List (Int × Int)) (k:Int):Int:=(lookI ms k).getD 0
def putI (ms:List (Int × Int)) (k v:Int):List (Int × Int):=if (ms.any fun p=>decide (p.1=k))=true then ms.map (fun p=>if p.1=k then (p.1,v) else p) else ms++[(k,v)]
def Pb (ms:List (Int × Int)) (k:Int):List (Int × Int):=ms.filter fun p=>decide (p.1≠k)
theorem Bd0 (ms:List (Int × Int)) (k v:Int):putK (cK ms) (Sum.inl k) (V.int v)=cK (putI ms k v):=by
 unfold putK putI cK
 have e:((ms.map fun p=>((Sum.inl p.1:Key),V.int p.2)).any fun kv=>decide (kv.1=Sum.inl k))=(ms.any fun p=>decide (p.1=k)):=by
  rw [List.any_map]
  congr 1
  funext p
  simp
 rw [e]
 split
 . rw [List.map_map,List.map_map]
   congr 1
   funext p
   simp only [Function.comp]
   by_cases q:p.1=k
   . simp [q]
   . have q':¬(Sum.inl p.1:Key)=Sum.inl k:=fun z=>q (by simpa using z)
     simp [q]
 . simp
theorem A58 (ms:List (Int × Int)) (k:Int):V2 (cK ms) (Sum.inl k)=cK (Pb ms k):=by
 unfold V2 Pb cK
 rw [List.filter_map]
 congr 1
 congr 1
 funext p
 simp
theorem R3 (ms:List (Int × Int)) (k:Int):valV (cK ms) (Sum.inl k)=(lookI ms k).map V.int:=by
 unfold lookI cK valV
 rw [List.find?_map,Option.map_map,Option.map_map]
 have e:((fun p:Key × V=>decide (p.1=Sum.inl k)) ∘ fun p:Int × Int=>((Sum.inl p.1:Key),V.int p.2))=fun p:Int × Int=>decide (p.1=k):=by
  funext p
  simp
 rw [e]
 rfl
theorem A57 (ms:List (Int × Int)) (k:Int):((lookI ms k).map V.int).getD (V.int 0)=V.int (getI ms k):=by
 unfold getI
 cases lookI ms k<;>rfl
theorem Bm (p:Int × Int) (ms:List (Int × Int)) (k:Int):lookI (p::ms) k=if p.1=k then some p.2 else lookI ms k:=by
 unfold lookI
 by_cases q:p.1=k
 . rw [List.find?_cons_of_pos (by simpa using q),if_pos q];rfl
 . rw [List.find?_cons_of_neg (by simpa using q),if_neg q]
theorem Vk (ms:List (Int × Int)) (k v j:Int):lookI (putI ms k v) j=if j=k then some v else lookI ms j:=by
 have hs:∀ (ns:List (Int × Int)),lookI (ns.map (fun p=>if p.1=k then (p.1,v) else p)) j=if j=k then (lookI ns j).map (fun _=>v) else lookI ns j:=by
  intro ns
  induction ns with
  | nil=>simp [lookI]
  | cons p ns ih =>
    rw [List.map_cons,Bm,Bm,ih]
    by_cases e1:p.1=k
    . by_cases e2:j=k
      . simp [e1,e2]
      . have e3:¬k=j:=fun z=>e2 z.symm
        simp [e1,e2,e3]
    . by_cases e2:j=k
      . simp [e1,e2]
      . simp [e1,e2]
 have hn:∀ (ns:List (Int × Int)),(ns.any fun p=>decide (p.1=k))=(lookI ns k).isSome:=by
  intro ns
  induction ns with
  | nil=>rfl
  | cons p ns ih =>
    rw [List.any_cons,Bm,ih]
    by_cases e1:p.1=k<;>simp [e1]
 have ha:∀ (ns:List (Int × Int)),lookI (ns++[(k,v)]) j=(lookI ns j).or (if k=j then some v else none):=by
  intro ns
  induction ns with
  | nil=>simp [Bm,lookI]
  | cons p ns ih =>
    rw [List.cons_append,Bm,Bm,ih]
    by_cases e1:p.1=j<;>simp [e1]
 unfold putI
 rw [hn]
 cases q:lookI ms k with
 | some z =>
   simp only [Option.isSome_some,if_true]
   rw [hs]
   by_cases e:j=k
   . subst e;simp [q]
   . simp [e]
 | none =>
   simp only [Option.isSome_none,Bool.false_eq_true,if_false]
   rw [ha]
   by_cases e:j=k
   . subst e;simp [q]
   . have e':¬k=j:=fun z=>e z.symm
     simp [e,e']
theorem l6 (ms:List (Int × Int)) (k j:Int):lookI (Pb ms k) j=if j=k then none else lookI ms j:=by
 unfold Pb
 induction ms with
 | nil=>simp [lookI]
 | cons p ms ih =>
   rw [List.filter_cons,Bm]
   by_cases e1:p.1=k
   . rw [if_neg (by simpa using e1),ih]
     by_cases e2:j=k
     . simp [e2]
     . have e3:¬p.1=j:=fun z=>e2 (by rw [←z,e1])
       simp [e2,e3]
   . rw [if_pos (by simpa using e1),Bm,ih]
     by_cases e2:j=k
     . subst e2;simp [e1]
     . simp [e2]
end L2
namespace L2
open PySem PySem.Spec PyProof.Rows
inductive DA where
 | d (d:D) | dic
def RepA (K:W.Frag) (H:Hp) (v:V):DA->Prop
 | .d d=>Rep K H v d
 | .dic=>∃ a kvs,v=.ref a/\Rd H a (.dK kvs)
def isA (n:String):DA->Bool
 | .d d=>isD n d
 | .dic=>n=="dict"
theorem An6 {X:Cx}{K:W.Frag} (hK:X.K=K:=by rfl):F9 X (.builtin "isinstance") (fun xs H Q=>∃ x n d,xs=[x,.ty n]/\(n="int"\/n="bool"\/n="str"\/n="tuple"\/n="list"\/n="dict")/\RepA K H x d/\Q (.bl (isA n d)) H):=by
 subst hK
 intro Aa s σ H xs us Q I r h
 obtain⟨x,n,d,e,hn,hx,q⟩:=h
 cases d with
 | d d=>exact Ka Aa s σ H xs us Q I r ⟨x,n,d,e,hn,hx,q⟩
 | dic =>
   subst e
   obtain⟨a,kvs,rfl,hr⟩:=hx
   obtain⟨u,v,rfl,rx,rt⟩:=Ap6 r
   cases rt
   cases rx
   obtain⟨z,hd,vs,rel,o,es,ep,ho,ex,_⟩:=Pd I.hok hr
   rcases hn with rfl | rfl | rfl | rfl | rfl | rfl
   . exact PySem.IsiPair.dict_int ho ex.1 ⟨.bl false,H,I.tok _,rfl,q⟩
   . exact PySem.IsiPair.dict_bool ho ex.1 ⟨.bl false,H,I.tok _,rfl,q⟩
   . exact PySem.IsiPair.dict_str ho ex.1 ⟨.bl false,H,I.tok _,rfl,q⟩
   . exact PySem.IsiPair.dict_tuple ho ex.1 ⟨.bl false,H,I.tok _,rfl,q⟩
   . exact PySem.IsiPair.dict_list ho ex.1 ⟨.bl false,H,I.tok _,rfl,q⟩
   . exact PySem.IsiPair.dict_dict ho ex.1 ⟨.bl true,H,I,rfl,q⟩
end L2
namespace L2
open PySem PySem.Spec PyProof.Rows
section
variable {P:Program}{w:World}{K:W.Frag}{mg:Str->Option Value}{base:Heap}
end
section
variable {X:Cx}{x:Str}{ps:List Str}{j k:Nat}{sp:Sp}{p pos:Pos}{e:Expr}{es:List Expr}{t:TA}
end
end L2
namespace L2
open PySem PySem.Spec PyProof.Rows
mutual
def toPD:D->PyData
 | .non=>.none
 | .bl b=>.bool b
 | .int i=>.int i
 | .str x=>.str x
 | .tup ds=>.tuple (toPDs ds)
 | .lst ds=>.list (toPDs ds)
def toPDs:List D->List PyData
 | []=>[]
 | d::ds=>toPD d::toPDs ds
end
section
variable {X:Cx}{Aa:List (Addr × Obj)}{σ:St}{H:Hp}{s:Shared}
mutual
theorem Aq7 (I:Inv X Aa σ H s):∀ (d:D) {v:V}{u:Value},Rep X.K H v d->RelV v u->∃ as,Reads s.heap u (toPD d) as
 | .non,v,u,h,r=>by
   cases (show v=.non from h)
   obtain rfl:u=.none:=r
   exact ⟨_,.none⟩
 | .bl b,v,u,h,r=>by
   cases (show v=.bl b from h)
   obtain rfl:u=.bool b:=r
   exact ⟨_,.bool b⟩
 | .int i,v,u,h,r=>by
   cases (show v=.int i from h)
   obtain⟨t,rfl⟩:=r
   exact ⟨_,.int i t⟩
 | .str x,v,u,h,r=>by
   cases (show v=.str x from h)
   obtain⟨t,rfl⟩:=r
   exact ⟨_,.str x t⟩
 | .tup ds,v,u,h,r=>by
   obtain⟨a,vs,rfl,hq,hr⟩:=h
   obtain rfl:u=.ref a:=r
   obtain⟨its,rv,p,hz⟩:=I.tuple hq
   obtain⟨o,ho,hc,n,hd⟩:=(show s.heap.IsTuple a its.toArray from p)
   obtain⟨as,ra⟩:=readsAll_of I ds hr rv
   exact ⟨as,.tuple ho hc hd (by simpa using ra)⟩
 | .lst ds,v,u,h,r=>by
   obtain⟨a,vs,rfl,hq,hr⟩:=h
   obtain rfl:u=.ref a:=r
   obtain⟨its,rv,p,hz⟩:=I.list hq
   obtain⟨o,ho,hc,n,hd⟩:=p.isList
   obtain⟨as,ra⟩:=readsAll_of I ds hr rv
   exact ⟨a::as,.list ho hc hd (by simpa using ra)⟩
theorem readsAll_of (I:Inv X Aa σ H s):∀ (ds:List D) {vs:List V}{us:List Value},Reps X.K H vs ds->Vals vs us->∃ as,ReadsAll s.heap us (toPDs ds) as
 | [],vs,us,h,r=>by
   cases (show vs=[] from h)
   cases r
   exact ⟨_,.nil⟩
 | d::ds,vs,us,h,r=>by
   obtain⟨v,q,rfl,hv,hq⟩:=h
   cases r with
   | cons r1 r2 =>
     obtain⟨as,ra⟩:=Aq7 I d hv r1
     obtain⟨bs,rb⟩:=readsAll_of I ds hq r2
     exact ⟨_,.cons ra rb⟩
end
end
mutual
theorem Vx:∀ d:D,(toPD d).hasDict=false
 | .non=>rfl
 | .bl _=>rfl
 | .int _=>rfl
 | .str _=>rfl
 | .tup ds=>hasDict_toPDs ds
 | .lst ds=>hasDict_toPDs ds
theorem hasDict_toPDs:∀ ds:List D,PyData.hasDictAll (toPDs ds)=false
 | []=>rfl
 | d::ds=>by
   show ((toPD d).hasDict || PyData.hasDictAll (toPDs ds))=false
   rw [Vx d,hasDict_toPDs ds]
   rfl
end
end L2
namespace L2
open PySem PySem.Spec PyProof.Rows
inductive DE where
 | d (d:D) | nul
inductive TH where
 | one (e:DE) | rows (es:List DE)
def RepE (K:W.Frag) (H:Hp) (v:V):DE->Prop
 | .d d=>Rep K H v d
 | .nul=>∃ a,v=.ref a/\Rd H a (.dK [])
def Bd2 (K:W.Frag) (H:Hp):List V->List DE->Prop
 | [],[]=>True
 | v::vs,e::es=>RepE K H v e/\Bd2 K H vs es
 | _,_=>False
def RepT (K:W.Frag) (H:Hp) (v:V):TH->Prop
 | .one e=>RepE K H v e
 | .rows es=>∃ a vs,v=.ref a/\SqL K H a vs/\Bd2 K H vs es
def isE (n:String):DE->Bool
 | .d d=>isD n d
 | .nul=>n=="dict"
def isT (n:String):TH->Bool
 | .one e=>isE n e
 | .rows _=>n=="list"
section
variable {X:Cx}{K:W.Frag}
theorem Wm (hK:X.K=K:=by rfl):F9 X (.builtin "isinstance") (fun xs H Q=>∃ x n t,xs=[x,.ty n]/\(n="int"\/n="bool"\/n="str"\/n="tuple"\/n="list"\/n="dict")/\RepT K H x t/\Q (.bl (isT n t)) H):=by
 subst hK
 intro Aa s σ H xs us Q I r h
 obtain⟨x,n,t,e,hn,hx,q⟩:=h
 match t,hx,q with
 | .one (.d d),hx,q=>exact Ka Aa s σ H xs us Q I r ⟨x,n,d,e,hn,hx,q⟩
 | .one .nul,hx,q =>
   obtain⟨a,e2,hr⟩:=hx
   exact An6 (K:=X.K) rfl Aa s σ H xs us Q I r ⟨x,n,.dic,e,hn,⟨a,[],e2,hr⟩,q⟩
 | .rows es,hx,q =>
   subst e
   obtain⟨a,vs,rfl,hq,_⟩:=hx
   obtain⟨u,v,rfl,rx,rt⟩:=Ap6 r
   cases rt
   cases rx
   obtain⟨its,_,⟨o,_,e,c,_⟩,_⟩:=I.list hq
   have k:=Ax9 (K:=X.K) (d:=.lst []) hn
   exact PySem.W.kia_one PySem.W.kitx_list I.kIn ⟨o,e,c⟩ k (fun z=>nomatch z) fun tk=>⟨.bl (n=="list"),H,I.tok tk,rfl,q⟩
end
section
variable {X:Cx}{Aa:List (Addr × Obj)}{σ:St}{H:Hp}{s:Shared}
end
structure Fin (B k:Nat) (p:PyData):Prop where
 sh:p.showable=true
 le:p.shown.length<=B
 dp:p.depth<=k
end L2
namespace L2
open PySem PySem.Spec PyProof.Rows
section
variable {prog:Program}{w:World}{A:Around}{E:Value->Shared->Prop}
end
end L2
namespace L2
open PySem PySem.Spec PyProof.Rows
section
variable {prog:Program}{w:World}{A:Around}{R:Result->Shared->Prop}
end
end L2
namespace L2
open PySem PySem.Spec PyProof.Rows
end L2
namespace L2
open PySem PySem.Spec PyProof.Rows
end L2
namespace L2
open PySem PySem.Spec PyProof.Rows
theorem Ao1 (a:Value):argsOk "max" ⟨[a],[]⟩:=by unfold argsOk;kernel_rfl
section
variable {prog:Program}{w:World}{A:Around}{R:Result->Shared->Prop}
theorem Ag7 {I S:Addr}{fp:List Addr}{n:Nat}{P:Nat->Value->Prop}{St:Nat->Heap->Prop} (W:Walks prog w A.in1 I fp [I] n P St) (hSf:S ∉ fp) (hSI:S≠I) (ks:List Int) (hn:ks.length=n) (hn0:0<n) (hP:∀ i v,P i v->∃ x t,ks[i]?=some x/\v=.int x t) :
 ∀ (k i:Nat) (s:Shared) (c:Nat) (best:Array Value),n-i=k->i<=n->St i s.heap->s.heap.get? S=some { cls:=.type "list",dict:=none,data:=.seq best c,slots:=#[] } →
 ((i=0/\best=#[])\/∃ m t,best=#[.int m t,.int m t]/\0<i/\m∈ks.take i/\∀ x∈ks.take i,x<=m) →
 (∀ m t h' tk,m∈ks->(∀ x∈ks,x<=m)->(∀ b o,b≠I->b≠S->s.heap.get? b=some o->h'.get? b=some o)->R (.ok (.ret (.int m t))) { s with heap:=h',toks:=tk }) →
 codeAny (model prog w) A (.builtin "max.loop" ⟨[.ref I,.none,.ref S],[]⟩) R s:=by
 have hname:(toString "max"++toString ".loop":String)="max.loop":=by decide
 intro k
 induction k with
 | zero =>
   intro i s c best hk hi hst hS hb hR
   have hin:i=n:=by omega
   subst hin
   refine codeAny_builtin PySem.F.entry_max_loop ?_;rw [Around.under_plainId PySem.F.plain_max_loop _]
   show wpAny _ A.in1 (seqItems? (.ref S)>>=_) _ _ s;refine wpAny_bind (wpAny_seqItems hS rfl ?_)
   show wpAny _ A.in1 (tryCatch (pyNext (.ref I)) _>>=_) _ _ s;skip
   refine wpAny_bind (wpAny_tryCatch (W.done s _ _ hst fun h' tk hk'=>?_))
   have hS':=hk' S _ (by simpa using hSI) hS
   rcases hb with ⟨h0,rfl⟩|⟨m,t,rfl,_,hm1,hm2⟩
   . omega
   . show wpAny _ A.in1 (updateSeq S (fun _=>#[])>>=_) _ _ _
     refine wpAny_bind ?_
     refine wpAny_updateSeq hS' rfl (wpAny_bind (wpAny_letGo (wpAny_pure ?_)))
     rw [←hn,List.take_length] at hm1 hm2
     exact hR m t _ tk hm1 hm2 fun b o hbI hbS e=>(Heap.get?_update_other _ _ (Ne.symm hbS)).trans (hk' b o (by simpa using hbI) e)
 | succ k ih =>
   intro i s c best hk hi hst hS hb hR
   have hlt:i<n:=by omega
   refine codeAny_builtin PySem.F.entry_max_loop ?_;rw [Around.under_plainId PySem.F.plain_max_loop _]
   show wpAny _ A.in1 (seqItems? (.ref S)>>=_) _ _ s;refine wpAny_bind (wpAny_seqItems hS rfl ?_)
   show wpAny _ A.in1 (tryCatch (pyNext (.ref I)) _>>=_) _ _ s;skip
   refine wpAny_bind (wpAny_tryCatch (W.item i s _ _ hlt hst fun v h' tk hPv hst' hk'=>?_))
   have hS':=hk' S _ (by simpa using hSI) hS
   obtain⟨n1,t1,hx,rfl⟩:=hP i v hPv
   have htk:ks.take (i+1)=ks.take i++[n1]:=by rw [List.take_succ,hx];rfl
   have upS:∀ f:Array Value->Array Value,St (i+1) (h'.update S (Obj.mapSeq f)):=fun f=>W.frame _ _ _ hst' fun b hb o e=>(Heap.get?_update_other _ _ (fun z:S=b=>hSf (by rw [z];exact hb))).trans e
   have old:∀ (f:Array Value->Array Value) (b:Addr) (o:Obj),b≠I->b≠S->s.heap.get? b=some o->(h'.update S (Obj.mapSeq f)).get? b=some o:=fun f b o hbI hbS e=>(Heap.get?_update_other _ _ (Ne.symm hbS)).trans (hk' b o (by simpa using hbI) e)
   rcases hb with ⟨h0,rfl⟩|⟨n2,t2,rfl,hi0,hm1,hm2⟩
   . show wpAny _ A.in1 (updateSeq S (fun _=>#[.int n1 t1,.int n1 t1])>>=_) _ _ _
     refine wpAny_bind ?_
     refine wpAny_updateSeq hS' rfl ?_
     rw [hname]
     subst h0
     refine wpAny_pure ⟨plainId_quiet PySem.F.plain_max_loop _,ih 1 _ _ #[.int n1 t1,.int n1 t1] (by omega) hlt (upS _) (Heap.get?_update_self _ hS' rfl) (.inr ⟨n1,t1,rfl,by omega,by rw [htk];simp,fun x hx'=>?_⟩) fun m t h'' tk' a1 a2 kk=>?_⟩
     . rw [htk] at hx'
       simp at hx'
       omega
     . exact hR m t h'' tk' a1 a2 fun b o hbI hbS e=>kk b o hbI hbS (old _ b o hbI hbS e)
   . show wpAny _ A.in1 (tryCatch (holding [.int n1 t1,.int n1 t1] (richCompare .Gt (.int n1 t1) (.int n2 t2)>>=_)) _>>=_) _ _ _
     refine wpAny_bind (wpAny_tryCatch (wpAny_holding (wpAny_bind (CmpOf.ints_gt (prog:=prog) (w:=w) (A:=A.in1) (P:=fun i v=>∃ t,v=.int (if i=0 then n1 else n2) t) (fun i=>if i=0 then n1 else n2) (fun i v h=>h) 0 1 _ _ _ _ _ ⟨t1,rfl⟩ ⟨t2,rfl⟩ ?_))))
     refine wpAny_bind (wpAny_holding (wpAny_truthy_bool ?_))
     refine wpAny_bind (wpAny_letGo (wpAny_pure ?_))
     split
     . next hgt =>
       have hgt':n2<n1:=by simpa using hgt
       refine wpAny_bind ?_
       refine wpAny_updateSeq hS' rfl (wpAny_bind (wpAny_letGo ?_));rw [hname]
       refine wpAny_pure ⟨plainId_quiet PySem.F.plain_max_loop _,ih (i+1) _ _ #[.int n1 t1,.int n1 t1] (by omega) hlt (upS _) (Heap.get?_update_self _ hS' rfl) (.inr ⟨n1,t1,rfl,by omega,by rw [htk];simp,fun x hx'=>?_⟩) fun m t h'' tk' a1 a2 kk=>?_⟩
       . rw [htk] at hx'
         rcases List.mem_append.mp hx' with h1 | h1
         . have:=hm2 x h1;omega
         . simp at h1;omega
       . exact hR m t h'' tk' a1 a2 fun b o hbI hbS e=>kk b o hbI hbS (old _ b o hbI hbS e)
     . next hgt =>
       have hgt':n1<=n2:=by simpa using hgt
       refine wpAny_bind (wpAny_letGo ?_);rw [hname]
       refine wpAny_pure ⟨plainId_quiet PySem.F.plain_max_loop _,ih (i+1) _ _ #[.int n2 t2,.int n2 t2] (by omega) hlt hst' hS' (.inr ⟨n2,t2,rfl,by omega,by rw [htk];simp [hm1],fun x hx'=>?_⟩) fun m t h'' tk' a1 a2 kk=>?_⟩
       . rw [htk] at hx'
         rcases List.mem_append.mp hx' with h1 | h1
         . exact hm2 x h1
         . simp at h1;omega
       . exact hR m t h'' tk' a1 a2 fun b o hbI hbS e=>kk b o hbI hbS (hk' b o (by simpa using hbI) e)
end
end L2
namespace L2
open PySem PySem.Spec PyProof.Rows
theorem Pt {X:Cx} (hc:X.calm=true):F9 X (.builtin "max") (fun xs H Q=>∃ (p:Addr) (ks:List Int) (kvs:List (Key × V)),xs=[.ref p]/\H p=some (.dK kvs)/\kvs.map (·.1)=ks.map (fun k=>(.inl k:Key))/\ks≠[]/\∀ m,m∈ks->(∀ x∈ks,x<=m)->Q (.int m) H):=by
 intro Aa s σ H xs us Q I r h
 obtain⟨p,ks,kvs,rfl,hp,hk,hne,q⟩:=h
 obtain⟨u,rfl,ru⟩:=Um r
 cases ru
 have hh:X.A.handled=none:=I.ok.hd hc
 obtain⟨z,hsys,vs,rel,o,es,ep,ho,c⟩:=id (I.hok p _ hp)
 have hm:s.heap.DictAt (mixKind X.prog X.w) p vs ep:=⟨o,es,ho,c⟩
 have hl:ks.length=vs.length:=by rw [←rel.length];simpa using (congrArg List.length hk).symm
 have hll:p<s.heap.objs.size:=Heap.lt_size ho
 have hname:(toString "max"++toString ".loop":String)="max.loop":=by decide
 refine PyProof.Rows.kmk_tree PySem.F.kind_max PySem.F.plain_max PySem.F.entry_max (Ao1 _) ?_
 show wpAny _ X.A.in1 (Builtin.Builtins.bindParams "max" ["key","default"] 0 ⟨[],[]⟩>>=_) _ _ s
 refine wpAny_bind (wpAny_of_eq (show Builtin.Builtins.bindParams "max" ["key","default"] 0 ⟨[],[]⟩=pure [none,none] from rfl) ?_)
 refine wpAny_bind (wpAny_pure ?_)
 refine wpAny_bind (wpAny_pyIter_dict hsys hm ?_)
 refine wpAny_bind (wpAny_newList ?_ (Nat.zero_le _))
 rw [hname]
 have hS:(s.heap.push { cls:=.type "dict_keyiterator",data:=.fields #[.ref p,.int 0 0,.int vs.length 0,.int ep 0] }).objs.size=s.heap.objs.size+1:=Heap.size_push ..
 refine wpAny_pure ⟨plainId_quiet PySem.F.plain_max_loop _,?_⟩
 have hpI:p≠s.heap.objs.size:=Nat.ne_of_lt hll
 refine Ag7 (S:=(s.heap.push { cls:=.type "dict_keyiterator",data:=.fields #[.ref p,.int 0 0,.int vs.length 0,.int ep 0] }).objs.size) (Walks.dictKeys (prog:=X.prog) (w:=X.w) (A:=X.A.in1) (knd:=mixKind X.prog X.w) hh s.heap.objs.size p hpI vs ep) ?_ (by rw [hS];exact Nat.succ_ne_self _) ks hl (by rw [←hl];exact List.length_pos_iff.mpr hne) (fun i v ⟨k,x,e1,e2⟩=>?_) _ 0 _ 0 #[] rfl (Nat.zero_le _) ⟨?_,?_⟩ ?_ (.inl ⟨rfl,rfl⟩) fun m t h' tk a1 a2 kk=>?_
 . rw [hS]
   intro hq
   rcases List.mem_cons.mp hq with y | y
   . exact absurd y (Nat.succ_ne_self _)
   . have y2:s.heap.objs.size+1=p:=by simpa using y
     exact absurd hll (by rw [←y2];exact Nat.not_lt.mpr (Nat.le_succ _))
 . have e5:(vs.map (·.1))[i]?=some k:=by rw [List.getElem?_map,e1];rfl
   rw [←rel.keys,hk,List.getElem?_map] at e5
   cases hx:ks[i]? with
   | none=>rw [hx] at e5;cases e5
   | some n =>
     rw [hx] at e5
     cases e5
     obtain⟨t,ht⟩:=Bc0 (P:=X.prog) (w:=X.w) e2
     exact ⟨n,t,rfl,ht⟩
 . exact ⟨_,Heap.get?_push_of_some _ (Heap.get?_push_size _ rfl),rfl,rfl⟩
 . exact (hm.at' fun o e=>Heap.get?_push_of_some _ e).at' fun o e=>Heap.get?_push_of_some _ e
 . exact Heap.get?_push_size _ rfl
 . refine⟨.int m,H,I.kept fun b o e=>?_,⟨t,rfl⟩,q m a1 a2⟩
   have hb:=Heap.lt_size e
   exact kk b o (Nat.ne_of_lt hb) (by rw [hS];exact Nat.ne_of_lt (Nat.lt_succ_of_lt hb)) (Heap.get?_push_of_some _ (Heap.get?_push_of_some _ e))
end L2
namespace L2
open PySem PySem.Spec PyProof.Rows
structure HasM (P:Program) (w:World) (K:W.Frag) (mg:Str->Option Value) (base:Heap) (C:Addr) (m:Str) (ps:List Str) (k:Nat) (sp:Sp):Prop where
 ex:∃ (f:Addr) (fd:FuncData),Meth K C m f/\Kd K fd ps []/\FnOk P w K mg base CX0 k f fd ps sp
structure HasC (P:Program) (w:World) (K:W.Frag) (mg:Str->Option Value) (base:Heap) (C:Addr) (ps:List Str) (k:Nat) (sp:Sp):Prop where
 ex:∃ (f:Addr) (fd:FuncData),Mk K C f/\Kd K fd ps []/\FnOk P w K mg base CX0 k f fd ps sp
section
variable {X:Cx}{K:W.Frag}{j k:Nat}{C:Addr}{ps:List Str}{sp:Sp}{x m f:Str}{p pos apos pos':Pos}{e o value:Expr}{es:List Expr}{ta tv:TE}{t:TA}
theorem S7 {pl:Sem Bool} (he:PE X o ta) (c:Cls X.K C) (h:HasM X.prog X.w X.K X.mg X.base C m ps j sp) (hr:Room k X.A) (ha:PA X (e::es) t) (hk:j<=k:=by decide)
 (hst:starEach (e::es) X.env=(false,eval e X.env)::starEach es X.env:=by rfl) (hpl:(backTo pos (starEach es X.env)).any (·.1)=false:=by rfl)
 (ht:eval (.Call (.Attribute o m apos) (e::es) [] pos) X.env=(do
   let ov ←eval o X.env
   standAt apos.atName
   let (f,first) ←holding [ov] (getMethod ov m pl)
   callWith pos f first (backTo pos (starEach (e::es) X.env)) (backToKw pos (keywordEach [] X.env))):=by rfl) :
 PE X (.Call (.Attribute o m apos) (e::es) [] pos) (Ap8 C m sp [] E0 ta t):=by
 obtain⟨f,fd,h1,h2,h3⟩:=h.ex
 exact A12 he c h1 h3 (hr.mono hk) h2 .nil As1 ha hst hpl ht
theorem Ad4 {pl:Sem Bool} (he:PE X o ta) (c:Cls X.K C) (h:HasM X.prog X.w X.K X.mg X.base C m ps j sp) (hr:Room k X.A) (hk:j<=k:=by decide)
 (ht:eval (.Call (.Attribute o m apos) [] [] pos) X.env=(do
   let ov ←eval o X.env
   standAt apos.atName
   let (f,first) ←holding [ov] (getMethod ov m pl)
   callWith pos f first (backTo pos (starEach [] X.env)) (backToKw pos (keywordEach [] X.env))):=by rfl) :
 PE X (.Call (.Attribute o m apos) [] [] pos) (Ap8 C m sp [] E0 ta tNil):=by
 obtain⟨f,fd,h1,h2,h3⟩:=h.ex
 exact Ar4 he c h1 h3 (hr.mono hk) h2 .nil As1 ht
theorem Ar5 (h:HasC X.prog X.w X.K X.mg X.base C ps j sp) (hr:Room k X.A) (hg:Gl X x) (hm:X.mg x=some (.ref C)) (ha:PA X (e::es) t) (hk:j+1<=k:=by decide) (hdb:(x==("__debug__":Str))=false:=by decide)
 (he:starEach (e::es) X.env=(false,eval e X.env)::starEach es X.env:=by rfl) (hpl:(backTo pos (starEach es X.env)).any (·.1)=false:=by rfl):PE X (.Call (.Name x p) (e::es) [] pos) (A66 C sp [] E0 t):=by
 obtain⟨f,fd,h1,h2,h3⟩:=h.ex
 exact A13 h1 h3 (hr.mono hk) hg hm h2 .nil As1 ha hdb he hpl
theorem By (he:PE X e ta) (hK:X.K=K:=by rfl) (hb:attributeBase e f X.env (eval e X.env)=eval e X.env:=by rfl):PE X (.Attribute e f pos) (tFld K ta f):=by subst hK;exact A90 he hb
theorem Ot (ha:PE X o ta) (hv:PE X value tv) (hK:X.K=K:=by rfl) (hs:swapsWith value (some (.Attribute o f pos')) pos.line X.env=pure false:=by rfl):PS X (.Assign [.Attribute o f pos'] value pos) (sFld K ta tv f):=by subst hK;exact A82 ha hv hs
end
end L2
namespace L2
open PySem PySem.Spec PyProof.Rows
structure FunD (K:W.Frag) (x qual:Str) (st:Stmt) (f:Addr) (fd:FuncData) (ds:List Value):Prop where
 ex:∃ (oc:Value) (od:Option Addr) (kV doc pm:Value) (an:Option Addr) (Bu ct:Value) (osl:Array (Option Value)) (dt:Addr) (tn:Nat) (tsl:Array (Option Value)) (tdd:Option Addr),
  fd=PySem.W.fnOf x qual (Au st) (At st) (Ag st) (.ref dt) kV doc pm an Bu ct/\K.lookup f=some ⟨oc,od,.func fd,osl⟩/\PySem.W.codeIn K Bu qual=true/\K.lookup dt=some ⟨.type "tuple",tdd,.seq ds.toArray tn,tsl⟩
 kp:PySem.W.keepIn K (.ref f)=true
section
variable {P:Program}{w:World}{K:W.Frag}{mg:Str->Option Value}{base:Heap}{ds:List Value}
theorem FunD.ok {x qual:Str}{st:Stmt}{f:Addr}{fd:FuncData}{N ps:List Str}{k:Nat}{sp:Sp} (F:FunD K x qual st f fd ds) (S:FnScope N ps (Ag st)) (len:∀ vs H Q E,sp vs H Q E->vs.length=ps.length)
 (hbody:∀ (Bu:Value) (A:Around) (outer:List Env) (s:Shared) (H:Hp) (vs:List V) (Q:VK) (E:XK),Room k (A.deeper (envOfC qual (Ag st) s.heap.objs.size f Bu))->sp vs H Q E →
   ∃ t,PSs (cxOf CX0 P w K mg base N qual (Ag st) f Bu A outer s H E).nox (At st) t/\t { nx:=fun _ H'=>Q .non H',rt:=Q } (start N vs) H):FnOk P w K mg base CX0 (k+1) f fd ps sp:=by
 obtain⟨oc,od,kV,doc,pm,an,Bu,ct,osl,dt,tn,tsl,tdd,rfl,lk,hcd,_⟩:=F.ex
 refine Bc5 lk hcd S len fun A outer s H vs Q E hr hsp=>?_
 obtain⟨t,h,q⟩:=hbody Bu A outer s H vs Q E hr hsp
 exact ⟨t,h.nox,q⟩
theorem FunD.binds {x qual:Str}{st:Stmt}{f:Addr}{fd:FuncData}{ps:List Str}{dd:List Value} (F:FunD K x qual st f fd ds)
 (h:∀ (kV doc pm:Value) (an:Option Addr) (Bu ct:Value) (dt:Addr) (us:List Value),us.length+dd.length=ps.length →
   ∃ k:Option (Array Value)->Sem (List (Str × Value)),bindArgs (PySem.W.fnOf x qual (Au st) (At st) (Ag st) (.ref dt) kV doc pm an Bu ct) ⟨us,[]⟩=seqItems? (.ref dt)>>=k/\k (some ds.toArray)=pure (ps.zip (us++dd))):Kd K fd ps dd:=by
 obtain⟨oc,od,kV,doc,pm,an,Bu,ct,osl,dt,tn,tsl,tdd,rfl,lk,hcd,lt⟩:=F.ex
 intro s us X hl
 obtain⟨k,h1,h2⟩:=h kV doc pm an Bu ct dt us (by rw [←List.length_append];exact hl)
 exact .of_defaults rfl (X _ _ lt) rfl h1 h2
structure Bd4 (P:Program) (w:World) (K:W.Frag) (mg:Str->Option Value) (base:Heap) (C:Addr) (ps:List Str) (dvs:List V) (k:Nat) (sp:Sp):Prop where
 ex:∃ (f:Addr) (fd:FuncData) (ds:List Value),Mk K C f/\Kd K fd ps ds/\Vals dvs ds/\FnOk P w K mg base CX0 k f fd ps sp
end
end L2
namespace L2
open PySem PySem.Spec PyProof.Rows PySem.W
section
variable {prog:Program}{w:World}{A:Around}{E:Value->Shared->Prop}{h:Heap}{g:Array GenState}{d:Drawn}{t:Nat}{os:OsState}{a C dx:Addr}{o:Obj}{K:Frag}{cd:ClassData}{mA:Str->Option Value}{v:Value}{name:Str}
end
end L2
namespace L2
open PySem PySem.Spec PyProof.Rows PySem.W PySem.Builtin PySem.Builtin.ObjectAttr
section
variable {prog:Program}{w:World}{A:Around}{K:Frag}{s:Shared}{x C D:Addr}{R:Result->Shared->Prop}
end
section
variable {prog:Program}{w:World}{A:Around}{E:Value->Shared->Prop}{K:Frag}{s:Shared}{x C:Addr}
end
end L2
namespace L2
open PySem PySem.Spec PyProof.Rows PySem.W
section
variable {prog:Program}{w:World}{A:Around}{E:Value->Shared->Prop}{h:Heap}{g:Array GenState}{d:Drawn}{t:Nat}{os:OsState}{K:Frag}{C D f:Addr}{rest:List Value}
end
end L2
namespace L2
open PySem PySem.Spec PyProof.Rows PySem.W
section
variable {X:Cx}{K:Frag}
end
end L2
namespace L2
open PySem PySem.Spec PyProof.Rows PySem.W
section
variable {M:Model}{A:Around}{E:Value->Shared->Prop}{env:Env}
end
section
variable {P:Program}{w:World}{K:W.Frag}{mg:Str->Option Value}{base:Heap}{N:List Str}{qual:Str}{scope:Scope}{f:Addr}{cd:Value}{A:Around}{outer:List Env}{s:Shared}{H:Hp}{E:XK}
end
end L2
namespace L2
open PySem PySem.Spec PyProof.Rows PySem.W
section
variable {prog:Program}{w:World}{A:Around}{E:Value->Shared->Prop}{h:Heap}{g:Array GenState}{d:Drawn}{t:Nat}{os:OsState}{a C dx:Addr}{o:Obj}{K:Frag}{mA:Str->Option Value}{v:Value}{name:Str}
end
section
variable {X:Cx}{K:Frag}
end
end L2
namespace L2
open PySem PySem.Spec PyProof.Rows PySem.W
section
variable {X:Cx}{K:Frag}
end
end L2
namespace Hb
def sumN (f:Nat->Int):Nat->Int
 | 0=>0
 | n+1=>sumN f n+f n
theorem A0 {f g:Nat->Int}:∀{n:Nat},(∀ k,k<n->f k=g k)->sumN f n=sumN g n
 | 0,_=>rfl
 | n+1,h=>by
   show sumN f n+f n=sumN g n+g n
   rw [A0 fun k hk=>h k (by omega),h n (by omega)]
theorem Nt:∀ n:Nat,sumN (fun _=>0) n=0
 | 0=>rfl
 | n+1=>by show sumN _ n+0=0;rw [Nt n];rfl
theorem Kg (f g:Nat->Int):∀ n:Nat,sumN (fun k=>f k+g k) n=sumN f n+sumN g n
 | 0=>rfl
 | n+1=>by
   show sumN _ n+(f n+g n)=(sumN f n+f n)+(sumN g n+g n)
   rw [Kg f g n]
   omega
theorem E3 (c:Int) (f:Nat->Int):∀ n:Nat,sumN (fun k=>c*f k) n=c*sumN f n
 | 0=>by show (0:Int)=c*0;rw [Int.mul_zero]
 | n+1=>by
   show sumN _ n+c*f n=c*(sumN f n+f n)
   rw [E3 c f n,Int.mul_add]
theorem Nu (c:Int) (f:Nat->Int) (n:Nat):sumN (fun k=>f k*c) n=sumN f n*c:=by
 rw [Int.mul_comm,←E3]
 exact A0 fun k _=>Int.mul_comm ..
theorem Kf (f:Nat->Nat->Int) (m:Nat):∀ n:Nat,sumN (fun i=>sumN (f i) m) n=sumN (fun j=>sumN (fun i=>f i j) n) m
 | 0=>(Nt m).symm
 | n+1=>by
   show sumN _ n+sumN (f n) m=sumN (fun j=>sumN (fun i=>f i j) n+f n j) m
   rw [Kf f m n,Kg]
theorem Ii (f:Nat->Int) (i:Nat):∀ n:Nat,sumN (fun k=>(if k=i then 1 else 0)*f k) n=if i<n then f i else 0
 | 0=>by simp [sumN]
 | n+1=>by
   show sumN _ n+(if n=i then 1 else 0)*f n=_
   rw [Ii f i n]
   by_cases h:n=i
   . subst h;simp
   . by_cases h2:i<n
     . rw [if_pos h2,if_neg h,if_pos (by omega)];omega
     . rw [if_neg h2,if_neg h,if_neg (by omega)];omega
end Hb
namespace Hb
open PySem L2
abbrev Ms:=List (Int × Int)
def nd (ms:Ms):Prop:=(ms.map (·.1)).Nodup
def nz (ms:Ms):Prop:=∀ p∈ms,p.2≠0
def addI (ms:Ms) (k n:Int):Ms:=if getI ms k+n=0 then Pb ms k else putI ms k (getI ms k+n)
def De (ms ns:Ms):Ms:=ns.foldl (fun acc p=>addI acc p.1 p.2) ms
def A5 (n:Int) (ms:Ms):Ms:=if n=0 then [] else ms.map fun p=>(p.1,n*p.2)
theorem Vl {ms:Ms}{k v:Int} (h:lookI ms k=some v):(k,v)∈ms:=by
 induction ms with
 | nil=>simp [lookI] at h
 | cons p ms ih =>
   rw [Bm] at h
   by_cases e:p.1=k
   . rw [if_pos e] at h
     have:p=(k,v):=by cases p;simp_all
     rw [this];exact List.mem_cons_self ..
   . rw [if_neg e] at h
     exact List.mem_cons_of_mem _ (ih h)
theorem Ah0 {ms:Ms}{k:Int} (h:k ∉ ms.map (·.1)):lookI ms k=none:=by
 cases e:lookI ms k with
 | none=>rfl
 | some v=>exact absurd (List.mem_map_of_mem (f:=(·.1)) (Vl e)) h
theorem Zl {ms:Ms} (h:nd ms) {p:Int × Int} (hp:p∈ms):lookI ms p.1=some p.2:=by
 induction ms with
 | nil=>cases hp
 | cons q ms ih =>
   rw [Bm]
   unfold nd at h
   rw [List.map_cons,List.nodup_cons] at h
   rcases List.mem_cons.mp hp with rfl | hp
   . rw [if_pos rfl]
   . have:¬q.1=p.1:=fun z=>h.1 (by rw [z];exact List.mem_map_of_mem (f:=(·.1)) hp)
     rw [if_neg this]
     exact ih h.2 hp
theorem Cb {ms:Ms}{k:Int} (h:k ∉ ms.map (·.1)):getI ms k=0:=by unfold getI;rw [Ah0 h];rfl
theorem Ht (p:Int × Int) (ms:Ms) (k:Int):getI (p::ms) k=if p.1=k then p.2 else getI ms k:=by
 unfold getI;rw [Bm];split<;>rfl
theorem At8 {ms:Ms} (h:nz ms) (k:Int):lookI ms k=if getI ms k=0 then none else some (getI ms k):=by
 unfold getI
 cases e:lookI ms k with
 | none=>rfl
 | some v =>
   have:=h _ (Vl e)
   show some v=if v=0 then none else some v
   rw [if_neg this]
theorem Ax7:∀ (l1 l2:List Int),l1.Nodup->(∀ x∈l1,x∈l2)->l1.length<=l2.length
 | [],l2,_,_=>Nat.zero_le _
 | x::l1,l2,h,hs=>by
   rw [List.nodup_cons] at h
   have hx:=hs x (List.mem_cons_self ..)
   have:=Ax7 l1 (l2.erase x) h.2 fun y hy=>by
    have ne:y≠x:=fun z=>h.1 (z▸hy)
    exact (List.mem_erase_of_ne ne).mpr (hs y (List.mem_cons_of_mem _ hy))
   have e:=List.length_erase_of_mem hx
   have:0<l2.length:=List.length_pos_of_mem hx
   rw [List.length_cons]
   omega
theorem A31 {ms:Ms} (h:nd ms) (k:Int):nd (Pb ms k):=by
 unfold nd Pb at *
 exact List.Nodup.sublist (List.Sublist.map _ List.filter_sublist) h
theorem A29 {ms:Ms} (h:nz ms) (k:Int):nz (Pb ms k):=fun p hp=>h p (List.mem_filter.mp hp).1
theorem Ao2 {ms:Ms}{k:Int}:(ms.any fun p=>decide (p.1=k))=true↔k∈ms.map (·.1):=by
 rw [List.any_eq_true,List.mem_map]
 constructor
 . rintro ⟨p,hp,e⟩;exact ⟨p,hp,by simpa using e⟩
 . rintro ⟨p,hp,e⟩;exact ⟨p,hp,by simpa using e⟩
theorem Ax4 {ms:Ms} (h:nd ms) (k v:Int):nd (putI ms k v):=by
 unfold nd putI at *
 split
 . rw [List.map_map]
   have e:((fun p:Int × Int=>p.1) ∘ fun p:Int × Int=>if p.1=k then (p.1,v) else p)=(·.1):=by
    funext p
    simp only [Function.comp]
    split<;>rfl
   rw [e];exact h
 . rename_i hn
   rw [Ao2] at hn
   rw [List.map_append,List.nodup_append]
   refine⟨h,by simp,fun a ha b hb e=>?_⟩
   have:b=k:=by simpa using hb
   exact hn (by rw [←this,←e];exact ha)
theorem Ag5 {ms:Ms}{k v:Int}{p:Int × Int} (hp:p∈putI ms k v):p∈ms\/p=(k,v):=by
 unfold putI at hp
 split at hp
 . obtain⟨q,hq,e⟩:=List.mem_map.mp hp
   by_cases z:q.1=k
   . rw [if_pos z] at e;right;rw [←e,z]
   . rw [if_neg z] at e;left;rw [←e];exact hq
 . rcases List.mem_append.mp hp with h | h
   . exact .inl h
   . exact .inr (by simpa using h)
theorem A34 (ms:Ms) (k v:Int):(putI ms k v).length<=ms.length+1:=by
 unfold putI
 split
 . rw [List.length_map];omega
 . rw [List.length_append];simp
theorem At9 (ms:Ms) (k:Int):(Pb ms k).length<=ms.length:=List.length_filter_le ..
theorem A97 {ms:Ms} (h:nz ms) {k v:Int} (hv:v≠0):nz (putI ms k v):=fun p hp=>by
 rcases Ag5 hp with q | q
 . exact h p q
 . rw [q];exact hv
theorem Ax5 {ms:Ms} (h:nd ms) (k n:Int):nd (addI ms k n):=by unfold addI;split;exact A31 h k;exact Ax4 h k _
theorem A98 {ms:Ms} (h:nz ms) (k n:Int):nz (addI ms k n):=by
 unfold addI
 split
 . exact A29 h k
 . rename_i q;exact A97 h q
theorem X9 (ms:Ms) (k n:Int):(addI ms k n).length<=ms.length+1:=by
 unfold addI
 split
 . have:=At9 ms k;omega
 . exact A34 ..
theorem Aj3 (ms:Ms) (k n j:Int):getI (addI ms k n) j=if j=k then getI ms j+n else getI ms j:=by
 unfold addI
 split
 . rename_i q
   unfold getI at *
   rw [l6]
   by_cases e:j=k
   . subst e;simp;omega
   . simp [e]
 . unfold getI at *
   rw [Vk]
   by_cases e:j=k
   . subst e;simp
   . simp [e]
theorem Jz:∀ (ns ms:Ms),nd ms->nz ms->nd ns->nd (De ms ns)/\nz (De ms ns)/\(De ms ns).length<=ms.length+ns.length/\∀ j,getI (De ms ns) j=getI ms j+getI ns j
 | [],ms,h1,h2,_=>⟨h1,h2,by simp [De],fun j=>by simp [De,getI,lookI]⟩
 | p::ns,ms,h1,h2,h3=>by
   unfold nd at h3
   rw [List.map_cons,List.nodup_cons] at h3
   obtain⟨r1,r2,r3,r4⟩:=Jz ns (addI ms p.1 p.2) (Ax5 h1 _ _) (A98 h2 _ _) h3.2
   refine⟨r1,r2,?_,fun j=>?_⟩
   . have:=X9 ms p.1 p.2
     show (De (addI ms p.1 p.2) ns).length<=_
     rw [List.length_cons];omega
   . show getI (De (addI ms p.1 p.2) ns) j=_
     rw [r4,Aj3,Ht]
     by_cases e:j=p.1
     . have:=Cb h3.1
       subst e
       simp [this]
     . have e':¬p.1=j:=fun z=>e z.symm
       simp [e,e']
def Ac1 (f:Int->Int) (n:Nat):Ms:=(List.range n).map fun (i:Nat)=>((i:Int),f (i:Int))
theorem Iq {ms:Ms} (h:nd ms) (n:Int):nd (ms.map fun p=>(p.1,n*p.2)):=by
 unfold nd at *
 rw [List.map_map]
 exact h
end Hb
namespace Hb
open PySem L2
theorem Nn:∀ (ns ms:Ms),(De ms ns).length<=ms.length+ns.length
 | [],ms=>by simp [De]
 | p::ns,ms=>by
   have h1:=Nn ns (addI ms p.1 p.2)
   have h2:=X9 ms p.1 p.2
   show (De (addI ms p.1 p.2) ns).length<=_
   rw [List.length_cons];omega
theorem Ad1 {ms ns:Ms}{i:Nat}{q:Int × Int} (h:ns[i]?=some q):De ms (ns.take (i+1))=addI (De ms (ns.take i)) q.1 q.2:=by
 unfold De
 rw [List.take_add_one,h,List.foldl_append]
 rfl
theorem range_succ (f:Int->Int) (n:Nat):Ac1 f (n+1)=Ac1 f n++[((n:Int),f n)]:=by
 unfold Ac1
 rw [List.range_succ,List.map_append]
 rfl
end Hb
namespace Hb
def Al (w:List Int) (fam:Int):List (List Int) :=
 if fam=0 then (if w.length<2 then [] else (List.range w.length).map fun i=>w.take i++w.drop (i+1))
 else if w.length=0 then []
 else if fam<0 then (if w.length=1 then [[],[]] else w.map fun l=>[l])
 else w.drop 1::((List.range (w.length-1)).map fun i=>w.take i++[(w.getD i 0+w.getD (i+1) 0)%fam]++w.drop (i+2))++[w.take (w.length-1)]
def Word (fam:Int) (w:List Int):Prop :=
 (fam=0/\1<=w.length/\w.length<=4)\/(fam<0/\(w.length=0\/w.length=1\/w.length=3))\/(0<fam/\w.length<=3)
def lv (fam:Int) (w:List Int):Nat:=if fam=0 then w.length-1 else if fam<0 then (if w.length=3 then 2 else w.length) else w.length
theorem K7 {fam:Int}{w:List Int} (h:Word fam w) :
 (fam=0/\((∃ a,w=[a])\/(∃ a b,w=[a,b])\/(∃ a b c,w=[a,b,c])\/∃ a b c d,w=[a,b,c,d])) ∨
 (fam<0/\(w=[]\/(∃ a,w=[a])\/∃ a b c,w=[a,b,c])) ∨
 (0<fam/\(w=[]\/(∃ a,w=[a])\/(∃ a b,w=[a,b])\/∃ a b c,w=[a,b,c])):=by
 rcases h with ⟨h0,h1,h2⟩|⟨h0,h1⟩|⟨h0,h1⟩
 . left
   refine⟨h0,?_⟩
   match w,h1,h2 with
   | [a],_,_=>exact .inl ⟨a,rfl⟩
   | [a,b],_,_=>exact .inr (.inl ⟨a,b,rfl⟩)
   | [a,b,c],_,_=>exact .inr (.inr (.inl ⟨a,b,c,rfl⟩))
   | [a,b,c,d],_,_=>exact .inr (.inr (.inr ⟨a,b,c,d,rfl⟩))
   | _::_::_::_::_::_,_,h=>simp at h
 . right;left
   refine⟨h0,?_⟩
   match w,h1 with
   | [],_=>exact .inl rfl
   | [a],_=>exact .inr (.inl ⟨a,rfl⟩)
   | [a,b],h=>simp at h
   | [a,b,c],_=>exact .inr (.inr ⟨a,b,c,rfl⟩)
   | _::_::_::_::_,h=>simp at h
 . right;right
   refine⟨h0,?_⟩
   match w,h1 with
   | [],_=>exact .inl rfl
   | [a],_=>exact .inr (.inl ⟨a,rfl⟩)
   | [a,b],_=>exact .inr (.inr (.inl ⟨a,b,rfl⟩))
   | [a,b,c],_=>exact .inr (.inr (.inr ⟨a,b,c,rfl⟩))
   | _::_::_::_::_,h=>simp at h
theorem f0_1 (a:Int):Al [a] 0=[]:=rfl
theorem f0_2 (a b:Int):Al [a,b] 0=[[b],[a]]:=rfl
theorem f0_3 (a b c:Int):Al [a,b,c] 0=[[b,c],[a,c],[a,b]]:=rfl
theorem f0_4 (a b c d:Int):Al [a,b,c,d] 0=[[b,c,d],[a,c,d],[a,b,d],[a,b,c]]:=rfl
section
variable {fam:Int}
theorem fn_0 (h:fam<0):Al [] fam=[]:=by unfold Al;rw [if_neg (by omega),if_pos (by simp)]
theorem fn_1 (h:fam<0) (a:Int):Al [a] fam=[[],[]]:=by unfold Al;rw [if_neg (by omega),if_neg (by simp),if_pos h,if_pos (by simp)]
theorem fn_3 (h:fam<0) (a b c:Int):Al [a,b,c] fam=[[a],[b],[c]]:=by unfold Al;rw [if_neg (by omega),if_neg (by simp),if_pos h,if_neg (by simp)];rfl
theorem fp_0 (h:0<fam):Al [] fam=[]:=by unfold Al;rw [if_neg (by omega),if_pos (by simp)]
theorem fp_1 (h:0<fam) (a:Int):Al [a] fam=[[],[]]:=by unfold Al;rw [if_neg (by omega),if_neg (by simp),if_neg (by omega)];rfl
theorem fp_2 (h:0<fam) (a b:Int):Al [a,b] fam=[[b],[(a+b)%fam],[a]]:=by unfold Al;rw [if_neg (by omega),if_neg (by simp),if_neg (by omega)];rfl
theorem fp_3 (h:0<fam) (a b c:Int):Al [a,b,c] fam=[[b,c],[(a+b)%fam,c],[a,(b+c)%fam],[a,b]]:=by unfold Al;rw [if_neg (by omega),if_neg (by simp),if_neg (by omega)];rfl
theorem Iy {w f:List Int} (h:Word fam w) (hf:f∈Al w fam):Word fam f/\lv fam f+1=lv fam w:=by
 rcases K7 h with ⟨h0,⟨a,rfl⟩|⟨a,b,rfl⟩|⟨a,b,c,rfl⟩|⟨a,b,c,d,rfl⟩⟩|⟨h0,rfl|⟨a,rfl⟩|⟨a,b,c,rfl⟩⟩|⟨h0,rfl|⟨a,rfl⟩|⟨a,b,rfl⟩|⟨a,b,c,rfl⟩⟩
 . subst h0;rw [f0_1] at hf;exact nomatch hf
 . subst h0;rw [f0_2] at hf
   simp only [List.mem_cons,List.not_mem_nil,or_false] at hf
   rcases hf with rfl | rfl<;>simp [Word,lv]
 . subst h0;rw [f0_3] at hf
   simp only [List.mem_cons,List.not_mem_nil,or_false] at hf
   rcases hf with rfl | rfl | rfl<;>simp [Word,lv]
 . subst h0;rw [f0_4] at hf
   simp only [List.mem_cons,List.not_mem_nil,or_false] at hf
   rcases hf with rfl | rfl | rfl | rfl<;>simp [Word,lv]
 . rw [fn_0 h0] at hf;exact nomatch hf
 . rw [fn_1 h0] at hf
   simp only [List.mem_cons,List.not_mem_nil,or_false,or_self] at hf
   subst hf
   have e:¬fam=0:=by omega
   simp [Word,lv,h0,e]
 . rw [fn_3 h0] at hf
   have e:¬fam=0:=by omega
   simp only [List.mem_cons,List.not_mem_nil,or_false] at hf
   rcases hf with rfl | rfl | rfl<;>simp [Word,lv,h0,e]
 . rw [fp_0 h0] at hf;exact nomatch hf
 . rw [fp_1 h0] at hf
   have e:¬fam=0:=by omega
   have e':¬fam<0:=by omega
   simp only [List.mem_cons,List.not_mem_nil,or_false,or_self] at hf
   subst hf
   simp [Word,lv,h0,e,e']
 . rw [fp_2 h0] at hf
   have e:¬fam=0:=by omega
   have e':¬fam<0:=by omega
   simp only [List.mem_cons,List.not_mem_nil,or_false] at hf
   rcases hf with rfl | rfl | rfl<;>simp [Word,lv,h0,e,e']
 . rw [fp_3 h0] at hf
   have e:¬fam=0:=by omega
   have e':¬fam<0:=by omega
   simp only [List.mem_cons,List.not_mem_nil,or_false] at hf
   rcases hf with rfl | rfl | rfl | rfl<;>simp [Word,lv,h0,e,e']
theorem Fh {w:List Int} (h:Word fam w):(Al w fam).length=(if lv fam w=0 then 0 else lv fam w+1)/\lv fam w<=3:=by
 rcases K7 h with ⟨h0,⟨a,rfl⟩|⟨a,b,rfl⟩|⟨a,b,c,rfl⟩|⟨a,b,c,d,rfl⟩⟩|⟨h0,rfl|⟨a,rfl⟩|⟨a,b,c,rfl⟩⟩|⟨h0,rfl|⟨a,rfl⟩|⟨a,b,rfl⟩|⟨a,b,c,rfl⟩⟩
 . subst h0;simp [f0_1,lv]
 . subst h0;simp [f0_2,lv]
 . subst h0;simp [f0_3,lv]
 . subst h0;simp [f0_4,lv]
 all_goals have e:¬fam=0:=by omega
 . simp [fn_0 h0,lv,e,h0]
 . simp [fn_1 h0,lv,e,h0]
 . simp [fn_3 h0,lv,e,h0]
 all_goals have e':¬fam<0:=by omega
 . simp [fp_0 h0,lv,e,e']
 . simp [fp_1 h0,lv,e,e']
 . simp [fp_2 h0,lv,e,e']
 . simp [fp_3 h0,lv,e,e']
theorem faces_agree {w f g:List Int}{i j:Nat} (h:Word fam w) (hl:2<=lv fam w) (hij:i<j) (hf:(Al w fam)[j]?=some f) (hg:(Al w fam)[i]?=some g):(Al f fam)[i]?=(Al g fam)[j-1]?:=by
 have hj:j<(Al w fam).length:=(List.getElem?_eq_some_iff.mp hf).1
 rcases K7 h with ⟨h0,⟨a,rfl⟩|⟨a,b,rfl⟩|⟨a,b,c,rfl⟩|⟨a,b,c,d,rfl⟩⟩|⟨h0,rfl|⟨a,rfl⟩|⟨a,b,c,rfl⟩⟩|⟨h0,rfl|⟨a,rfl⟩|⟨a,b,rfl⟩|⟨a,b,c,rfl⟩⟩
 . subst h0;simp [lv] at hl
 . subst h0;simp [lv] at hl
 . subst h0
   rw [f0_3] at hf hg hj
   have hc:(i=0/\j=1)\/(i=0/\j=2)\/(i=1/\j=2):=by simp at hj;omega
   rcases hc with ⟨rfl,rfl⟩|⟨rfl,rfl⟩|⟨rfl,rfl⟩
   . simp at hf hg;subst hf hg;rfl
   . simp at hf hg;subst hf hg;rfl
   . simp at hf hg;subst hf hg;rfl
 . subst h0
   rw [f0_4] at hf hg hj
   have hc:(i=0/\j=1)\/(i=0/\j=2)\/(i=0/\j=3)\/(i=1/\j=2)\/(i=1/\j=3)\/(i=2/\j=3):=by simp at hj;omega
   rcases hc with ⟨rfl,rfl⟩|⟨rfl,rfl⟩|⟨rfl,rfl⟩|⟨rfl,rfl⟩|⟨rfl,rfl⟩|⟨rfl,rfl⟩
   . simp at hf hg;subst hf hg;rfl
   . simp at hf hg;subst hf hg;rfl
   . simp at hf hg;subst hf hg;rfl
   . simp at hf hg;subst hf hg;rfl
   . simp at hf hg;subst hf hg;rfl
   . simp at hf hg;subst hf hg;rfl
 all_goals have e:¬fam=0:=by omega
 . simp [lv,e,h0] at hl
 . simp [lv,e,h0] at hl
 . rw [fn_3 h0] at hf hg hj
   have hc:(i=0/\j=1)\/(i=0/\j=2)\/(i=1/\j=2):=by simp at hj;omega
   rcases hc with ⟨rfl,rfl⟩|⟨rfl,rfl⟩|⟨rfl,rfl⟩
   . simp at hf hg;subst hf hg;simp [fn_1 h0]
   . simp at hf hg;subst hf hg;simp [fn_1 h0]
   . simp at hf hg;subst hf hg;simp [fn_1 h0]
 all_goals have e':¬fam<0:=by omega
 . simp [lv,e,e'] at hl
 . simp [lv,e,e'] at hl
 . rw [fp_2 h0] at hf hg hj
   have hc:(i=0/\j=1)\/(i=0/\j=2)\/(i=1/\j=2):=by simp at hj;omega
   rcases hc with ⟨rfl,rfl⟩|⟨rfl,rfl⟩|⟨rfl,rfl⟩
   . simp at hf hg;subst hf hg;simp [fp_1 h0]
   . simp at hf hg;subst hf hg;simp [fp_1 h0]
   . simp at hf hg;subst hf hg;simp [fp_1 h0]
 . rw [fp_3 h0] at hf hg hj
   have hc:(i=0/\j=1)\/(i=0/\j=2)\/(i=0/\j=3)\/(i=1/\j=2)\/(i=1/\j=3)\/(i=2/\j=3):=by simp at hj;omega
   rcases hc with ⟨rfl,rfl⟩|⟨rfl,rfl⟩|⟨rfl,rfl⟩|⟨rfl,rfl⟩|⟨rfl,rfl⟩|⟨rfl,rfl⟩
   . simp at hf hg;subst hf hg;simp [fp_2 h0]
   . simp at hf hg;subst hf hg;simp [fp_2 h0]
   . simp at hf hg;subst hf hg;simp [fp_2 h0]
   . skip
     simp at hf hg;subst hf hg
     simp only [fp_2 h0,List.getElem?_cons_succ,List.getElem?_cons_zero,Nat.add_one_sub_one]
     congr 2
     rw [Int.add_emod_emod,Int.emod_add_emod,Int.add_assoc]
   . simp at hf hg;subst hf hg;simp [fp_2 h0]
   . simp at hf hg;subst hf hg;simp [fp_2 h0]
end
def lev (p:List Int):Nat:=p.length-1
structure Fits (xs:List (List Int)) (p:List Int):Prop where
 cnt:p.length=0\/p.length=2\/p.length=3\/p.length=4
 low:∀ f∈p,0<=f
 bel:∀ f∈p,∃ q,xs[f.toNat]?=some q/\lev q+1=lev p
 agr:3<=p.length->∀ (i j:Nat) (f g:Int) (q r:List Int),i<j->p[j]?=some f->p[i]?=some g->xs[f.toNat]?=some q->xs[g.toNat]?=some r->q[i]?=r[j-1]?
def Cg (xs:List (List Int)):Prop:=∀ (k:Nat) (p:List Int),xs[k]?=some p->Fits (xs.take k) p
def Ord (fam:Int) (ws:List (List Int)):Prop:=∀ (k:Nat) (w:List Int),ws[k]?=some w->Word fam w/\∀ f∈Al w fam,f∈ws.take k
theorem Ord.nil {fam:Int}:Ord fam []:=fun k w h=>by simp at h
theorem Ord.snoc {fam:Int}{ws:List (List Int)}{w:List Int} (h:Ord fam ws) (hw:Word fam w) (hf:∀ f∈Al w fam,f∈ws):Ord fam (ws++[w]):=by
 intro k v hk
 by_cases hlt:k<ws.length
 . rw [List.getElem?_append_left hlt] at hk
   rw [List.take_append_of_le_length (by omega)]
   exact h k v hk
 . have hk':k<(ws++[w]).length:=(List.getElem?_eq_some_iff.mp hk).1
   have e:k=ws.length:=by simp at hk';omega
   subst e
   simp at hk
   subst hk
   rw [List.take_append_of_le_length (Nat.le_refl _),List.take_length]
   exact ⟨hw,hf⟩
theorem Ord.mem {fam:Int}{ws:List (List Int)} (h:Ord fam ws) {w:List Int} (hw:w∈ws):Word fam w/\∀ f∈Al w fam,f∈ws:=by
 obtain⟨k,hk⟩:=List.getElem?_of_mem hw
 obtain⟨h1,h2⟩:=h k w hk
 exact ⟨h1,fun f hf=>List.mem_of_mem_take (h2 f hf)⟩
def C7 (ws:List (List Int)):List (List Int)->List (List Int)
 | []=>ws
 | w::r=>C7 (if w∈ws then ws else ws++[w]) r
theorem Sa:∀ (rows ws:List (List Int)),(C7 ws rows).length<=ws.length+rows.length
 | [],ws=>by simp [C7]
 | w::r,ws=>by
   have h1:=Sa r (if w∈ws then ws else ws++[w])
   have h2:(if w∈ws then ws else ws++[w]).length<=ws.length+1:=by
    split
    . omega
    . simp
   simp only [C7,List.length_cons]
   omega
theorem R9 {fam:Int}:∀ (rows ws:List (List Int)),Ord fam ws->(∀ (k:Nat) (w:List Int),rows[k]?=some w->Word fam w/\∀ f∈Al w fam,f∈ws\/f∈rows.take k)->Ord fam (C7 ws rows)
 | [],ws,h,_=>h
 | w::r,ws,h,hr=>by
   have h0:=hr 0 w rfl
   have hw:∀ f∈Al w fam,f∈ws:=fun f hf=>(h0.2 f hf).resolve_right (by simp)
   simp only [C7]
   refine R9 r _ ?_ fun k v hk=>?_
   . split
     . exact h
     . exact h.snoc h0.1 hw
   . obtain⟨h1,h2⟩:=hr (k+1) v (by simpa using hk)
     refine⟨h1,fun f hf=>?_⟩
     rcases h2 f hf with z | z
     . left
       split
       . exact z
       . exact List.mem_append_left _ z
     . rw [List.take_succ_cons] at z
       rcases List.mem_cons.mp z with z | z
       . left
         subst z
         split
         . assumption
         . simp
       . exact .inr z
def B0 (ws:List (List Int)):List (List Int)->List (List Int)->List (List Int)
 | acc,[]=>acc
 | acc,f::r=>B0 ws (if f ∉ ws/\f ∉ acc then acc++[f] else acc) r
theorem R7 {ws:List (List Int)}{x:List Int}:∀ (fs acc:List (List Int)),x∈B0 ws acc fs->x∈acc\/x∈fs
 | [],acc,h=>.inl h
 | f::r,acc,h=>by
   rcases R7 r _ h with z | z
   . split at z
     . rcases List.mem_append.mp z with z | z
       . exact .inl z
       . exact .inr (by simp at z;simp [z])
     . exact .inl z
   . exact .inr (List.mem_cons_of_mem _ z)
theorem Kc {ws:List (List Int)}{x:List Int}:∀ (fs acc:List (List Int)),x∈acc->x∈B0 ws acc fs
 | [],acc,h=>h
 | f::r,acc,h=>Kc r _ (by split;exact List.mem_append_left _ h;exact h)
theorem R8 {ws:List (List Int)}{x:List Int}:∀ (fs acc:List (List Int)),x∈fs->x∈ws\/x∈B0 ws acc fs
 | f::r,acc,h=>by
   rcases List.mem_cons.mp h with e | e
   . subst e
     by_cases h1:x∈ws
     . exact .inl h1
     . right
       refine Kc r _ ?_
       by_cases h2:x∈acc
       . rw [if_neg (by simp [h2])];exact h2
       . rw [if_pos ⟨h1,h2⟩];simp
   . exact R8 r _ e
theorem Mo {ws:List (List Int)}:∀ (fs acc:List (List Int)),(B0 ws acc fs).length<=acc.length+fs.length
 | [],acc=>by simp [B0]
 | f::r,acc=>by
   have h1:=Mo (ws:=ws) r (if f ∉ ws/\f ∉ acc then acc++[f] else acc)
   have h2:(if f ∉ ws/\f ∉ acc then acc++[f] else acc).length<=acc.length+1:=by
    split
    . simp
    . omega
   simp only [B0,List.length_cons]
   omega
def Dh (ws:List (List Int)) (fam:Int):List (List Int)->List (List Int)->List (List Int)
 | acc,[]=>acc
 | acc,w::r=>Dh ws fam (B0 ws acc (Al w fam)) r
theorem K0 {ws:List (List Int)}{fam:Int}{x:List Int}:∀ (l acc:List (List Int)),x∈Dh ws fam acc l->x∈acc\/∃ w∈l,x∈Al w fam
 | [],acc,h=>.inl h
 | w::r,acc,h=>by
   rcases K0 r _ h with z|⟨v,hv,z⟩
   . rcases R7 _ _ z with z | z
     . exact .inl z
     . exact .inr ⟨w,List.mem_cons_self,z⟩
   . exact .inr ⟨v,List.mem_cons_of_mem _ hv,z⟩
theorem R6 {ws:List (List Int)}{fam:Int}{x:List Int}:∀ (l acc:List (List Int)),x∈acc->x∈Dh ws fam acc l
 | [],acc,h=>h
 | w::r,acc,h=>R6 r _ (Kc _ _ h)
theorem Ws {ws:List (List Int)}{fam:Int}{x w:List Int}:∀ (l acc:List (List Int)),w∈l->x∈Al w fam->x∈ws\/x∈Dh ws fam acc l
 | v::r,acc,h,hx=>by
   rcases List.mem_cons.mp h with e | e
   . subst e
     rcases R8 (ws:=ws) _ acc hx with z | z
     . exact .inl z
     . exact .inr (R6 r _ z)
   . exact Ws r _ e hx
theorem Ie {ws:List (List Int)}{fam:Int}:∀ (l acc:List (List Int)),(∀ w∈l,Word fam w)->(Dh ws fam acc l).length<=acc.length+4*l.length
 | [],acc,_=>by simp [Dh]
 | w::r,acc,h=>by
   have h1:=Ie (ws:=ws) r (B0 ws acc (Al w fam)) fun v hv=>h v (List.mem_cons_of_mem _ hv)
   have h2:=Mo (ws:=ws) (Al w fam) acc
   have h3:=Fh (h w List.mem_cons_self)
   simp only [Dh,List.length_cons]
   split at h3<;>omega
theorem P2 (ws:List (List Int)) (f:List Int):∀ (fs acc:List (List Int)),B0 ws acc (fs++[f])=(if f ∉ ws/\f ∉ B0 ws acc fs then B0 ws acc fs++[f] else B0 ws acc fs)
 | [],acc=>rfl
 | g::fs,acc=>P2 ws f fs _
theorem R5 (ws:List (List Int)) (fam:Int) (w:List Int):∀ (l acc:List (List Int)),Dh ws fam acc (l++[w])=B0 ws (Dh ws fam acc l) (Al w fam)
 | [],acc=>rfl
 | v::l,acc=>R5 ws fam w l _
theorem P3 (w:List Int):∀ (rows ws:List (List Int)),C7 ws (rows++[w])=(if w∈C7 ws rows then C7 ws rows else C7 ws rows++[w])
 | [],ws=>rfl
 | v::rows,ws=>P3 w rows _
def Kq (ws:List (List Int)) (fam:Int):Nat->List (List Int)->List (List Int)->List (List Int)
 | 0,layer,rows=>rows
 | n+1,layer,rows=>Kq ws fam n (Dh ws fam [] layer) (layer++rows)
theorem Vp {ws:List (List Int)}{fam:Int}:∀ (n:Nat) (layer rows:List (List Int)),(∀ w∈layer,Word fam w/\lv fam w<n) →
 (∀ (k:Nat) (w:List Int),rows[k]?=some w->Word fam w/\∀ f∈Al w fam,f∈ws\/f∈layer\/f∈rows.take k) →
 ∀ (k:Nat) (w:List Int),(Kq ws fam n layer rows)[k]?=some w->Word fam w/\∀ f∈Al w fam,f∈ws\/f∈(Kq ws fam n layer rows).take k
 | 0,layer,rows,hl,hr,k,w,hk=>by
   obtain⟨h1,h2⟩:=hr k w hk
   refine⟨h1,fun f hf=>?_⟩
   rcases h2 f hf with z | z | z
   . exact .inl z
   . exact absurd (hl f z).2 (by omega)
   . exact .inr z
 | n+1,layer,rows,hl,hr,k,w,hk=>by
   refine Vp n _ _ ?_ ?_ k w hk
   . intro v hv
     rcases K0 _ _ hv with z|⟨u,hu,z⟩
     . exact nomatch z
     . obtain⟨q1,q2⟩:=hl u hu
       obtain⟨q3,q4⟩:=Iy q1 z
       exact ⟨q3,by omega⟩
   . intro m v hm
     by_cases hlt:m<layer.length
     . rw [List.getElem?_append_left hlt] at hm
       have hv:v∈layer:=List.mem_of_getElem? hm
       refine⟨(hl v hv).1,fun f hf=>?_⟩
       rcases Ws (ws:=ws) layer [] hv hf with z | z
       . exact .inl z
       . exact .inr (.inl z)
     . rw [List.getElem?_append_right (by omega)] at hm
       obtain⟨h1,h2⟩:=hr _ v hm
       refine⟨h1,fun f hf=>?_⟩
       rcases h2 f hf with z | z | z
       . exact .inl z
       . right;right
         rw [List.take_append]
         refine List.mem_append_left _ ?_
         rw [List.take_of_length_le (by omega)]
         exact z
       . right;right
         rw [List.take_append]
         exact List.mem_append_right _ z
def Ke (ws:List (List Int)) (w:List Int) (fam:Int):List (List Int):=C7 ws (Kq ws fam 4 [w] [])
theorem Sf {ws:List (List Int)}{w:List Int}{fam:Int} (h:Ord fam ws) (hw:Word fam w):Ord fam (Ke ws w fam):=by
 refine R9 _ _ h (Vp 4 [w] [] ?_ ?_)
 . intro v hv
   have e:v=w:=by simpa using hv
   subst e
   exact ⟨hw,by have:=(Fh hw).2;omega⟩
 . intro k v hk
   simp at hk
def idx (ws:List (List Int)) (f:List Int):Nat:=ws.findIdx (·==f)
theorem A41 {ws:List (List Int)}{f:List Int} (h:f∈ws):ws[idx ws f]?=some f:=by
 unfold idx
 have hl:ws.findIdx (·==f)<ws.length:=List.findIdx_lt_length_of_exists ⟨f,h,by simp⟩
 rw [List.getElem?_eq_getElem hl]
 have:=List.findIdx_getElem (xs:=ws) (p:=(·==f)) (w:=hl)
 simpa using this
theorem Bc1 {ws:List (List Int)}{f:List Int}{k:Nat} (h:f∈ws.take k):idx ws f<k:=by
 unfold idx
 obtain⟨i,hi⟩:=List.getElem?_of_mem h
 have hlt:i<(ws.take k).length:=(List.getElem?_eq_some_iff.mp hi).1
 rw [List.getElem?_take] at hi
 split at hi
 . rename_i hik
   have hl:i<ws.length:=(List.getElem?_eq_some_iff.mp hi).1
   have e:ws[i]=f:=by
    rw [List.getElem?_eq_getElem hl] at hi
    exact Option.some.inj hi
   have hle:ws.findIdx (·==f)<=i:=by
    apply Nat.le_of_not_lt
    intro hgt
    have:=List.not_of_lt_findIdx hgt
    simp [e] at this
   omega
 . cases hi
def Jw (ws:List (List Int)) (fam:Int):List (List Int):=ws.map fun w=>(Al w fam).map fun f=>(idx ws f:Int)
theorem Xg {ws:List (List Int)}{fam:Int}{k:Nat}{w:List Int} (h:ws[k]?=some w):(Jw ws fam)[k]?=some ((Al w fam).map fun f=>(idx ws f:Int)):=by
 unfold Jw
 rw [List.getElem?_map,h]
 rfl
theorem Sx {ws:List (List Int)}{fam:Int} (h:Ord fam ws):Cg (Jw ws fam):=by
 intro k p hp
 unfold Jw at hp
 rw [List.getElem?_map] at hp
 cases hw:ws[k]? with
 | none=>rw [hw] at hp;cases hp
 | some w =>
   rw [hw] at hp
   have hp':(Al w fam).map (fun f=>(idx ws f:Int))=p:=by simpa using hp
   subst hp'
   obtain⟨h1,h2⟩:=h k w hw
   obtain⟨n1,n2⟩:=Fh h1
   have look:∀ f∈Al w fam,((Jw ws fam).take k)[((idx ws f:Nat):Int).toNat]?=some ((Al f fam).map fun g=>(idx ws g:Int)):=fun f hf=>by
    have hm:=h2 f hf
    have hlt:=Bc1 hm
    rw [Int.toNat_natCast,List.getElem?_take,if_pos hlt]
    exact Xg (A41 (List.mem_of_mem_take hm))
   refine⟨?_,?_,?_,?_⟩
   . rw [List.length_map]
     by_cases hz:lv fam w=0
     . rw [if_pos hz] at n1;omega
     . rw [if_neg hz] at n1;omega
   . intro f hf
     obtain⟨g,_,rfl⟩:=List.mem_map.mp hf
     omega
   . intro f hf
     obtain⟨g,hg,rfl⟩:=List.mem_map.mp hf
     refine⟨_,look g hg,?_⟩
     obtain⟨w1,l1⟩:=Iy h1 hg
     obtain⟨m1,_⟩:=Fh w1
     unfold lev
     rw [List.length_map,List.length_map]
     have hz:¬lv fam w=0:=by omega
     rw [if_neg hz] at n1
     by_cases hy:lv fam g=0
     . rw [if_pos hy] at m1;omega
     . rw [if_neg hy] at m1;omega
   . intro hl i j f g q r hij hf hg hq hr
     rw [List.length_map] at hl
     rw [List.getElem?_map] at hf hg
     cases ef:(Al w fam)[j]? with
     | none=>rw [ef] at hf;cases hf
     | some F =>
       cases eg:(Al w fam)[i]? with
       | none=>rw [eg] at hg;cases hg
       | some G =>
         rw [ef] at hf
         rw [eg] at hg
         have ef':((idx ws F:Nat):Int)=f:=by simpa using hf
         have eg':((idx ws G:Nat):Int)=g:=by simpa using hg
         subst ef' eg'
         rw [look F (List.mem_of_getElem? ef)] at hq
         rw [look G (List.mem_of_getElem? eg)] at hr
         cases hq
         cases hr
         have hz:¬lv fam w=0:=by intro z;rw [if_pos z] at n1;omega
         rw [if_neg hz] at n1
         rw [List.getElem?_map,List.getElem?_map,faces_agree h1 (by omega) hij ef eg]
theorem l7 {ws:List (List Int)}{fam:Int}{w:List Int} (hw:Word fam w):(Kq ws fam 4 [w] []).length<=85:=by
 have step:∀ l:List (List Int),(∀ v∈l,Word fam v)->(Dh ws fam [] l).length<=4*l.length/\∀ v∈Dh ws fam [] l,Word fam v:=fun l hl=>by
  refine⟨by have:=Ie (ws:=ws) l [] hl;simpa using this,fun v hv=>?_⟩
  rcases K0 _ _ hv with z|⟨u,hu,z⟩
  . exact nomatch z
  . exact (Iy (hl u hu) z).1
 have s0:∀ v∈[w],Word fam v:=fun v hv=>by have e:v=w:=by simpa using hv
                                          subst e;exact hw
 obtain⟨a1,b1⟩:=step _ s0
 obtain⟨a2,b2⟩:=step _ b1
 obtain⟨a3,b3⟩:=step _ b2
 simp only [Kq,List.length_append,List.length_nil,List.length_cons] at a1 a2 a3 ⊢
 omega
end Hb
namespace Hb
def pc (xs:List (List Int)) (p:Int):List Int:=xs.getD p.toNat []
section
variable {xs:List (List Int)}
end
end Hb
namespace Hb
open PySem L2
def Po (ns:List Int) (k:Int):Int:=ns.getD k.toNat 0
abbrev LT (K:W.Frag) (H:Hp) (v:V) (xs:List (List Int)):Prop:=Rep K H v (.lst (xs.map tI))
abbrev TI (K:W.Frag) (H:Hp) (v:V) (ns:List Int):Prop:=Rep K H v (tI ns)
section
variable {K:W.Frag}{H H':Hp}
theorem TI.sq {v:V}{ns:List Int} (h:TI K H v ns):∃ a,v=.ref a/\SqT K H a (ns.map V.int):=by
 obtain⟨a,vs,e,q,r⟩:=h
 rw [Fb.mp r] at q
 exact ⟨a,e,q⟩
theorem TI.mk {a:Addr}{ns:List Int} (h:SqT K H a (ns.map V.int)):TI K H (.ref a) ns:=⟨a,_,rfl,h,Fb.mpr rfl⟩
theorem TI.same {v:V}{ns:List Int} (s:Same H H') (h:TI K H v ns):TI K H' v ns:=Rep.same s h
theorem TI.t {v:V}{ns:List Int} (s:Mp H H') (h:TI K H v ns):TI K H' v ns:=Rep.t s (Ai5 ns) h
theorem Kv (xs:List V) (k:Nat):cutV xs none (some (k:Int))=xs.take k:=by
 unfold cutV
 rw [HT.sIx_none,HT.sIx_nat,Nat.sub_zero,List.drop_zero,List.take_eq_take_iff]
 omega
theorem Nr (xs:List V) (k:Nat):cutV xs (some (k:Int)) none=xs.drop k:=by
 unfold cutV
 rw [HT.sIx_none,HT.sIx_nat]
 by_cases h:k<=xs.length
 . rw [Nat.min_eq_left h,List.take_of_length_le (by rw [List.length_drop];omega)]
 . rw [Nat.min_eq_right (by omega),List.drop_length,List.drop_of_length_le (by omega)]
   simp
theorem Ac2 {D:Addr}{ys:List V}{v:V}{d:L2.D}{ds:List L2.D} (hD:H D=some (.lst ys)) (r:Reps K H ys ds) (rv:Rep K H v d) (hi:imms (ds++[d])=true):Reps K (upd H D (.lst (ys++[v]))) (ys++[v]) (ds++[d]) :=
 (r.snoc rv).t (Mp.lst hD) hi
theorem Fs {D:Addr}{ys:List V}{v:V}{xs:List (List Int)}{x:List Int} (hD:H D=some (.lst ys)) (r:Reps K H ys (xs.map tI)) (rv:TI K H v x):Reps K (upd H D (.lst (ys++[v]))) (ys++[v]) ((xs++[x]).map tI):=by
 have e:(xs++[x]).map tI=xs.map tI++[tI x]:=by simp
 have h:=Ks (xs++[x])
 rw [e] at h ⊢
 exact Ac2 hD r rv h
def SameX (B:Addr) (H H':Hp):Prop:=∀ b o,b≠B->H b=some o->H' b=some o
theorem SameX.refl (B:Addr) (H:Hp):SameX B H H:=fun _ _ _ h=>h
theorem SameX.trans {B:Addr}{H H1 H2:Hp} (a:SameX B H H1) (b:SameX B H1 H2):SameX B H H2:=fun c o n h=>b c o n (a c o n h)
theorem SameX.of {B:Addr}{H H1:Hp} (a:Same H H1):SameX B H H1:=fun c o _ h=>a c o h
theorem SameX.upd {B:Addr}{H H1:Hp}{o:HO} (a:SameX B H H1):SameX B H (upd H1 B o):=fun c u n h=>by rw [Ah n];exact a c u n h
theorem SameX.t {B:Addr}{H H1:Hp}{us:List V} (a:SameX B H H1) (h:H B=some (.lst us)):Mp H H1 :=
 ⟨fun b xs e=>a b _ (Fw e h (by intro z;cases z)) e,fun b o u e=>a b _ (Fw e h (by intro z;cases z)) e⟩
theorem SameX.same {B:Addr}{H0 H H1:Hp} (a:SameX B H H1) (s:Same H0 H) (h:H0 B=none):Same H0 H1:=fun b o e=>a b o (Ap e h) (s b o e)
theorem Ku:∀ ns:List Int,deps (nums ns)=0
 | []=>rfl
 | n::ns=>by show max (dep (.int n)) (deps (nums ns))=0;rw [Ku ns];rfl
theorem Kt:∀ xs:List (List Int),deps (xs.map tI)<=1
 | []=>Nat.zero_le _
 | x::xs=>by
   have h1:=Kt xs
   have h2:dep (tI x)=1:=by show deps (nums x)+1=1;rw [Ku]
   show max (dep (tI x)) (deps (xs.map tI))<=1
   omega
theorem Pz (f:List Int):∀ xs:List (List Int),(xs.map tI).any (fun e=>eqD e (tI f))=decide (f∈xs)
 | []=>rfl
 | x::xs=>by
   rw [List.map_cons,List.any_cons,Pz f xs,Ay2]
   by_cases h:x=f
   . subst h;simp
   . have h':¬f=x:=fun z=>h z.symm
     simp [h,h']
theorem ifP {c A B:Prop} [Decidable c] (hc:c) (h:A):if c then A else B:=by rw [if_pos hc];exact h
theorem ifN {c A B:Prop} [Decidable c] (hc:¬c) (h:B):if c then A else B:=by rw [if_neg hc];exact h
theorem neI {a b:Int} (h:¬a=b):(!decide (V.int a=V.int b))=true:=by simp [h]
theorem eqI {a b:Int} (h:a=b):¬(!decide (V.int a=V.int b))=true:=by simp [h]
theorem noI {a b:Int} (h:¬a=b):¬decide (V.int a=V.int b)=true:=by simp [h]
theorem Mh {g:TG}{te:TE}{D:Addr}{Q:Hp->Prop}{τ:St}{H:Hp}{K:W.Frag}{a:Addr}{xs:List V} (Pv:Nat->List V->St->Hp->Prop) (h0:Pv 0 [] τ H) (hl:∀ i ys τ H,i<=xs.length->Pv i ys τ H->SqL K H a xs)
 (hs:∀ i x ys τ H,xs[i]?=some x->Pv i ys τ H->g x τ H fun τ2 H2=>te τ2 H2 fun y H4=>H4 D=some (.lst ys)/\ys.length<sizeLine/\Pv (i+1) (ys++[y]) τ2 (upd H4 D (.lst (ys++[y]))))
 (hd:∀ ys τ H,Pv xs.length ys τ H->Q H):RunC (Itl K a) g tYes te D Q τ H:=Hz Pv h0 hl (fun i x ys τ H e p=>hs i x ys τ H e p) hd
theorem Pk {g:TG}{te:TE}{D:Addr}{Q:Hp->Prop}{τ:St}{H:Hp}{K:W.Frag}{a:Addr}{xs:List V} (Pv:Nat->List V->St->Hp->Prop) (h0:Pv 0 [] τ H) (hl:∀ i ys τ H,i<=xs.length->Pv i ys τ H->SqT K H a xs)
 (hs:∀ i x ys τ H,xs[i]?=some x->Pv i ys τ H->g x τ H fun τ2 H2=>te τ2 H2 fun y H4=>H4 D=some (.lst ys)/\ys.length<sizeLine/\Pv (i+1) (ys++[y]) τ2 (upd H4 D (.lst (ys++[y]))))
 (hd:∀ ys τ H,Pv xs.length ys τ H->Q H):RunC (Itt K a) g tYes te D Q τ H:=Av6 Pv h0 hl (fun i x ys τ H e p=>hs i x ys τ H e p) hd
theorem J9 {g:TG}{te:TE}{D:Addr}{Q:Hp->Prop}{τ:St}{H:Hp}{lo:Int}{n:Nat} (Pv:Nat->List V->St->Hp->Prop) (h0:Pv 0 [] τ H)
 (hs:∀ i ys τ H,i<n->Pv i ys τ H->g (.int (lo+i)) τ H fun τ2 H2=>te τ2 H2 fun y H4=>H4 D=some (.lst ys)/\ys.length<sizeLine/\Pv (i+1) (ys++[y]) τ2 (upd H4 D (.lst (ys++[y]))))
 (hd:∀ ys τ H,Pv n ys τ H->Q H):RunC (Itr lo n) g tYes te D Q τ H:=Fi Pv h0 (fun i ys τ H e p=>hs i ys τ H e p) hd
theorem Ar {t u:TS}{D:Ends}{σ:St}{H:Hp} (P:St->Hp->Prop) (hu:∀ σ' H',P σ' H'->u D σ' H') (h:(∀ σ' H',P σ' H'->u D σ' H')->tSeq t u D σ H):tSeq t u D σ H:=h hu
theorem o0 {f:List Int}:∀{ws:List (List Int)},f∈ws->(ws.map tI).findIdx? (fun e=>eqD e (tI f))=some (idx ws f):=fun {ws} h=>by
 have e:(ws.map tI).findIdx? (fun e=>eqD e (tI f))=ws.findIdx? (fun w=>w==f):=by
  rw [List.findIdx?_map]
  congr 1
  funext w
  show eqD (tI w) (tI f)=(w==f)
  rw [Ay2]
  by_cases z:w=f
  . subst z;simp
  . simp [z]
 rw [e,List.findIdx?_eq_some_of_exists (xs:=ws) (p:=fun w=>w==f) ⟨f,h,by simp⟩]
 rfl
theorem Cc {n:Nat} (h:n<=1000000):n<sizeLine:=Nat.lt_of_le_of_lt h (by decide)
theorem A4 {n:Nat} (h:n<=1000000):n<=sizeLine:=Nat.le_of_lt (Cc h)
end
section
variable (K:W.Frag)
def Z7:Sp:=fun vs H Q _=>∃ (a:Addr) (ns:List Int) (k:Int),vs=[.ref a,.int k]/\SqL K H a (ns.map V.int)/\0<=k/\ns.length<=63/\Q (.int (Po ns k)) H
def Xb:Sp:=fun vs H Q _=>∃ (v:V) (w:List Int) (fam:Int),vs=[v,.int fam]/\TI K H v w/\Word fam w ∧
 ∀ (p:Addr) (us:List V) (H':Hp),H p=none->Same H H'->H' p=some (.lst us)->Reps K H' us ((Al w fam).map tI)->Q (.ref p) H'
def Z6:Sp:=fun vs H Q _=>∃ (c fam letters:Int),vs=[.int c,.int fam,.int letters]/\0<letters/\letters<100/\fam<100 ∧
 ∀ (v:V) (H':Hp) (w:List Int),Same H H'->TI K H' v w->Word fam w->Q v H'
def Sk:Sp:=fun vs H Q _=>∃ (l:Addr) (us:List V) (v:V) (ws:List (List Int)) (w:List Int) (fam:Int),vs=[.ref l,v,.int fam]/\H l=some (.lst us)/\Reps K H us (ws.map tI)/\TI K H v w/\Word fam w/\ws.length<=100 ∧
 ∀ (p:Addr) (us':List V) (H':Hp),H p=none->Same H H'->H' p=some (.lst us')->Reps K H' us' ((Ke ws w fam).map tI)->Q (.ref p) H'
def Zc:Sp:=fun vs H Q _=>∃ (a:Addr) (ns:List Int),vs=[.ref a]/\SqL K H a (ns.map V.int)/\ns.length<=63/\∀ H',Q (.bl true) H'
def Ju:Sp:=fun vs H Q _=>∃ (a:Addr) (ns:List Int) (kind most:Int),vs=[.int kind,.ref a,.int most]/\SqL K H a (ns.map V.int)/\ns.length<=63/\0<=most/\most<=100 ∧
 ∀ (p:Addr) (us:List V) (H':Hp) (xs:List (List Int)),H p=none->Same H H'->H' p=some (.lst us)->Reps K H' us (xs.map tI)->Cg xs->(xs.length:Int)<=most->Q (.ref p) H'
end
end Hb
namespace Hb
open PySem L2
def En (d:L2.D):Bool:=isD "int" d&&!isD "bool" d
def Mx (d:L2.D) (b:Int):Bool:=match d with
 | .int i=>decide (0<=i)&&decide (i<b)
 | _=>false
def levI (n:Nat):Int:=if (0:Int) > (n:Int)-1 then 0 else (n:Int)-1
def Bb (xs:List (List Int)) (d:L2.D) (l:Int):Bool:=match d with
 | .int i=>decide (0<=i)&&decide (i<(xs.length:Int))&&decide (levI (xs.getD i.toNat []).length=l)
 | _=>false
def Kb (xs:List (List Int)) (p:List Int) (j i:Nat):Bool:=decide ((xs.getD (p.getD j 0).toNat []).getD i 0=(xs.getD (p.getD i 0).toNat []).getD (j-1) 0)
def Ek (xs:List (List Int)) (p:List Int):Bool:=(List.range p.length).all fun j=>(List.range j).all fun i=>Kb xs p j i
def toI:L2.D->Int
 | .int i=>i
 | _=>0
def cntB (n:Nat):Bool:=n==0 || n==2 || n==3 || n==4
def Em (xs:List (List Int)) (d:L2.D):Bool:=match d with
 | .tup ds=>cntB ds.length&&ds.all (fun e=>Bb xs e (levI ds.length-1))&&(decide (levI ds.length<2) || Ek xs (ds.map toI))
 | _=>false
theorem Cq (xs:List (List Int)) (ds:List L2.D):Em xs (.tup ds)=(cntB ds.length&&ds.all (fun e=>Bb xs e (levI ds.length-1))&&(decide (levI ds.length<2) || Ek xs (ds.map toI))):=rfl
theorem Y2 {n:Nat} (h:cntB n=true):n<=4/\n≠1:=by
 unfold cntB at h
 simp only [Bool.or_eq_true,beq_iff_eq] at h
 omega
section
variable (K:W.Frag)
def Fo:Sp:=fun vs H Q _=>∃ (x:V) (d:L2.D),vs=[x]/\Rep K H x d/\Q (.bl (En d)) H
abbrev Ik:Sp:=Fo K
def Be:Sp:=fun vs H Q _=>∃ (x:V) (d:L2.D) (b:Int),vs=[x,.int b]/\Rep K H x d/\Q (.bl (Mx d b)) H
def Bg:Sp:=fun vs H Q _=>∃ (x:V) (ds:List L2.D),vs=[x]/\SeqD K H x ds/\Q (.int (levI ds.length)) H
def Cm:Sp:=fun vs H Q _=>∃ (a:Addr) (x:V) (d:L2.D) (l:Int) (xs:List (List Int)),vs=[.ref a,x,.int l]/\LT K H (.ref a) xs/\Rep K H x d/\Q (.bl (Bb xs d l)) H
def Et:Sp:=fun vs H Q _=>∃ (a:Addr) (v:V) (xs:List (List Int)) (p:List Int),vs=[.ref a,v]/\LT K H (.ref a) xs/\TI K H v p/\p.length<=4 ∧
 (∀ f∈p,0<=f/\f<(xs.length:Int)/\(xs.getD f.toNat []).length+1=p.length)/\Q (.bl (Ek xs p)) H
abbrev Gz:Sp:=Z7 K
abbrev Dz:Sp:=Xb K
abbrev Gy:Sp:=Z6 K
abbrev D8:Sp:=Sk K
end
section
variable {K:W.Frag}{H:Hp}
theorem Rh {d:L2.D} (h:En d=true):∃ i,d=.int i:=by
 cases d<;>simp [En,isD] at h
 exact ⟨_,rfl⟩
theorem LT.get {a:Addr}{xs:List (List Int)}{i:Int} (h:LT K H (.ref a) xs) (h0:0<=i) (h1:i<(xs.length:Int)):∃ us v,SqL K H a us/\atI us i=some v/\TI K H v (xs.getD i.toNat []):=by
 obtain⟨a',us,e,hq,r⟩:=h
 cases e
 obtain⟨j,rfl⟩:=Int.eq_ofNat_of_zero_le h0
 have hj:j<xs.length:=by omega
 have e:(xs.map tI)[j]?=some (tI xs[j]):=by rw [List.getElem?_map,List.getElem?_eq_getElem hj];rfl
 obtain⟨v,hv,tv⟩:=r.get e
 refine⟨us,v,hq,Co hv,?_⟩
 rw [Int.toNat_natCast,List.getD_eq_getElem?_getD,List.getElem?_eq_getElem hj]
 exact tv
theorem LT.len {a:Addr}{xs:List (List Int)} (h:LT K H (.ref a) xs):∃ us,SqL K H a us/\us.length=xs.length:=by
 obtain⟨a',us,e,hq,r⟩:=h
 cases e
 exact ⟨us,hq,by have:=r.length;simpa using this⟩
theorem TI.get {v:V}{p:List Int}{i:Int} (h:TI K H v p) (h0:0<=i) (h1:i<(p.length:Int)):∃ a,v=.ref a/\SqT K H a (p.map V.int)/\atI (p.map V.int) i=some (.int (p.getD i.toNat 0)):=by
 obtain⟨a,e,hq⟩:=h.sq
 refine⟨a,e,hq,?_⟩
 obtain⟨j,rfl⟩:=Int.eq_ofNat_of_zero_le h0
 have hj:j<p.length:=by omega
 refine Co ?_
 rw [List.getElem?_map,List.getElem?_eq_getElem hj]
 simp [hj]
theorem Ca (n:Nat):levI n=((n-1:Nat):Int):=by unfold levI;split<;>omega
theorem Uj {xs:List (List Int)}{l:Int}:∀{ds:List L2.D},ds.all (fun e=>Bb xs e l)=true->ds=nums (ds.map toI)
 | [],_=>rfl
 | d::ds,h=>by
   simp only [List.all_cons,Bool.and_eq_true] at h
   cases d with
   | int i =>
     show L2.D.int i::ds=L2.D.int i::nums (ds.map toI)
     rw [←Uj h.2]
   | _=>simp [Bb] at h
end
end Hb
namespace L2
open PySem PySem.Spec PyProof.Rows
def Cw (X:Cx) (sc:Scope) (N':List Str) (xc:Str) (C c:Addr) (s₀:Shared) (H₀:Hp) (fp:List Addr):Cx where
 prog:=X.prog
 w:=X.w
 K:=X.K
 mg:=X.mg
 base:=X.base
 A:=X.A
 N:=N'
 s₀:=s₀
 H₀:=H₀
 env:=compEnvC sc ((xc,c)::clOf X.env.cells sc.names []) C X.env
 outer:=X.stack
 stack:=X.stack
 ex:=fp
 fn:=fun x=>x==xc
 calm:=X.calm
 pn:=[]
 xe:=fun _ _=>False
structure P8 (X:Cx) (sc:Scope) (N':List Str) (cap:List (Option Nat)) (xc:Str):Prop where
 kind:sc.kind=.function
 len:cap.length=N'.length
 one:∀ n cl,cellsFrom n sc.names cl=(xc,n)::cl
 push:∀ h,pushCells h sc.names=h.push { cls:=.type "cell",data:=.cell none }
 own:∀ x∈sc.names,x.2=NameKind.cell->x.1=xc
 locals:∀ x∈sc.names,x.2=NameKind.local->sc.names.lookup x.1=some NameKind.local
 free:∀ n,(n,NameKind.free)∈sc.names->X.env.kindOf n=some .cell\/X.env.kindOf n=some .free
 slots:∀ (i j:Nat) (x:Str),N'[i]?=some x->cap[i]?=some (some j)->x≠xc/\X.N[j]?=some x/\((relabel sc X.env).names.lookup x=some .cell\/(relabel sc X.env).names.lookup x=some .free)/\Vis X.env.scope x
def A56 (osc:Scope) (N:List Str) (sc:Scope) (N':List Str) (cap:List (Option Nat)) (xc:Str):Bool :=
 decide (sc.kind=.function)&&decide (cap.length=N'.length)&&sc.names.all (fun x=>decide (x.2=NameKind.cell->x.1=xc))&&sc.names.all (fun x=>decide (x.2=NameKind.local->sc.names.lookup x.1=some NameKind.local)) &&
 sc.names.all (fun x=>decide (x.2=NameKind.free->(osc.names.lookup x.1=some .cell\/osc.names.lookup x.1=some .free))) &&
 (N'.zip cap).all (fun p=>match p.2 with
   | none=>true
   | some j=>decide (p.1≠xc)&&decide (N[j]?=some p.1)&&decide (((sc.names.map fun (n,k)=>if (k==.free&&osc.kind==.function&&osc.names.lookup n==some .cell) then (n,NameKind.cell) else (n,k)).lookup p.1=some .cell) ∨
      ((sc.names.map fun (n,k)=>if (k==.free&&osc.kind==.function&&osc.names.lookup n==some .cell) then (n,NameKind.cell) else (n,k)).lookup p.1=some .free)) &&
     decide (osc.names.lookup p.1=some .local\/osc.names.lookup p.1=some .cell\/osc.names.lookup p.1=some .free))
theorem Av9 {X:Cx}{sc:Scope}{N':List Str}{cap:List (Option Nat)}{xc:Str} (h:A56 X.env.scope X.N sc N' cap xc=true) (one:∀ n cl,cellsFrom n sc.names cl=(xc,n)::cl) (push:∀ h,pushCells h sc.names=h.push { cls:=.type "cell",data:=.cell none }):P8 X sc N' cap xc:=by
 unfold A56 at h
 rw [Bool.and_eq_true,Bool.and_eq_true,Bool.and_eq_true,Bool.and_eq_true,Bool.and_eq_true,List.all_eq_true,List.all_eq_true,List.all_eq_true,List.all_eq_true] at h
 obtain⟨⟨⟨⟨⟨h1,h2⟩,h3⟩,h4⟩,h5⟩,h6⟩:=h
 refine⟨of_decide_eq_true h1,of_decide_eq_true h2,one,push,fun x hx=>of_decide_eq_true (h3 x hx),fun x hx=>of_decide_eq_true (h4 x hx),fun n hn=>of_decide_eq_true (h5 _ hn) rfl,fun i j x e1 e2=>?_⟩
 have hm:(x,some j)∈N'.zip cap:=by
  have e:(N'.zip cap)[i]?=some (x,some j):=by
   rw [List.getElem?_zip_eq_some]
   exact ⟨e1,e2⟩
  exact List.mem_of_getElem? e
 have h7:=h6 _ hm
 dsimp only at h7
 rw [Bool.and_eq_true,Bool.and_eq_true,Bool.and_eq_true] at h7
 obtain⟨⟨⟨h0,h8⟩,h9⟩,h10⟩:=h7
 exact ⟨of_decide_eq_true h0,of_decide_eq_true h8,of_decide_eq_true (p:=(relabel sc X.env).names.lookup x=some .cell\/(relabel sc X.env).names.lookup x=some .free) h9,of_decide_eq_true (p:=X.env.scope.names.lookup x=some .local\/X.env.scope.names.lookup x=some .cell\/X.env.scope.names.lookup x=some .free) h10⟩
section
variable {X:Cx}{sc:Scope}{N':List Str}{cap:List (Option Nat)}{xc:Str}{Aa:List (Addr × Obj)}{σ:St}{H:Hp}{s:Shared}{C c:Addr}{fp:List Addr}
theorem P8.cells (o:P8 X sc N' cap xc) (ok:X.Ok):∀ n,(n,NameKind.free)∈sc.names->∃ c,X.env.cells.lookup n=some c:=fun n hn=>ok.has n (o.free n hn)
theorem Ep {env:Env}{x:Str}{k:NameKind} (hnc:∀ x∈sc.names,x.2=NameKind.cell->x.1=xc) (h:(relabel sc env).names.lookup x=some k) (hk:k=.cell\/k=.free):(x,NameKind.free)∈sc.names\/x=xc:=by
 have all:∀ (l:List (Str × NameKind)),(∀ x∈l,x.2=NameKind.cell->x.1=xc)->(l.map fun (n,k)=>if (k==NameKind.free&&env.scope.kind==.function&&env.kindOf n==some .cell) then (n,NameKind.cell) else (n,k)).lookup x=some k->(x,NameKind.free)∈l\/x=xc:=by
  intro l
  induction l with
  | nil=>intro _ h;exact nomatch h
  | cons p r ih =>
    intro hn h
    obtain⟨n,q⟩:=p
    rw [List.map_cons,List.lookup_cons] at h
    have up:((x,NameKind.free)∈r\/x=xc)->((x,NameKind.free)∈(n,q)::r\/x=xc):=fun z=>z.elim (fun z=>.inl (List.mem_cons_of_mem _ z)) .inr
    by_cases hc:(q==NameKind.free&&env.scope.kind==.function&&env.kindOf n==some .cell)=true
    . have hq:q=NameKind.free:=by
       have:=hc
       simp only [Bool.and_eq_true] at this
       simpa using this.1.1
      simp only [hc,if_true] at h
      cases hx:x==n with
      | true =>
        have e:x=n:=by simpa using hx
        rw [e,hq]
        exact .inl List.mem_cons_self
      | false =>
        rw [hx] at h
        exact up (ih (fun y hy=>hn y (List.mem_cons_of_mem _ hy)) h)
    . simp only [hc] at h
      cases hx:x==n with
      | true =>
        have e:x=n:=by simpa using hx
        simp only [Bool.false_eq_true,if_false,hx] at h
        have e2:q=k:=by simpa using h
        rcases hk with z | z
        . exact .inr (e.trans (hn (n,q) List.mem_cons_self (e2.trans z)))
        . rw [e,←z,←e2]
          exact .inl List.mem_cons_self
      | false =>
        simp only [Bool.false_eq_true,if_false,hx] at h
        exact up (ih (fun y hy=>hn y (List.mem_cons_of_mem _ hy)) h)
 exact all sc.names hnc h
theorem X8 {cl:List (Str × Addr)}{x:Str}{a:Addr} (h:((xc,c)::cl).lookup x=some a):(x=xc/\a=c)\/(x≠xc/\cl.lookup x=some a):=by
 rw [List.lookup_cons] at h
 cases hx:x==xc with
 | true=>rw [hx] at h;exact .inl ⟨by simpa using hx,(Option.some.inj h).symm⟩
 | false=>rw [hx] at h;exact .inr ⟨by simpa using hx,h⟩
theorem Av7 (o:P8 X sc N' cap xc) (I:Inv X Aa σ H s) (hC:s.heap.objs.size<=C) (hc:s.heap.objs.size<=c) (hf:∀ b∈fp,FpOk X Aa H b) (hb:∀ b∈fp,b<s.heap.objs.size):(Cw X sc N' xc C c s H fp).Ok:=by
 have ltc:∀ x a,(clOf X.env.cells sc.names []).lookup x=some a->X.env.cells.lookup x=some a:=fun x a e=>B3 (o.cells I.ok) (fun z=>by simp at z) e
 have nc:∀ x a,(clOf X.env.cells sc.names []).lookup x=some a->a≠c:=fun x a e z=>by
  obtain⟨v,ob,hob,_⟩:=I.cell x a (ltc x a e)
  exact absurd (Nat.lt_of_lt_of_le (Heap.lt_size hob) (z▸hc)) (Nat.lt_irrefl _)
 exact {
  mod:=I.ok.mod
  kind:=o.kind
  glob:=I.ok.glob
  blt:=I.ok.blt
  above:=hC
  inj:=fun x y a hx hy=>by
   rcases X8 hx with ⟨rfl,rfl⟩|⟨n1,hx⟩<;>rcases X8 hy with ⟨e2,e3⟩|⟨n2,hy⟩
   . exact e2.symm
   . exact absurd rfl (nc _ _ hy)
   . exact absurd e3 (nc _ _ hx)
   . exact I.ok.inj x y a (ltc x a hx) (ltc y a hy)
  has:=fun x hx=>by
   have hm:(x,NameKind.free)∈sc.names\/x=xc:=by
    rcases hx with hx | hx
    . exact Ep o.own hx (.inl rfl)
    . exact Ep o.own hx (.inr rfl)
   by_cases e:x=xc
   . exact ⟨c,by show ((xc,c)::_).lookup x=_;rw [List.lookup_cons,e];simp⟩
   . obtain⟨a,ha⟩:=Kw (cells:=X.env.cells) (l:=sc.names) (acc:=[]) (x:=x) (.inl (hm.resolve_right e))
     refine⟨a,?_⟩
     show ((xc,c)::_).lookup x=_
     rw [List.lookup_cons]
     have:(x==xc)=false:=by simpa using e
     rw [this]
     exact ha
  cab:=fun x a h e=>by
   have hx:x=xc:=by simpa [Cw] using h
   rcases X8 e with ⟨_,rfl⟩|⟨n1,_⟩
   . exact hc
   . exact absurd hx n1
  hd:=I.ok.hd
  frames:=I.ok.frames
  stk:=.inl rfl
  exf:=fun b hb'=>⟨Nat.ne_of_lt (Nat.lt_of_lt_of_le (hb b hb') hC),fun x a e=>by
   rcases X8 e with ⟨_,rfl⟩|⟨_,e⟩
   . exact Nat.ne_of_gt (Nat.lt_of_lt_of_le (hb b hb') hc)
   . exact (hf b hb').2.2.2.2.1 x a (ltc x a e)⟩
  bs:=I.bs
  bsz:=Nat.le_trans I.ok.bsz I.sz
  noex:=fun b ob e hb'=>by
   rcases (hf b hb').2.2.2.1 with z | z
   . exact I.ok.noex b ob e z
   . exact absurd (Nat.lt_of_lt_of_le (Heap.lt_size e) (Nat.le_trans I.ok.bsz z)) (Nat.lt_irrefl _)
  exfs:=fun b hb' z=>by
   obtain⟨_,f1,f2,_⟩:=hf b hb'
   rcases List.mem_cons.mp (I.stkSub b z) with e | e
   . exact f1 e
   . exact f2 e
  funs:=I.stack
  frf:=I.stkFree }
theorem Am7 (o:P8 X sc N' cap xc) (I:Inv X Aa σ H s) {D:Addr}{h1:Heap}{t:Nat} (hD:D=s.heap.objs.size) (hC:C=s.heap.objs.size+1) (hc:c=s.heap.objs.size+2) (hf:∀ b∈fp,FpOk X Aa H b) (hb:∀ b∈fp,b<s.heap.objs.size)
 (hn:h1.Ns C fun _=>none) (hcell:h1.IsCell c none) (hl:h1.get? D=some { cls:=.type "list",data:=.seq #[] 0 }) (k:∀ b o,s.heap.get? b=some o->h1.get? b=some o) :
 Inv (Cw X sc N' xc C c s H fp) [] (capS cap σ) (upd H D (.lst [])) { s with heap:=h1,toks:=t }:=by
 have hCs:s.heap.objs.size<=C:=by rw [hC];exact Nat.le_add_right _ _
 have hcs:s.heap.objs.size<=c:=by rw [hc];exact Nat.le_add_right _ _
 have hCD:C≠D:=by rw [hC,hD];exact Nat.succ_ne_self _
 have hcD:c≠D:=by rw [hc,hD];exact Nat.ne_of_gt (Nat.lt_add_of_pos_right (by decide))
 have ok:=Av7 (C:=C) (c:=c) (fp:=fp) o I hCs hcs hf hb
 have hDn:H D=none:=by rw [hD];exact I.fresh
 have ltc:∀ x a,(clOf X.env.cells sc.names []).lookup x=some a->X.env.cells.lookup x=some a:=fun x a e=>B3 (o.cells I.ok) (fun z=>by simp at z) e
 have cel:∀ a v,s.heap.IsCell a v->h1.IsCell a v:=fun a v ⟨ob,ho,hd⟩=>⟨ob,k a ob ho,hd⟩
 have ltD:∀ a v,s.heap.IsCell a v->a≠D:=fun a v ⟨ob,ho,hd⟩=>by rw [hD];exact Nat.ne_of_lt (Heap.lt_size ho)
 refine⟨ok,rfl,I.bare,Un.laid k (by rw [hD];exact Nat.le_refl _) hDn,⟨_,hn,fun i x v e1 e2 e3=>?_⟩,fun x a e=>?_,?_,fun x a e=>?_,fun p hp=>absurd hp (by simp [Cw]),?_,?_⟩
 . have e2':cap[i]?.map (fun o=>o.bind fun j=>(σ[j]?).join)=some (some v):=by
    have:=e2
    unfold capS at this
    rw [List.getElem?_map] at this
    exact this
   cases hcp:cap[i]? with
   | none=>rw [hcp] at e2';cases e2'
   | some oo =>
     rw [hcp] at e2'
     cases oo with
     | none=>cases e2'
     | some j =>
       have e4:(σ[j]?).join=some v:=by simpa using e2'
       obtain⟨q0,q1,q2',q3⟩:=o.slots i j x e1 hcp
       have q2:(x,NameKind.free)∈sc.names:=(q2'.elim (fun z=>Ep o.own z (.inl rfl)) fun z=>Ep o.own z (.inr rfl)).resolve_right q0
       obtain⟨m,hm,hl'⟩:=I.loc
       have e5:σ[j]?=some (some v):=by
        cases z:σ[j]? with
        | none=>rw [z] at e4;cases e4
        | some y=>rw [z] at e4;cases y with
          | none=>cases e4
          | some y'=>cases e4;rfl
       obtain⟨u,r,l⟩:=hl' j x v q1 e5 q3
       refine⟨u,r,?_⟩
       obtain⟨a,ha⟩:=Kw (cells:=X.env.cells) (l:=sc.names) (acc:=[]) (x:=x) (.inl q2)
       have kd:X.env.kindOf x=some .cell\/X.env.kindOf x=some .free:=o.free x q2
       rcases l with ⟨hk,_⟩|⟨hk,a',ha',hcl⟩
       . rcases kd with z | z<;>rw [z] at hk<;>cases hk
       . have e6:a'=a:=by
          have:=ltc x a ha
          rw [ha'] at this
          exact Option.some.inj this
         refine .inr ⟨q2',a,?_,?_⟩
         . show ((xc,c)::_).lookup x=_
           rw [List.lookup_cons]
           have:(x==xc)=false:=by simpa using q0
           rw [this]
           exact ha
         . rw [←e6]
           exact cel _ _ hcl
 . rcases X8 e with ⟨_,rfl⟩|⟨_,e⟩
   . exact ⟨none,hcell⟩
   . obtain⟨v,z⟩:=I.cell x a (ltc x a e)
     exact ⟨v,cel a v z⟩
 . show upd H D (.lst []) C=none
   rw [Ah hCD]
   exact I.hok.fresh hCs
 . show upd H D (.lst []) a=none
   rcases X8 e with ⟨_,rfl⟩|⟨_,e⟩
   . rw [Ah hcD]
     exact I.hok.fresh hcs
   . obtain⟨v,z⟩:=I.cell x a (ltc x a e)
     rw [Ah (ltD a v z)]
     exact I.freeC x a (ltc x a e)
 . exact I.hok.laid k (by rw [hD];exact Nat.le_refl _) ⟨Nat.zero_le _,[],0,.nil,hl⟩
 . show (capS cap σ).length=N'.length
   unfold capS
   rw [List.length_map,o.len]
end
theorem newEnv_cell {M:Model}{A:Around}{E:Value->Shared->Prop}{s:Shared}{sc:Scope}{globals:Addr}{cl:List (Str × Addr)}{qual:Str}{env0:Env}{xc:Str}{Q:Env->Shared->Prop}
 (one:∀ n cl,cellsFrom n sc.names cl=(xc,n)::cl) (push:∀ h,pushCells h sc.names=h.push { cls:=.type "cell",data:=.cell none })
 (hQ:∀ h',h'.Ns s.heap.objs.size (fun _=>none)->h'.IsCell (s.heap.objs.size+1) none->(∀ b o,s.heap.get? b=some o->h'.get? b=some o) →
   Q { scope:=sc,locals:=s.heap.objs.size,globals:=globals,cells:=(xc,s.heap.objs.size+1)::cl,qual:=qual,func:=none,code:=env0.code,frame:=env0.frame,builtins:=env0.builtins } { s with heap:=h' }) :
 wpAny M A (newFunctionEnv sc globals cl [] qual none .none (some env0)) Q E s:=by
 unfold newFunctionEnv
 simp only [Option.isSome_some,if_true]
 refine wpAny_bind (wpAny_alloc ?_)
 refine wpAny_bind (wpAny_layCells _ (fun name kind cells=>by cases hkc:kind==NameKind.cell<;>simp [hkc]) _ _ _ _ ?_)
 have hsz:({ s with heap:=s.heap.push { cls:=.type "dict",data:=.dict #[] } }:Shared).heap.objs.size=s.heap.objs.size+1:=Heap.size_push ..
 rw [hsz,one,push]
 simp only [List.forIn_nil]
 refine wpAny_bind (wpAny_pure (wpAny_pure (hQ _ ?_ ?_ fun b o e=>Heap.get?_push_of_some _ (Heap.get?_push_of_some _ e))))
 . exact (Heap.Ns.new s.heap (.type "dict")).keeps fun b o e=>Heap.get?_push_of_some _ e
 . refine⟨{ cls:=.type "cell",data:=.cell none },?_,rfl⟩
   have:=Heap.get?_push_size (h:=s.heap.push { cls:=.type "dict",data:=.dict #[] }) (o:={ cls:=.type "cell",data:=.cell none }) rfl
   rw [Heap.size_push] at this
   exact this
section
variable {X:Cx}{sc:Scope}{N':List Str}{cap:List (Option Nat)}{xc:Str}{tg elt iter:Expr}{ifs:List Expr}{pos:Pos}{g:TG}{tc:TT}{te:TE}
theorem Y0 {Aa:List (Addr × Obj)}{σ:St}{H:Hp}{s:Shared}{J:It}{fp:List Addr}{it:Addr}{tn:Nat->Heap->Prop}{RR:Value->Addr->Result->Shared->Prop}{Q:Addr->Hp->Prop}{E:Value->Shared->Prop}
 (o:P8 X sc N' cap xc) (hcm:X.calm=true) (hg:∀ C c s₀ H₀ fp,PG (Cw X sc N' xc C c s₀ H₀ fp) tg g) (ht:∀ C c s₀ H₀ fp,PTs (Cw X sc N' xc C c s₀ H₀ fp) ifs tc) (he:∀ C c s₀ H₀ fp,PE (Cw X sc N' xc C c s₀ H₀ fp) elt te)
 (I:Inv X Aa σ H s) (T:Turn X.prog X.w X.K tg J fp it tn) (st:tn 0 s.heap) (hf:∀ b∈fp,FpOk X Aa H b)
 (h:∀ D,H D=none->RunC J g tc te D (Q D) (capS cap σ) (upd H D (.lst [])))
 (hR:∀ D C s' H' m',H D=none->s.heap.objs.size<=C->s'.os=s.os->AllBare s'.gens->Un (frs X.stack) fp H H' s.heap s'.heap->HOk X.prog X.w H' s'.heap->s'.heap.Ns C m'->H' C=none->C ∉ fp->Q D H'->RR (.ref D) C (.ok .next) s') :
 wpAny (model X.prog X.w) X.A (newList []) (fun acc s₃=>wpAny (model X.prog X.w) X.A (newFunctionEnv sc X.env.globals (clOf X.env.cells sc.names []) [] X.env.qual none .none (some X.env)) (fun cenv s₄ =>
  codeAny (model X.prog X.w) X.A (.compStart (.ListComp elt [⟨tg,iter,ifs,0⟩] sc pos) 0 (.ref it) acc { cenv with scope:=relabel sc X.env }) (RR acc cenv.locals) s₄) E s₃) E s:=by
 have hb:∀ b∈fp,b<s.heap.objs.size:=fun b hb=>by
  obtain⟨ob,e,_⟩:=T.obj _ _ st b hb
  exact Heap.lt_size e
 refine wpAny_newObj_type (newEnv_cell o.one o.push (fun h₁ hns₁ hcell₁ hk₁=>?_))
 dsimp only at hns₁ hcell₁ hk₁ ⊢
 generalize hH2:s.heap.push { cls:=.type "list",dict:=none,data:=.seq ([]:List Value).toArray }=H2 at hns₁ hcell₁ hk₁ ⊢
 have hC:H2.objs.size=s.heap.objs.size+1:=by rw [←hH2,Heap.size_push]
 have hCl:s.heap.objs.size<=H2.objs.size:=by rw [hC];exact Nat.le_succ _
 have hcl:s.heap.objs.size<=H2.objs.size+1:=Nat.le_succ_of_le hCl
 have old:∀ b ob,s.heap.get? b=some ob->h₁.get? b=some ob:=fun b ob e=>hk₁ b ob (hH2▸Heap.get?_push_of_some _ e)
 have hl:h₁.get? s.heap.objs.size=some { cls:=.type "list",data:=.seq #[] 0 }:=hk₁ _ _ (hH2▸Heap.get?_push_size _ rfl)
 have I4:Inv (Cw X sc N' xc H2.objs.size (H2.objs.size+1) s H fp) [] (capS cap σ) (upd H s.heap.objs.size (.lst [])) { s with heap:=h₁ }:=Am7 (t:=s.toks) o I rfl hC (by rw [hC]) hf hb hns₁ hcell₁ hl old
 have hfr:H s.heap.objs.size=none:=I.fresh
 have f4:∀ b∈fp,FpOk (Cw X sc N' xc H2.objs.size (H2.objs.size+1) s H fp) [] (upd H s.heap.objs.size (.lst [])) b:=fun b hb'=>by
  obtain⟨f0,f1,f2,f3,f4,f5⟩:=hf b hb'
  have lb:=hb b hb'
  refine⟨by rw [Ah (Nat.ne_of_lt lb)];exact f0,(Nat.ne_of_lt (Nat.lt_of_lt_of_le lb hCl):b≠H2.objs.size),fun z=>?_,.inl hb',fun x a e=>?_,fun p hp=>absurd hp (by simp [Cw])⟩
  . rcases List.mem_cons.mp (I.stkSub b z) with e | e
    . exact f1 e
    . exact f2 e
  . rcases X8 e with ⟨_,rfl⟩|⟨_,e⟩
    . exact Nat.ne_of_gt (Nat.lt_of_lt_of_le lb hcl)
    . exact f4 x a (B3 (o.cells I.ok) (fun z=>by simp at z) e)
 have st4:tn 0 h₁:=T.keep _ _ _ st fun b _ ob e=>old b ob e
 have loop:∀ s₅:Shared,s₅={ s with heap:=h₁ } →
  codeAny (model X.prog X.w) X.A (.compLoop (.ListComp elt [⟨tg,iter,ifs,0⟩] sc pos) 0 (.ref it) (.ref s.heap.objs.size) (Cw X sc N' xc H2.objs.size (H2.objs.size+1) s H fp).env) (RR (.ref s.heap.objs.size) H2.objs.size) s₅:=by
  rintro s₅ rfl
  refine V9 (Y:=Cw X sc N' xc H2.objs.size (H2.objs.size+1) s H fp) (J:=J) (fp:=fp) (tn:=tn) (Q:=Q s.heap.objs.size) rfl hcm (hg _ _ _ _ _) (ht _ _ _ _ _) (he _ _ _ _ _) T st4 f4 I4 (h _ hfr) fun τ' H' s' I' q'=>?_
  obtain⟨m',hn',_⟩:=I'.loc
  exact hR _ _ s' H' m' hfr hCl I'.os I'.bare I'.base I'.hok hn' I'.free (fun z=>absurd (Nat.lt_of_lt_of_le (hb _ z) hCl) (Nat.lt_irrefl _)) q'
 exact codeAny_compStart_list (loop _ rfl) (T.self _ 0 _ _ _ st4 (loop _ rfl))
theorem Aq8 {wi:TI}{i:Nat}{x:Str}{px spos:Pos} (hN:X.N.Nodup) (hi':X.N[i]?=some x) (hx:Loc X.env.scope x) (hcm:X.calm=true) (hcap:A56 X.env.scope X.N sc N' cap xc=true) (one:∀ n cl,cellsFrom n sc.names cl=(xc,n)::cl) (push:∀ h,pushCells h sc.names=h.push { cls:=.type "cell",data:=.cell none }) (hi:PI X tg iter wi)
 (hg:∀ C c s₀ H₀ fp,PG (Cw X sc N' xc C c s₀ H₀ fp) tg g) (ht:∀ C c s₀ H₀ fp,PTs (Cw X sc N' xc C c s₀ H₀ fp) ifs tc) (he:∀ C c s₀ H₀ fp,PE (Cw X sc N' xc C c s₀ H₀ fp) elt te)
 (hsw:swapsWith (.ListComp elt [⟨tg,iter,ifs,0⟩] sc pos) (some (.Name x px)) spos.line X.env=pure true:=by rfl)
 (hs:∀ x,foldedSetIterable iter X.env x=pure x:=by intro _;rfl) (hf:X.fn x=true\/X.env.scope.names.lookup x=some .local:=by first | exact .inl rfl | exact .inr rfl | assumption) :
 PS X (.Assign [.Name x px] (.ListComp elt [⟨tg,iter,ifs,0⟩] sc pos) spos) (tAsg (Az1 wi cap g tc te) (n0 i)):=by
 intro Aa s σ H D I h
 have o:P8 X sc N' cap xc:=Av9 hcap one push
 rw [exec_Assign_Name_used _ _ _ _ hsw]
 refine wpAny_bind (wpAny_standAt (wpAny_bind ?_))
 show wpAny _ X.A (do let _ ←comprehension (.ListComp elt [⟨tg,iter,ifs,0⟩] sc pos) sc X.env _ (newList []) false (eval iter X.env) (some (assign (.Name x px) X.env))) _ _ s
 refine wpAny_bind (thn (wpAny_comprehension_free (use:=some (assign (.Name x px) X.env)) (Q:=fun _ s'=>SP X Aa D .next s') rfl hs (Mi (o.cells I.ok)) o.kind o.locals
  (thn (hi Aa s σ H _ I h) fun v s1 h1=>thn h1 fun itv s2 h2=>?_)) fun _ s' hq=>wpAny_pure (wpAny_pure hq))
 obtain⟨it,fp,tn,J,H2,e,I2,T,st2,f2,hW⟩:=h2
 subst e
 refine Y0 (RR:=fun acc C=>compPost (model X.prog X.w) X.A X.xe (some (assign (.Name x px) X.env)) (fun _ s'=>SP X Aa D .next s') acc C) (Q:=fun A H'=>n0 i (.ref A) σ H' D.nx) o hcm hg ht he I2 T st2 f2 hW ?_
 intro A C s' H' m' hD hC hos hbare hun hok hn hHC hCf q
 have I3:Inv X Aa σ H' s':=I2.call' hos hun hok hbare (Inv.fpCh f2)
 have f3:FpOk X Aa H' C:=I2.fpOk hC hHC
 obtain⟨_,k1,_,k3,k4,k5⟩:=f3
 show wpAny _ X.A (assign (.Name x px) X.env (.ref A)) _ _ s'
 refine wpAny_assign_Name (Nv I3 hN hi' hx (v:=.ref A) rfl (fun s'' I'' ⟨a,hsb,ha⟩=>?_) hf)
 have hCa:C≠a:=by
  rcases ha with z | z
  . rw [z];exact k1
  . exact fun z'=>k4 x a z z'.symm
 refine⟨m',hn.sameBut hsb hCa,fun h' hsb'=>?_⟩
 have I4:Inv X Aa (σ.set i (some (.ref A))) H' { s'' with heap:=h' }:=I''.turned (t':=s''.toks) (fun b ob hb e=>(hsb'.2 b hb).trans e) hHC k1 k3 k4 k5
 exact ⟨_,H',I4,q⟩
end
end L2
namespace Hb
open PySem L2
section
variable {H H1:Hp}{a:Addr}{ms:Ms}{k v:Int}
theorem A50 (rd:Rd H a (.dK (cK ms))):DGet H a (.int k) ((lookI ms k).map V.int):=.inl ⟨cK ms,.inl k,rd,rfl,(R3 ms k).symm⟩
theorem Yr (rd:Rd H a (.dK (cK ms))) (h:lookI ms k=some v):DGet H a (.int k) (some (.int v)):=.inl ⟨cK ms,.inl k,rd,rfl,by rw [R3,h];rfl⟩
theorem Ak5 (h:H a=some (.dK (cK ms))) (hl:ms.length<=1000000):DPut H a (.int k) (.int v) (upd H a (.dK (cK (putI ms k v)))):=by
 rw [←Bd0]
 exact .inl ⟨cK ms,.inl k,h,rfl,by unfold cK;rw [List.length_map];exact Cc hl,rfl⟩
theorem An8 {i:Nat}{kk:Key}{x:V} (h:(cK ms)[i]?=some (kk,x)):∃ p:Int × Int,ms[i]?=some p/\kk=.inl p.1/\x=.int p.2:=by
 unfold cK at h
 rw [List.getElem?_map] at h
 cases e:ms[i]? with
 | none=>rw [e] at h;cases h
 | some p =>
   rw [e] at h
   have:=Option.some.inj h
   simp only [Prod.mk.injEq] at this
   exact ⟨p,rfl,this.1.symm,this.2.symm⟩
theorem Mw:(cK ms).length=ms.length:=by unfold cK;rw [List.length_map]
theorem Aw2 {o:HO} (h:H a=some o):upd H a o=H:=by
 funext b
 by_cases e:b=a
 . rw [e,Ad,h]
 . rw [Ah e]
theorem Zn {x:HO}{D:Addr} (h:(upd H a x) D=none):H D=none/\D≠a:=by
 have n:D≠a:=fun z=>by rw [z,Ad] at h;cases h
 rw [Ah n] at h
 exact ⟨h,n⟩
end
def newC (H:Hp) (ms:Ms) (Q:V->Hp->Prop):Prop:=∀ (D:Addr) (H':Hp),H D=none->Same H H'->H' D=some (.dK (cK ms))->Q (.ref D) H'
section
variable (K:W.Frag)
def Gx (_K:W.Frag):Sp:=fun vs H Q _=>∃ (a:Addr) (ms:Ms) (k n:Int),vs=[.ref a,.int k,.int n]/\H a=some (.dK (cK ms))/\ms.length<=1000000/\Q .non (upd H a (.dK (cK (addI ms k n))))
def W8 (_K:W.Frag):Sp:=fun vs H Q _=>∃ (a b:Addr) (ms ns:Ms),vs=[.ref a,.ref b]/\Rd H a (.dK (cK ms))/\H b=some (.dK (cK ns))/\ms.length<=1000/\ns.length<=1000/\newC H (De ms ns) Q
def Sl (_K:W.Frag):Sp:=fun vs H Q _=>∃ (n:Int) (a:Addr) (ms:Ms),vs=[.int n,.ref a]/\H a=some (.dK (cK ms))/\ms.length<=1000/\(∀ p∈ms,IntMulOk n p.2)/\newC H (A5 n ms) Q
end
end Hb
namespace Hb
open PySem L2
def modI (p:Int) (ms:Ms):Ms:=(ms.filter fun q=>decide (q.2%p≠0)).map fun q=>(q.1,q.2%p)
def A2 (ms:Ms):List Int:=ms.map (·.1)
theorem At5 {p:Int}{ms:Ms}{x:Int} (h:x∈A2 (modI p ms)):x∈A2 ms:=by
 unfold A2 modI at h
 rw [List.map_map] at h
 obtain⟨q,hq,rfl⟩:=List.mem_map.mp h
 exact List.mem_map.mpr ⟨q,(List.mem_filter.mp hq).1,rfl⟩
theorem Ax6 {p:Int}{ms:Ms} (h:nd ms):nd (modI p ms):=by
 unfold nd modI
 rw [List.map_map]
 exact (List.filter_sublist.map _).nodup h
theorem J1 {p:Int}:∀{ms:Ms},nd ms->∀ k,getI (modI p ms) k=getI ms k%p
 | [],_,k=>by simp [modI,getI,lookI]
 | q::ms,h,k=>by
   have h2:nd ms:=(List.nodup_cons.mp h).2
   have h1:q.1 ∉ ms.map (·.1):=(List.nodup_cons.mp h).1
   have ih:=J1 (p:=p) h2 k
   rw [Ht]
   unfold modI at ih ⊢
   by_cases hq:q.2%p≠0
   . rw [List.filter_cons_of_pos (by simpa using hq),List.map_cons,Ht]
     by_cases hk:q.1=k
     . rw [if_pos hk,if_pos hk]
     . rw [if_neg hk,if_neg hk];exact ih
   . rw [List.filter_cons_of_neg (by simpa using hq),ih]
     by_cases hk:q.1=k
     . rw [if_pos hk,←hk,Cb h1]
       have:q.2%p=0:=by simpa using hq
       rw [this];simp
     . rw [if_neg hk]
structure OkM (p:Int) (ms:Ms):Prop where
 nd:nd ms
 bd:∀ q∈ms,0<q.2/\q.2<p
theorem OkM.nz {p:Int}{ms:Ms} (h:OkM p ms):nz ms:=fun q hq=>by have:=(h.bd q hq).1;omega
theorem Ag4 {p:Int}{ms:Ms} (h:nd ms) (hp:0<p):OkM p (modI p ms):=by
 refine⟨Ax6 h,fun q hq=>?_⟩
 obtain⟨r,hr,rfl⟩:=List.mem_map.mp hq
 have h1:r.2%p≠0:=by simpa using (List.mem_filter.mp hr).2
 have h2:=Int.emod_nonneg r.2 (show p≠0 by omega)
 have h3:=Int.emod_lt_of_pos r.2 hp
 exact ⟨by omega,h3⟩
theorem A32 (p:Int) (ms:Ms):(modI p ms).length<=ms.length:=by
 unfold modI
 rw [List.length_map]
 exact List.length_filter_le ..
theorem Aj1 {ms:Ms} (h:nz ms) {k:Int}:getI ms k≠0↔k∈A2 ms:=by
 constructor
 . intro hk
   by_cases hm:k∈ms.map (·.1)
   . exact hm
   . exact absurd (Cb hm) hk
 . intro hk hz
   have e:=At8 h k
   rw [if_pos hz] at e
   obtain⟨q,hq,rfl⟩:=List.mem_map.mp hk
   unfold lookI at e
   cases hf:ms.find? (fun p=>decide (p.1=q.1)) with
   | none=>exact absurd (List.find?_eq_none.mp hf q hq) (by simp)
   | some r=>rw [hf] at e;simp at e
theorem Hs (n:Int):∀ (ms:Ms) (k:Int),getI (A5 n ms) k=n*getI ms k:=fun ms k=>by
 unfold A5
 by_cases hn:n=0
 . rw [if_pos hn,hn];simp [getI,lookI]
 . rw [if_neg hn]
   induction ms with
   | nil=>simp [getI,lookI]
   | cons q ms ih =>
     rw [List.map_cons,Ht,Ht,ih]
     split<;>rfl
structure Top (ms:Ms) (b:Int):Prop where
 mem:b∈A2 ms
 le:∀ x∈A2 ms,x<=b
theorem Top.one {ms:Ms}{b c:Int} (h1:Top ms b) (h2:Top ms c):b=c:=by
 have:=h1.le c h2.mem
 have:=h2.le b h1.mem
 omega
theorem Xh {p f b:Int}{es fs:Ms} (hp:0<p) (he:OkM p es) (hf:OkM p fs) (te:Top es b) (tf:Top fs b) (hinv:p∣1-f*getI fs b) :
 OkM p (modI p (De es (A5 (-(getI es b)*f) fs)))/\∀ x∈A2 (modI p (De es (A5 (-(getI es b)*f) fs))),x<b/\(x∈A2 es\/x∈A2 fs):=by
 have ndt:nd (A5 (-(getI es b)*f) fs):=by
  unfold A5
  split
  . exact List.nodup_nil
  . exact Iq hf.nd _
 obtain⟨n1,n2,n3,n4⟩:=Jz (A5 (-(getI es b)*f) fs) es he.nd he.nz ndt
 have gt:∀ k,getI (A5 (-(getI es b)*f) fs) k=(-(getI es b)*f)*getI fs k:=fun k=>Hs _ fs k
 have ok:=Ag4 n1 hp
 refine⟨ok,fun x hx=>?_⟩
 have hx0:=(Aj1 ok.nz).mpr hx
 rw [J1 n1,n4,gt] at hx0
 have hin:x∈A2 es\/x∈A2 fs:=by
  by_cases h1:x∈A2 es
  . exact .inl h1
  by_cases h2:x∈A2 fs
  . exact .inr h2
  . rw [Cb h1,Cb h2] at hx0
    simp at hx0
 refine⟨?_,hin⟩
 have hle:x<=b:=by
  rcases hin with h | h
  . exact te.le x h
  . exact tf.le x h
 have hne:x≠b:=fun z=>by
  rw [z] at hx0
  apply hx0
  obtain⟨d,hd⟩:=hinv
  have:getI es b+-getI es b*f*getI fs b=p*(getI es b*d):=by
   have e:getI es b+-getI es b*f*getI fs b=getI es b*(1-f*getI fs b):=by grind
   rw [e,hd];grind
  rw [this]
  exact Int.mul_emod_right _ _
 omega
end Hb
namespace L2
open PySem PySem.Spec PyProof.Rows PySem.W
section
variable {X:Cx}{J:XJ}{j k:Nat}{C:Addr}{ps:List Str}{sp:Sp}{m:Str}{pos apos:Pos}{e o:Expr}{es:List Expr}{ta:TE}{t:TA}
end
end L2
namespace L2
open PySem PySem.Spec PyProof.Rows PySem.SeqAt
section
variable {X:Cx}
section
variable {o e:Expr}{es:List Expr}{to:TE}{t:TA}{name:Str}{apos cpos:Pos}{id:String}{r:V->List V->Hp->VK->Prop}
end
end
end L2
namespace L2
open PySem PySem.Spec PyProof.Rows
def A40:Expr->Option Int
 | .Constant (.int i) _ _=>some i
 | _=>none
def Vv:List Expr->Option (List Int)
 | []=>some []
 | e::es=>match A40 e,Vv es with
   | some i,some is=>some (i::is)
   | _,_=>none
def A67 (ns:List Int):TA:=fun _ H Q=>Q (ns.map V.int) H
theorem Ad6 {X:Cx}:∀{es:List Expr}{ns:List Int},Vv es=some ns->PA X es (A67 ns)
 | [],ns,h=>by
   cases h
   exact Af
 | e::es,ns,h=>by
   unfold Vv at h
   cases e1:A40 e with
   | none=>rw [e1] at h;cases h
   | some i =>
     cases e2:Vv es with
     | none=>rw [e1,e2] at h;cases h
     | some is =>
       rw [e1,e2] at h
       cases h
       unfold A40 at e1
       split at e1
       case h_2=>cases e1
       case h_1 =>
        cases e1
        exact Ab Ai (Ad6 e2)
end L2
namespace L2
open PySem PySem.Spec PyProof.Rows
structure PAw (X:Cx) (es:List Expr) (t:TA):Prop where
 h:PA X es t
theorem As0 {X:Cx}{es:List Expr}{ns:List Int} (h:Vv es=some ns):PAw X es (A67 ns):=⟨Ad6 h⟩
end L2
namespace Hb
open PySem L2
def Y9 (xs:List (List Int)):Prop:=∀ x∈xs,x.length=0\/x.length=2\/x.length=3\/x.length=4
theorem Cu {α:Type}{l:List α}{i:Nat}{d:α} (h:i<l.length):l.getD i d∈l:=by
 rw [List.getD_eq_getElem?_getD,List.getElem?_eq_getElem h]
 exact List.getElem_mem h
theorem Y9.at {xs:List (List Int)} (h:Y9 xs) {f:Int} (h0:0<=f) (h1:f<(xs.length:Int)):(xs.getD f.toNat []).length=0\/(xs.getD f.toNat []).length=2\/(xs.getD f.toNat []).length=3\/(xs.getD f.toNat []).length=4:=h _ (Cu (by omega))
section
variable (K:W.Frag)
def Ki (_K:W.Frag):Sp:=fun vs H Q _=>∃ (c j m:Int),vs=[.int c,.int j,.int m]/\0<m/\∀ (r:Int) (H':Hp),Same H H'->0<=r->r<m->Q (.int r) H'
def N3:Sp:=fun vs H Q _=>∃ (a:Addr) (xs:List (List Int)) (c:Int),vs=[.ref a,.int c]/\LT K H (.ref a) xs/\xs.length<=1000/\∀ (w:V) (p:List Int) (H':Hp),Same H H'->TI K H' w p->Q w H'
def N4:Sp:=fun vs H Q _=>∃ (a:Addr) (xs:List (List Int)) (c:Int),vs=[.ref a,.int c]/\LT K H (.ref a) xs/\Y9 xs/\xs.length<=1000/\∀ (w:V) (p:List Int) (H':Hp),Same H H'->TI K H' w p->Q w H'
end
end Hb
namespace Hb
open PySem L2
theorem My {sp:List Int}{x:Int} (h0:0<=x) (h1:x<(sp.length:Int)):atI (sp.map V.int) x=some (.int (sp.getD x.toNat 0)):=by
 obtain⟨j,rfl⟩:=Int.eq_ofNat_of_zero_le h0
 have hj:j<sp.length:=by omega
 rw [Int.toNat_natCast]
 exact Co (by rw [List.getElem?_map,List.getElem?_eq_getElem hj,List.getD_eq_getElem?_getD,List.getElem?_eq_getElem hj];rfl)
end Hb
namespace Hb
end Hb
namespace Hb
open PySem L2
section
variable {K:W.Frag}{H:Hp}
end
section
variable (K:W.Frag)
end
end Hb
namespace L2
open PySem PySem.Spec PyProof.Rows
abbrev TJ:=St->Hp->(Hp->Prop)->Prop
section
variable {X:Cx}{e v₁ v₂:Expr}{es rest:List Expr}{te:TE}{tj:TJ}{pos:Pos}
end
end L2
namespace Hb
open PySem L2
section
variable (K:W.Frag)
end
end Hb
namespace L2
open PySem PySem.Spec PyProof.Rows PySem.SeqAt
section
variable {X:Cx}{n:Nat}{K:W.Frag}
end
end L2
namespace L2
open PySem PySem.Spec PyProof.Rows
section
variable {prog:Program}{w:World}{A:Around}{E:Value->Shared->Prop}{s:Shared}
theorem Ec {j t:Addr}{n:Nat}{vs:Array Value}{x:Value}{Q:Value->Shared->Prop} (g:s.heap.IsTupleIter j t n) (gt:s.heap.IsTuple t vs) (gx:vs[n]?=some x)
 (k:∀ h',h'.IsTupleIter j t (n+1)->Heap.SameBut j s.heap h'->Q x { s with heap:=h' }):wpAny (model prog w) A (Builtin.SmallTypes.nextOf (.ref j)) Q E s:=by
 obtain⟨o,q1,q2,q3⟩:=id g
 obtain⟨p,p1,_,m,p2⟩:=gt
 unfold Builtin.SmallTypes.nextOf;refine wpAny_bind (wpAny_callSpecial?_slot (name:=Str.ofString "__next__") g.typeIs F.slot_tuple_iterator_next (wpAny_call_entry F.slot_tuple_iterator_next g.typeIs F.entry_tuple_iterator_next ?_ (F.args_tuple_iterator_next_1 _)))
 show wpAny _ _ (field (.ref j) 0>>=_) _ _ s;refine wpAny_bind (wpAny_field q1 q3 (x:=.ref t) rfl ?_)
 show wpAny _ _ (if (Value.ref t==Value.none)=true then _ else _) _ _ s;rw [if_neg (show ¬((Value.ref t==Value.none)=true) from Bool.false_ne_true)]
 show wpAny _ _ (field (.ref j) 1>>=_) _ _ s;refine wpAny_bind (wpAny_field q1 q3 (x:=.int n 0) rfl ?_)
 show wpAny _ _ (seqItems? (.ref t)>>=_) _ _ s;refine wpAny_bind (wpAny_seqItems p1 p2 ?_)
 simp only [Int.toNat_natCast,gx]
 refine wpAny_bind (wpAny_setField q1 q3 (by simp) (wpAny_pure ⟨x,rfl,wpAny_pure (k _ ?_ (Heap.SameBut.update ..))⟩))
 exact ⟨_,Heap.get?_update_self _ q1 (Obj.isFreed_of_fields (Obj.data_mapFields q3 _)),(Obj.cls_mapFields ..).trans q2,by rw [Obj.data_mapFields q3];simp [rawInt]⟩
theorem Jl {j t:Addr}{n:Nat}{vs:Array Value}{Q:Value->Shared->Prop} (hn:A.handled=none) (g:s.heap.IsTupleIter j t n) (gt:s.heap.IsTuple t vs) (gx:vs[n]?=none)
 (k:∀ h' e,Heap.ExtBut j s.heap h'->(∃ o,h'.get? e=some o/\o.cls=.type "StopIteration")->E (.ref e) { s with heap:=h' }):wpAny (model prog w) A (Builtin.SmallTypes.nextOf (.ref j)) Q E s:=by
 obtain⟨o,q1,q2,q3⟩:=id g
 obtain⟨p,p1,_,m,p2⟩:=gt
 unfold Builtin.SmallTypes.nextOf;refine wpAny_bind (wpAny_callSpecial?_slot (name:=Str.ofString "__next__") g.typeIs F.slot_tuple_iterator_next (wpAny_call_entry F.slot_tuple_iterator_next g.typeIs F.entry_tuple_iterator_next ?_ (F.args_tuple_iterator_next_1 _)))
 show wpAny _ _ (field (.ref j) 0>>=_) _ _ s;refine wpAny_bind (wpAny_field q1 q3 (x:=.ref t) rfl ?_)
 show wpAny _ _ (if (Value.ref t==Value.none)=true then _ else _) _ _ s;rw [if_neg (show ¬((Value.ref t==Value.none)=true) from Bool.false_ne_true)]
 show wpAny _ _ (field (.ref j) 1>>=_) _ _ s;refine wpAny_bind (wpAny_field q1 q3 (x:=.int n 0) rfl ?_)
 show wpAny _ _ (seqItems? (.ref t)>>=_) _ _ s;refine wpAny_bind (wpAny_seqItems p1 p2 ?_)
 simp only [Int.toNat_natCast,gx]
 refine wpAny_bind (wpAny_rule (wpAny_bind (wpAny_setField q1 q3 (by simp) ?_)))
 show wpAny _ _ (newExc (.type "StopIteration") []>>=_) _ _ _;refine wpAny_bind ?_
 simp only [newExc,newTuple];refine wpAny_bind (wpAny_newObj_type ?_ (by size_fits))
 refine wpAny_bind (m:=firstArgMember _ _) (wpAny_of_eq (a:=Value.none) (by first | rfl | (simp only [firstArgMember];rfl)) ?_);refine wpAny_newObj_type ?_ (by size_fits)
 simp only [raiseNew];refine wpAny_bind (wpAny_handled ?_)
 first | rw [show A.in1.handled=none from hn] | rw [hn]
 refine wpAny_bind (wpAny_pure (wpAny_throw ?_));exact k _ _ (((Heap.SameBut.update ..).extBut.push _).push _) ⟨_,Heap.get?_push_size _ rfl,rfl⟩
theorem z6 {z a b i1 i2 t1 t2:Addr}{n m:Nat}{xs ys:Array Value}{x y u v:Value}{Q:Value->Shared->Prop} (D:ZipApart z a b i1 i2 t1 t2) (gz:IsZip s.heap z a b .none) (ga:IsPair s.heap a (.ref i1) (.ref i2)) (gb:IsPair s.heap b u v)
 (g1:s.heap.IsTupleIter i1 t1 n) (g2:s.heap.IsTupleIter i2 t2 m) (e1:s.heap.IsTuple t1 xs) (e2:s.heap.IsTuple t2 ys) (gx:xs[n]?=some x) (gy:ys[m]?=some y)
 (k:∀ h',IsZip h' z a b (rawInt s.heap.objs.size)->IsPair h' b x y->h'.IsTupleIter i1 t1 (n+1)->h'.IsTupleIter i2 t2 (m+1)->IsPair h' s.heap.objs.size x y->h'.objs.size=s.heap.objs.size+1 →
   (∀ c o,c≠z->c≠b->c≠i1->c≠i2->s.heap.get? c=some o->h'.get? c=some o)->Q (.ref s.heap.objs.size) { s with heap:=h' }) :
 wpAny (model prog w) A (Builtin.«zip.__next__» ⟨[.ref z],[]⟩) (fun fin s'=>∃ r,fin=.done (.ret r)/\Q r s') E s:=by
 show wpAny _ _ (field (.ref z) 2>>=_) _ _ _;refine wpAny_bind (wpAny_field gz rfl (x:=.bool false) rfl ?_)
 show wpAny _ _ (field (.ref z) 3>>=_) _ _ _;refine wpAny_bind (wpAny_field gz rfl (x:=.ref a) rfl ?_)
 refine wpAny_bind (wpAny_seqItems ga rfl ?_)
 show wpAny _ _ (Builtin.SmallTypes.ownedTupleIsFree (.ref z)>>=_) _ _ _;refine wpAny_bind ?_;unfold Builtin.SmallTypes.ownedTupleIsFree
 refine wpAny_bind (wpAny_field gz rfl (x:=.none) rfl (wpAny_pure ?_));simp only [if_true]
 refine wpAny_bind (wpAny_rule ?_);refine wpAny_bind (wpAny_field gz rfl (x:=.ref b) rfl ?_)
 refine wpAny_bind (wpAny_setField_rec gz (by simp) fun k1 gz1 w1=>?_)
 replace gz1:IsZip k1 z a b .ellipsis:=gz1
 refine wpAny_bind ?_;simp only [List.zipIdx_cons,List.zipIdx_nil,List.forIn_cons,List.forIn_nil]
 refine wpAny_bind (wpAny_bind (wpAny_onRaise ?_));show wpAny _ _ (Builtin.SmallTypes.nextOf (.ref i1)>>=_) _ _ _
 refine wpAny_bind (Ec (g1.extBut w1.extBut D.i1z) (e1.extBut w1.extBut D.l1z) gx fun k2 f1 w2=>wpAny_pure ?_)
 have gb2:IsPair k2 b u v:=w2.extBut _ _ D.TOi1 (w1.extBut _ _ D.TOz gb)
 refine wpAny_bind (wpAny_seqItems gb2 rfl ?_);refine wpAny_bind (wpAny_updateSeq_pair gb2 fun k3 gb3 w3=>?_)
 replace gb3:IsPair k3 b x v:=gb3
 refine wpAny_bind (wpAny_letGo (wpAny_pure ?_));refine wpAny_bind (wpAny_bind (wpAny_onRaise ?_));show wpAny _ _ (Builtin.SmallTypes.nextOf (.ref i2)>>=_) _ _ _
 refine wpAny_bind (Ec (((g2.extBut w1.extBut D.i2z).extBut w2.extBut D.i12.symm).extBut w3.extBut D.TOi2.symm) (((e2.extBut w1.extBut D.l2z).extBut w2.extBut D.l2i1).extBut w3.extBut D.l2TO) gy fun k4 f2 w4=>wpAny_pure ?_)
 have gb4:IsPair k4 b x v:=w4.extBut _ _ D.TOi2 gb3
 refine wpAny_bind (wpAny_seqItems gb4 rfl ?_);refine wpAny_bind (wpAny_updateSeq_pair gb4 fun k5 gb5 w5=>?_)
 replace gb5:IsPair k5 b x y:=gb5
 refine wpAny_bind (wpAny_letGo (wpAny_pure (wpAny_pure ?_)));refine wpAny_bind (wpAny_seqItems gb5 rfl ?_);refine wpAny_bind (wpAny_newTuple ?_)
 have sz:k5.objs.size=s.heap.objs.size:=by rw [w5.1,w4.1,w3.1,w2.1,w1.1]
 have gz5:IsZip k5 z a b .ellipsis:=w5.extBut _ _ D.TOz.symm (w4.extBut _ _ D.i2z.symm (w3.extBut _ _ D.TOz.symm (w2.extBut _ _ D.i1z.symm gz1)))
 have kp:∀ c o,c≠z->c≠b->c≠i1->c≠i2->s.heap.get? c=some o->k5.get? c=some o:=fun c o c1 c2 c3 c4 e=>w5.extBut _ _ c2 (w4.extBut _ _ c4 (w3.extBut _ _ c2 (w2.extBut _ _ c3 (w1.extBut _ _ c1 e))))
 have f15:k5.IsTupleIter i1 t1 (n+1):=((f1.extBut w3.extBut D.TOi1.symm).extBut w4.extBut D.i12).extBut w5.extBut D.TOi1.symm
 have f25:k5.IsTupleIter i2 t2 (m+1):=f2.extBut w5.extBut D.TOi2.symm
 have lz:z<k5.objs.size:=Heap.lt_size gz5
 show wpAny _ _ (Builtin.SmallTypes.ownedTupleHandOut (.ref z) (.ref k5.objs.size)>>=_) _ _ _;refine wpAny_bind ?_;unfold Builtin.SmallTypes.ownedTupleHandOut
 have gz6:IsZip (k5.push { cls:=.type "tuple",data:=.seq #[x,y] }) z a b .ellipsis:=Heap.get?_push_of_some _ gz5
 refine wpAny_bind (wpAny_setField_rec gz6 (by simp) fun k7 gz7 w7=>?_)
 replace gz7:IsZip k7 z a b (rawInt k5.objs.size):=gz7
 refine wpAny_setField_rec gz7 (by simp) fun k8 gz8 w8=>?_
 replace gz8:IsZip k8 z a b (rawInt k5.objs.size):=gz8
 have up:∀ c o,c≠z->k5.get? c=some o->k8.get? c=some o:=fun c o c1 e=>w8.extBut _ _ c1 (w7.extBut _ _ c1 (Heap.get?_push_of_some _ e))
 have gt:IsPair k8 k5.objs.size x y:=w8.extBut _ _ (Nat.ne_of_gt lz) (w7.extBut _ _ (Nat.ne_of_gt lz) (Heap.get?_push_size _ rfl))
 have s8:k8.objs.size=k5.objs.size+1:=by rw [w8.1,w7.1,Heap.size_push]
 rw [sz] at gz8 gt s8
 refine wpAny_pure ⟨_,rfl,?_⟩;show Q (.ref k5.objs.size) _;rw [sz]
 exact k k8 gz8 (up _ _ D.TOz gb5) (f15.at fun o e=>up _ o D.i1z e) (f25.at fun o e=>up _ o D.i2z e) gt s8 fun c o c1 c2 c3 c4 e=>up c o c1 (kp c o c1 c2 c3 c4 e)
theorem Ap5 {z a b i1 i2 t1 t2:Addr}{n m:Nat}{xs ys:Array Value}{u v:Value}{Q:PySem.Fin->Shared->Prop} (hn:A.handled=none) (D:ZipApart z a b i1 i2 t1 t2) (gz:IsZip s.heap z a b .none) (ga:IsPair s.heap a (.ref i1) (.ref i2)) (gb:IsPair s.heap b u v)
 (g1:s.heap.IsTupleIter i1 t1 n) (g2:s.heap.IsTupleIter i2 t2 m) (e1:s.heap.IsTuple t1 xs) (e2:s.heap.IsTuple t2 ys) (gx:xs[n]?=none)
 (k:∀ h' e,(∀ c o,c≠z->c≠b->c≠i1->c≠i2->s.heap.get? c=some o->h'.get? c=some o)->(∃ o,h'.get? e=some o/\o.cls=.type "StopIteration")->E (.ref e) { s with heap:=h' }) :
 wpAny (model prog w) A (Builtin.«zip.__next__» ⟨[.ref z],[]⟩) Q E s:=by
 show wpAny _ _ (field (.ref z) 2>>=_) _ _ _;refine wpAny_bind (wpAny_field gz rfl (x:=.bool false) rfl ?_)
 show wpAny _ _ (field (.ref z) 3>>=_) _ _ _;refine wpAny_bind (wpAny_field gz rfl (x:=.ref a) rfl ?_)
 refine wpAny_bind (wpAny_seqItems ga rfl ?_)
 show wpAny _ _ (Builtin.SmallTypes.ownedTupleIsFree (.ref z)>>=_) _ _ _;refine wpAny_bind ?_;unfold Builtin.SmallTypes.ownedTupleIsFree
 refine wpAny_bind (wpAny_field gz rfl (x:=.none) rfl (wpAny_pure ?_));simp only [if_true]
 refine wpAny_bind (wpAny_rule ?_);refine wpAny_bind (wpAny_field gz rfl (x:=.ref b) rfl ?_)
 refine wpAny_bind (wpAny_setField_rec gz (by simp) fun k1 gz1 w1=>?_)
 replace gz1:IsZip k1 z a b .ellipsis:=gz1
 refine wpAny_bind ?_;simp only [List.zipIdx_cons,List.zipIdx_nil,List.forIn_cons,List.forIn_nil]
 refine wpAny_bind (wpAny_bind (wpAny_onRaise ?_));show wpAny _ _ (Builtin.SmallTypes.nextOf (.ref i1)>>=_) _ _ _
 refine wpAny_bind (Jl hn (g1.extBut w1.extBut D.i1z) (e1.extBut w1.extBut D.l1z) gx fun k2 e w2 he=>?_)
 obtain⟨oe,ge,ce⟩:=he
 have gz2:IsZip k2 z a b .ellipsis:=w2 _ _ D.i1z.symm gz1
 have ne:e≠z:=fun q=>by subst q;rw [gz2] at ge;cases ge;simp at ce
 refine wpAny_setField_rec gz2 (by simp) fun k3 _ w3=>k k3 e (fun c o c1 _ c3 _ q=>w3.extBut _ _ c1 (w2 _ _ c3 (w1.extBut _ _ c1 q))) ⟨oe,w3.extBut _ _ ne ge,ce⟩
theorem Qx {z a b i1 i2 t1 t2:Addr}{n m:Nat}{xs ys:Array Value}{x y u v:Value}{Q:Option Value->Shared->Prop} (D:ZipApart z a b i1 i2 t1 t2) (gz:IsZip s.heap z a b .none) (ga:IsPair s.heap a (.ref i1) (.ref i2)) (gb:IsPair s.heap b u v)
 (g1:s.heap.IsTupleIter i1 t1 n) (g2:s.heap.IsTupleIter i2 t2 m) (e1:s.heap.IsTuple t1 xs) (e2:s.heap.IsTuple t2 ys) (gx:xs[n]?=some x) (gy:ys[m]?=some y)
 (k:∀ h',IsZip h' z a b (rawInt s.heap.objs.size)->IsPair h' b x y->h'.IsTupleIter i1 t1 (n+1)->h'.IsTupleIter i2 t2 (m+1)->IsPair h' s.heap.objs.size x y->h'.objs.size=s.heap.objs.size+1 →
   (∀ c o,c≠z->c≠b->c≠i1->c≠i2->s.heap.get? c=some o->h'.get? c=some o)->Q (some (.ref s.heap.objs.size)) { s with heap:=h' }):wpAny (model prog w) A (pyNext (.ref z)) Q E s:=by
 have ht:s.TypeIs (.ref z) "zip":=⟨_,gz,rfl⟩
 unfold pyNext
 exact wpAny_bind (wpAny_attempt (wpAny_callSpecial?_slot (name:=Str.ofString "__next__") ht F.slot_zip_next (wpAny_call_entry F.slot_zip_next ht F.entry_zip_next (z6 D gz ga gb g1 g2 e1 e2 gx gy fun h' a1 a2 a3 a4 a5 a6 a7=>wpAny_pure (k h' a1 a2 a3 a4 a5 a6 a7)) (F.args_zip_next_1 _))))
theorem Tl {z a b i1 i2 t1 t2:Addr}{n m:Nat}{xs ys:Array Value}{u v:Value}{Q:Option Value->Shared->Prop} (hn:A.handled=none) (D:ZipApart z a b i1 i2 t1 t2) (gz:IsZip s.heap z a b .none) (ga:IsPair s.heap a (.ref i1) (.ref i2)) (gb:IsPair s.heap b u v)
 (g1:s.heap.IsTupleIter i1 t1 n) (g2:s.heap.IsTupleIter i2 t2 m) (e1:s.heap.IsTuple t1 xs) (e2:s.heap.IsTuple t2 ys) (gx:xs[n]?=none)
 (k:∀ h',(∀ c o,c≠z->c≠b->c≠i1->c≠i2->s.heap.get? c=some o->h'.get? c=some o)->Q none { s with heap:=h' }):wpAny (model prog w) A (pyNext (.ref z)) Q E s:=by
 have ht:s.TypeIs (.ref z) "zip":=⟨_,gz,rfl⟩
 unfold pyNext
 refine wpAny_bind (wpAny_attempt (wpAny_callSpecial?_slot (name:=Str.ofString "__next__") ht F.slot_zip_next (wpAny_call_entry F.slot_zip_next ht F.entry_zip_next (Ap5 hn D gz ga gb g1 g2 e1 e2 gx fun h' e kp he=>?_) (F.args_zip_next_1 _))))
 obtain⟨o,q1,q2⟩:=he
 exact wpAny_bind (wpAny_isInstance (T:="StopIteration") (b:=true) ⟨o,q1,q2⟩ isSubtype_stop (wpAny_pure (k _ kp)))
end
abbrev zt1 (h:Heap) (a:Addr):Heap:=h.push { cls:=.type "tuple_iterator",data:=.fields #[.ref a,.int 0 0] }
abbrev zt2 (h:Heap) (a b:Addr):Heap:=(zt1 h a).push { cls:=.type "tuple_iterator",data:=.fields #[.ref b,.int 0 0] }
abbrev zt3 (h:Heap) (a b:Addr):Heap:=(zt2 h a b).push { cls:=.type "tuple",data:=.seq #[.ref h.objs.size,.ref (zt1 h a).objs.size] }
abbrev zt4 (h:Heap) (a b:Addr):Heap:=(zt3 h a b).push { cls:=.type "tuple",data:=.seq #[.none,.none] }
abbrev zt5 (h:Heap) (a b:Addr):Heap:=(zt4 h a b).push { cls:=.type "zip",data:=.fields #[.none,.bool false,.bool false,.ref (zt2 h a b).objs.size,.ref (zt3 h a b).objs.size] }
theorem Ap4 (a b:Addr) (xs ys:Array Value):Meets (Builtin.«zip.__new__» ⟨[.type "zip",.ref a,.ref b],[]⟩) (fun _ R s=>s.heap.IsTuple a xs/\s.heap.IsTuple b ys/\R (.ok (.ret (.ref (zt4 s.heap a b).objs.size))) { s with heap:=zt5 s.heap a b }) :=
 .of_wp fun prog w A R s h=>by
  obtain⟨hp,g,d,tk,os⟩:=s;obtain⟨h1,h2,h⟩:=h
  have hsub:=sub_zip
  have g1:Heap.IsTuple (Shared.heap ⟨hp,g,d,tk,os⟩) a xs:=h1
  have g2:Heap.IsTuple (Shared.heap ⟨hp.push { cls:=.type "tuple_iterator",data:=.fields #[.ref a,.int 0 0] },g,d,tk,os⟩) b ys:=Heap.IsTuple.push h2 _
  wp_walk using wpAny_pyIter_tuple g1,wpAny_pyIter_tuple g2
  exact ⟨_,rfl,h⟩
section
variable {prog:Program}{w:World}{A:Around}{E:Value->Shared->Prop}{s:Shared}
theorem An5 {a b:Addr}{xs ys:Array Value}{Q:Value->Shared->Prop} (h1:s.heap.IsTuple a xs) (h2:s.heap.IsTuple b ys)
 (k:∀ h',IsZip h' (s.heap.objs.size+4) (s.heap.objs.size+2) (s.heap.objs.size+3) .none->IsPair h' (s.heap.objs.size+2) (.ref s.heap.objs.size) (.ref (s.heap.objs.size+1)) →
   IsPair h' (s.heap.objs.size+3) .none .none->h'.IsTupleIter s.heap.objs.size a 0->h'.IsTupleIter (s.heap.objs.size+1) b 0->h'.objs.size=s.heap.objs.size+5 →
   (∀ c o,s.heap.get? c=some o->h'.get? c=some o)->Q (.ref (s.heap.objs.size+4)) { s with heap:=h' }):wpAny (model prog w) A (call (.type "zip") [.ref a,.ref b]) Q E s:=by
 refine callType_new F.called_zip (by decide) (F.typeCall_zip_2 _ _) (F.newCall_zip_2 _ _) (fun obj=>F.args_object_init_3 obj _ _) F.entry_zip_new (Ap4 a b xs ys) ⟨h1,h2,?_⟩
 have z1:(zt1 s.heap a).objs.size=s.heap.objs.size+1:=Heap.size_push ..
 have z2:(zt2 s.heap a b).objs.size=s.heap.objs.size+2:=by rw [Heap.size_push,z1]
 have z3:(zt3 s.heap a b).objs.size=s.heap.objs.size+3:=by rw [Heap.size_push,z2]
 have z4:(zt4 s.heap a b).objs.size=s.heap.objs.size+4:=by rw [Heap.size_push,z3]
 have z5:(zt5 s.heap a b).objs.size=s.heap.objs.size+5:=by rw [Heap.size_push,z4]
 have q5:(zt5 s.heap a b).get? (zt4 s.heap a b).objs.size=some _:=Heap.get?_push_size _ rfl
 have q4:(zt5 s.heap a b).get? (zt3 s.heap a b).objs.size=some _:=Heap.get?_push_of_some _ (Heap.get?_push_size _ rfl)
 have q3:(zt5 s.heap a b).get? (zt2 s.heap a b).objs.size=some _:=Heap.get?_push_of_some _ (Heap.get?_push_of_some _ (Heap.get?_push_size _ rfl))
 have q2:(zt5 s.heap a b).get? (zt1 s.heap a).objs.size=some _:=Heap.get?_push_of_some _ (Heap.get?_push_of_some _ (Heap.get?_push_of_some _ (Heap.get?_push_size _ rfl)))
 have q1:(zt5 s.heap a b).get? s.heap.objs.size=some _:=Heap.get?_push_of_some _ (Heap.get?_push_of_some _ (Heap.get?_push_of_some _ (Heap.get?_push_of_some _ (Heap.get?_push_size _ rfl))))
 show _/\_
 rw [z2,z3,z4] at q5
 rw [z1,z2] at q3
 rw [z3] at q4
 rw [z1] at q2
 rw [z4]
 exact ⟨⟨_,q5,rfl⟩,k _ q5 q3 q4 ⟨_,q1,rfl,rfl⟩ ⟨_,q2,rfl,rfl⟩ z5 fun c o x=>Heap.get?_push_of_some _ (Heap.get?_push_of_some _ (Heap.get?_push_of_some _ (Heap.get?_push_of_some _ (Heap.get?_push_of_some _ x))))⟩
end
def Ityp (K:W.Frag) (a b:Addr):It :=
 ⟨fun i H=>∃ xs ys x y,SqT K H a xs/\SqT K H b ys/\xs[i]?=some x/\ys[i]?=some y,
  fun i H v H'=>∃ p x y,H p=none/\v=.ref p/\H'=upd H p (.tup [x,y])/\(∀ xs,SqT K H a xs->xs[i]?=some x)/\∀ ys,SqT K H b ys->ys[i]?=some y,
  fun i H=>∃ xs ys,SqT K H a xs/\SqT K H b ys/\xs.length<=i⟩
theorem z8 {P:Program}{w:World}{K:W.Frag}{es:List Expr}{x1:Nat}{tpos:Pos} (a b z TI TO i1 i2:Addr) (D:ZipApart z TI TO i1 i2 a b) :
 Turn P w K (.Tuple es x1 tpos) (Ityp K a b) [z,TI,TO,i1,i2] z (fun i h=>IsZip h z TI TO .none/\IsPair h TI (.ref i1) (.ref i2)/\(∃ c d,IsPair h TO c d)/\h.IsTupleIter i1 a i/\h.IsTupleIter i2 b i) where
 mem:=by simp
 obj:=fun i h st c hc=>by
  obtain⟨hz,hTI,⟨u,v,hTO⟩,⟨o1,h1,c1,d1⟩,⟨o2,h2,c2,d2⟩⟩:=st
  simp only [List.mem_cons,List.not_mem_nil,or_false] at hc
  rcases hc with rfl | rfl | rfl | rfl | rfl
  . exact ⟨_,hz,fun v q=>by cases (show Data.fields _=Data.cell v from q)⟩
  . exact ⟨_,hTI,fun v q=>by cases (show Data.seq _ _=Data.cell v from q)⟩
  . exact ⟨_,hTO,fun v q=>by cases (show Data.seq _ _=Data.cell v from q)⟩
  . exact ⟨o1,h1,fun v q=>by rw [d1] at q;cases q⟩
  . exact ⟨o2,h2,fun v q=>by rw [d2] at q;cases q⟩
 keep:=fun i h h' st k=>by
  obtain⟨hz,hTI,⟨u,v,hTO⟩,h1,h2⟩:=st
  exact ⟨k z (by simp) _ hz,k TI (by simp) _ hTI,⟨u,v,k TO (by simp) _ hTO⟩,h1.at fun o q=>k i1 (by simp) o q,h2.at fun o q=>k i2 (by simp) o q⟩
 item:=by
  intro X hP hw hK hc i Aa s σ H E I hf st hg
  subst hP hw hK
  obtain⟨hz,hTI,⟨u0,v0,hTO⟩,h1,h2⟩:=st
  obtain⟨xs,ys,x,y,hqa,hqb,hx,hy⟩:=hg
  obtain⟨ia,ra,pa,_⟩:=I.tuple hqa
  obtain⟨ib,rb,pb,_⟩:=I.tuple hqb
  obtain⟨u,hu,ru⟩:=ra.get hx
  obtain⟨v,hv,rv⟩:=rb.get hy
  have hfresh:H s.heap.objs.size=none:=I.hok.fresh (Nat.le_refl _)
  have ltz:=Heap.lt_size hz
  refine Qx D hz hTI hTO h1 h2 (show s.heap.IsTuple a ia.toArray from pa) (show s.heap.IsTuple b ib.toArray from pb) (x:=u) (y:=v) (by simpa using hu) (by simpa using hv) fun h' hz' hTO' h1' h2' htup hsz hk=>?_
  refine⟨_,rfl,wpAny_letOwnedTupleGo_zip hz' fun h3 hz3 hsb=>?_⟩
  replace hsb:Heap.SameBut z h' h3:=hsb
  have kk:∀ c o,c ∉ [z,TI,TO,i1,i2]->s.heap.get? c=some o->h3.get? c=some o:=fun c o hc e=>by
   simp only [List.mem_cons,List.not_mem_nil,or_false,not_or] at hc
   obtain⟨n1,n2,n3,n4,n5⟩:=hc
   exact (hsb.2 c n1).trans (hk c o n1 n3 n4 n5 e)
  have ht3:h3.get? s.heap.objs.size=some { cls:=.type "tuple",data:=.seq #[u,v] }:=(hsb.2 _ (Nat.ne_of_gt ltz)).trans htup
  have hi1:h3.IsTupleIter i1 a (i+1):=h1'.at fun o e=>(hsb.2 i1 D.i1z).trans e
  have hi2:h3.IsTupleIter i2 b (i+1):=h2'.at fun o e=>(hsb.2 i2 D.i2z).trans e
  have hTI3:IsPair h3 TI (.ref i1) (.ref i2):=(hsb.2 TI D.TIz).trans (hk _ _ D.TIz D.TITO D.TIi1 D.TIi2 hTI)
  have hTO3:IsPair h3 TO u v:=(hsb.2 TO D.TOz).trans hTO'
  have ntr:∀ c o,H c=some o->c ∉ [z,TI,TO,i1,i2]:=fun c o e hm=>by rw [(hf c hm).1] at e;cases e
  have nsz:∀ c o,H c=some o->c≠s.heap.objs.size:=fun c o e=>Ap e hfresh
  refine⟨.ref s.heap.objs.size,upd H s.heap.objs.size (.tup [x,y]),?_,rfl,⟨s.heap.objs.size,x,y,hfresh,rfl,rfl,fun zs q=>by rw [I.tuple_inj q hqa];exact hx,fun zs q=>by rw [I.tuple_inj q hqb];exact hy⟩,⟨hz3,hTI3,⟨_,_,hTO3⟩,hi1,hi2⟩,fun c hc=>?_⟩
  . refine Inv.step (s:=s) (h':=h3) (t':=s.toks) (H':=upd H s.heap.objs.size (.tup [x,y])) I (g':=s.gens) (d':=s.drawn) (ch:=[z,TI,TO,i1,i2]) (fun c hc=>?_) (fun c o _ _ hc e _=>kk c o hc e) (fun c o _ _ hc e _=>⟨o.slots,kk c o hc e⟩) (fun c o hc e n=>?_) (fun c o hc e=>⟨o,kk c o hc e⟩)
     (fun c zs e=>by rw [Ah (nsz c _ e)];exact e) (fun c o w' e=>by rw [Ah (nsz c _ e)];exact e) (fun c ps e=>⟨#[],by rw [Ah (nsz c _ e),e];simp⟩) (fun m hm=>?_) (fun c w' e=>?_) I.bare
    . have f:=hf c hc
      exact ⟨f.2.2.2.1,f.2.1,f.2.2.2.2.1,f.2.2.2.2.2⟩
    . rw [Ah (Nat.ne_of_lt (Heap.lt_size e))]
      exact n
    . obtain⟨o,es',ep,ho,r⟩:=hm
      exact ⟨o,es',ep,kk _ o (fun q=>(hf _ q).2.1 rfl) ho,r⟩
    . by_cases hcs:c=s.heap.objs.size
      . subst hcs
        rw [Ad] at e
        cases e
        exact ⟨(by show (2:Nat)<=sizeLine;decide),[u,v],.cons ru (.cons rv .nil),⟨_,ht3,rfl,rfl,_,rfl⟩⟩
      . rw [Ah hcs] at e
        refine (I.hok c w' e).stay (fun c' y' hc' q=>?_) (fun c' q=>by rw [Ah (nsz c' _ q)];exact q) fun c' zs q=>by rw [Ah (nsz c' _ q)];exact q
        rcases hc' with rfl | hc'
        . exact kk _ _ (ntr _ _ e) q
        . exact kk _ _ (ntr _ _ hc') q
  . have lb:c<s.heap.objs.size:=by
     simp only [List.mem_cons,List.not_mem_nil,or_false] at hc
     obtain⟨o1,q1,_⟩:=h1
     obtain⟨o2,q2,_⟩:=h2
     rcases hc with rfl | rfl | rfl | rfl | rfl
     . exact ltz
     . exact Heap.lt_size hTI
     . exact Heap.lt_size hTO
     . exact Heap.lt_size q1
     . exact Heap.lt_size q2
    rw [Ah (Nat.ne_of_lt lb)]
    exact (hf c hc).1
 done:=by
  intro X hP hw hK hc i Aa s σ H E I hf st hg
  subst hP hw hK
  obtain⟨hz,hTI,⟨u0,v0,hTO⟩,h1,h2⟩:=st
  obtain⟨xs,ys,hqa,hqb,hx⟩:=hg
  obtain⟨ia,ra,pa,_⟩:=I.tuple hqa
  obtain⟨ib,rb,pb,_⟩:=I.tuple hqb
  have la:=ra.length
  have lb:=rb.length
  refine Tl (I.ok.hd hc) D hz hTI hTO h1 h2 (show s.heap.IsTuple a ia.toArray from pa) (show s.heap.IsTuple b ib.toArray from pb) ?_ fun h' hk=>⟨rfl,I.turnedN (t':=s.toks) (fp:=[z,TI,TO,i1,i2]) (fun c o hc e=>?_) hf⟩
  . simp;omega
  . simp only [List.mem_cons,List.not_mem_nil,or_false,not_or] at hc
    obtain⟨n1,n2,n3,n4,n5⟩:=hc
    exact hk c o n1 n3 n4 n5 e
 self:=fun _ _ _ _ _ st h=>wpAny_pyIter_zip st.1 h
def Bf6 (K:W.Frag) (ta:TA):TI:=fun σ H R=>ta σ H fun vs H1=>∃ a b,vs=[.ref a,.ref b]/\(∃ xs,SqT K H1 a xs)/\(∃ ys,SqT K H1 b ys)/\R (Ityp K a b) H1
theorem w9:bootBuiltins "zip"=some (.type "zip"):=by decide +kernel
theorem A10 {X:Cx}{K:W.Frag}{es:List Expr}{x1:Nat}{tpos:Pos}{a b:Expr}{ta:TA}{p pos:Pos} (hg:Gl X "zip") (hm:X.mg "zip"=none) (ha:PA X [a,b] ta) (hK:X.K=K:=by rfl) (hs:starEach [a,b] X.env=[(false,eval a X.env),(false,eval b X.env)]:=by rfl) (hs2:starEach [b] X.env=[(false,eval b X.env)]:=by rfl) :
 PI X (.Tuple es x1 tpos) (.Call (.Name "zip" p) [a,b] [] pos) (Bf6 K ta):=by
 subst hK
 intro Aa s σ H R I h
 refine Call_ (Kp I hg hm w9 (PyProof.Rows.callWith_type1 (thn (ha pos Aa s σ H _ I h) fun us s1 ⟨vs,H1,I1,r1,q1⟩=>?_) (by rw [hs,hs2]) (by rw [hs2];rfl)))
 obtain⟨la,lb,e,⟨xs,hqa⟩,⟨ys,hqb⟩,q⟩:=q1
 subst e
 cases r1 with
 | cons ra rr =>
   cases rr with
   | cons rb rr =>
     cases rr
     cases ra
     cases rb
     obtain⟨ia,_,pa,_⟩:=I1.tuple hqa
     obtain⟨ib,_,pb,_⟩:=I1.tuple hqb
     have a1:la<s1.heap.objs.size:=by obtain⟨_,e,_⟩:=pa;exact Heap.lt_size e
     have a2:lb<s1.heap.objs.size:=by obtain⟨_,e,_⟩:=pb;exact Heap.lt_size e
     refine An5 (show s1.heap.IsTuple la ia.toArray from pa) (show s1.heap.IsTuple lb ib.toArray from pb) fun h' hz hTI hTO hi1 hi2 hsz hk=>?_
     refine wpAny_pyIter_zip hz ⟨s1.heap.objs.size+4,[s1.heap.objs.size+4,s1.heap.objs.size+2,s1.heap.objs.size+3,s1.heap.objs.size,s1.heap.objs.size+1],_,_,H1,rfl,I1.kept (t':=s1.toks) hk,z8 la lb _ _ _ _ _ (zipApart_new a1 a2),⟨hz,hTI,⟨_,_,hTO⟩,hi1,hi2⟩,fun c hc=>?_,q⟩
     have lc:s1.heap.objs.size<=c:=by
      simp only [List.mem_cons,List.not_mem_nil,or_false] at hc
      rcases hc with rfl | rfl | rfl | rfl | rfl
      . exact Nat.le_add_right _ _
      . exact Nat.le_add_right _ _
      . exact Nat.le_add_right _ _
      . exact Nat.le_refl _
      . exact Nat.le_add_right _ _
     exact I1.fpOk lc (I1.hok.fresh lc)
section
variable {g:TG}{tc:TT}{te:TE}{D:Addr}{Q:Hp->Prop}{τ:St}{H:Hp}
theorem Am5 {K:W.Frag}{a b:Addr}{xs ys:List V}{n:Nat} (hn:xs.length=n/\ys.length=n) (Pv:Nat->List V->St->Hp->Prop) (h0:Pv 0 [] τ H) (hl:∀ i zs τ H,i<=n->Pv i zs τ H->SqT K H a xs/\SqT K H b ys)
 (hs:∀ i x y zs τ H p,xs[i]?=some x->ys[i]?=some y->Pv i zs τ H->H p=none->g (.ref p) τ (upd H p (.tup [x,y])) fun τ2 H2=>tc τ2 H2 fun b H3=>if b=true then te τ2 H3 fun y H4=>H4 D=some (.lst zs)/\zs.length<sizeLine/\Pv (i+1) (zs++[y]) τ2 (upd H4 D (.lst (zs++[y]))) else Pv (i+1) zs τ2 H3)
 (hd:∀ zs τ H,Pv n zs τ H->Q H):RunC (Ityp K a b) g tc te D Q τ H:=by
 refine⟨fun i m zs τ H=>m=n-i/\i<=n/\Pv i zs τ H,⟨n,by simp,Nat.zero_le _,h0⟩,?_⟩
 rintro i m zs τ H ⟨rfl,hi,pp⟩
 obtain⟨qa,qb⟩:=hl i zs τ H hi pp
 by_cases hlt:i<n
 . refine .inr ⟨⟨xs,ys,xs[i],ys[i],qa,qb,by simp<;>omega,by simp<;>omega⟩,Pv (i+1),fun ys' τ' H' p'=>⟨n-(i+1),by omega,rfl,hlt,p'⟩,fun x H' y=>?_⟩
   obtain⟨p,u,v,hp,rfl,rfl,y1,y2⟩:=y
   exact hs i u v zs τ _ p (y1 xs qa) (y2 ys qb) pp hp
 . have e:i=n:=by omega
   subst e
   exact .inl ⟨⟨xs,ys,qa,qb,by omega⟩,hd zs τ H pp⟩
end
end L2
namespace L2
open PySem PySem.Spec PyProof.Rows
open AutoSeq1 (wpAny_loadPart')
theorem Ak2 (t:Addr) (vs:Array Value) (n:Nat) (dd:Option Addr) (sl:Array (Option Value)):Meets (Builtin.«enumerate.__new__» ⟨[.type "enumerate",.ref t],[]⟩) (fun _ R s=>s.heap.get? t=some { cls:=.type "tuple",dict:=dd,data:=.seq vs n,slots:=sl } ∧
 R (.ok (.ret (.ref (zt1 s.heap t).objs.size))) { s with heap:=(zt1 s.heap t).push { cls:=.type "enumerate",data:=.fields #[.none,.bool false,.ref s.heap.objs.size,rawInt 0,.none,.none] } }) :=
 .of_wp fun prog w A R s h=>by
  obtain⟨hp,g,d,tk,os⟩:=s;obtain⟨q1,q2⟩:=h
  have hsub:=sub_enumerate
  have gt:Heap.IsTuple (Shared.heap ⟨hp,g,d,tk,os⟩) t vs:=⟨_,q1,rfl,n,rfl⟩
  wp_walk using wpAny_loadPart' q1
  refine wpAny_stack_any fun st=>wpAny_pure ?_
  split
  . rename_i c _ _ _ _ _
    cases (c==Value.type "enumerate")
    . wp_walk using wpAny_loadPart' q1,wpAny_pyIter_tuple gt
      exact ⟨_,rfl,q2⟩
    . wp_walk using wpAny_loadPart' q1,wpAny_pyIter_tuple gt
      exact ⟨_,rfl,q2⟩
  . wp_walk using wpAny_loadPart' q1,wpAny_pyIter_tuple gt
    exact ⟨_,rfl,q2⟩
section
variable {prog:Program}{w:World}{A:Around}{E:Value->Shared->Prop}{s:Shared}
theorem p6 {e j t:Addr}{n:Nat}{vs:Array Value}{x old:Value}{Q:Value->Shared->Prop} (ge:IsEnum s.heap e j n old) (gj:s.heap.IsTupleIter j t n) (gt:s.heap.IsTuple t vs) (gx:vs[n]?=some x) (ne:e≠j)
 (k:∀ h',IsEnumOut h' e j ((n:Int)+1) x s.heap.objs.size->h'.IsTupleIter j t (n+1)->h'.get? s.heap.objs.size=some { cls:=.type "tuple",data:=.seq #[.int n s.toks,x] }->h'.objs.size=s.heap.objs.size+1 →
   (∀ b o,b≠e->b≠j->s.heap.get? b=some o->h'.get? b=some o)->Q (.ref s.heap.objs.size) { s with heap:=h',toks:=s.toks+1 }) :
 wpAny (model prog w) A (Builtin.«enumerate.__next__» ⟨[.ref e],[]⟩) (fun fin s'=>∃ r,fin=.done (.ret r)/\Q r s') E s:=by
 obtain⟨hp,g,d,tk,os⟩:=s
 show wpAny _ _ (field (.ref e) 2>>=_) _ _ _;refine wpAny_bind (wpAny_field ge rfl (x:=.ref j) rfl ?_)
 refine wpAny_bind (Ec gj gt gx fun k1 gj1 w1=>?_)
 replace w1:Heap.SameBut j hp k1:=w1
 have ge1:IsEnum k1 e j n old:=(w1.2 e ne).trans ge
 show wpAny _ _ (field (.ref e) 3>>=_) _ _ ⟨k1,g,d,tk,os⟩;refine wpAny_bind (wpAny_field ge1 rfl (x:=rawInt n) rfl ?_)
 show wpAny _ _ (field (.ref e) 4>>=_) _ _ ⟨k1,g,d,tk,os⟩;refine wpAny_bind (wpAny_field ge1 rfl (x:=.none) rfl ?_)
 show wpAny _ _ (mkInt n>>=_) _ _ ⟨k1,g,d,tk,os⟩;refine wpAny_bind (wpAny_mkInt ?_)
 show wpAny _ _ (setField (.ref e) 3 (rawInt ((n:Int)+1))>>=_) _ _ ⟨k1,g,d,tk+1,os⟩
 refine wpAny_bind (wpAny_setField_rec ge1 (by simp) fun k2 ge2 w2=>?_)
 replace w2:Heap.SameBut e k1 k2:=w2
 replace ge2:IsEnum k2 e j ((n:Int)+1) old:=ge2
 show wpAny _ _ (setField (.ref e) 4 .none>>=_) _ _ ⟨k2,g,d,tk+1,os⟩;refine wpAny_bind (wpAny_setField_rec ge2 (by simp) fun k3 ge3 w3=>?_)
 replace w3:Heap.SameBut e k2 k3:=w3
 replace ge3:IsEnum k3 e j ((n:Int)+1) old:=ge3
 show wpAny _ _ (newTuple [.int n tk,x]>>=_) _ _ ⟨k3,g,d,tk+1,os⟩;refine wpAny_bind (wpAny_newTuple ?_)
 have ge4:IsEnum (k3.push { cls:=.type "tuple",data:=.seq #[.int n tk,x] }) e j ((n:Int)+1) old:=Heap.get?_push_of_some _ ge3
 generalize hk4:k3.push { cls:=.type "tuple",data:=.seq #[.int n tk,x] }=k4 at ge4
 have sz:k3.objs.size=hp.objs.size:=by rw [w3.1,w2.1,w1.1]
 have le:e<hp.objs.size:=Heap.lt_size ge
 have gt4:k4.get? hp.objs.size=some { cls:=.type "tuple",data:=.seq #[.int n tk,x] }:=by rw [←hk4,←sz];exact Heap.get?_push_size _ rfl
 have sz4:k4.objs.size=hp.objs.size+1:=by rw [←hk4,Heap.size_push,sz]
 have kp4:∀ b o,b≠e->b≠j->hp.get? b=some o->k4.get? b=some o:=fun b o n1 n2 q=>by
  rw [←hk4];exact Heap.get?_push_of_some _ (w3.extBut b o n1 (w2.extBut b o n1 (w1.extBut b o n2 q)))
 have gj4:k4.IsTupleIter j t (n+1):=by
  rw [←hk4];obtain⟨o,q,r⟩:=(gj1.extBut w2.extBut (Ne.symm ne)).extBut w3.extBut (Ne.symm ne);exact ⟨o,Heap.get?_push_of_some _ q,r⟩
 show wpAny _ _ (Builtin.SmallTypes.ownedTupleIsFree (.ref e)>>=_) _ _ ⟨k4,g,d,tk+1,os⟩
 rw [sz];clear hk4 ge3 w3 ge2 w2 ge1 w1 gj1 sz k3 k2 k1
 refine wpAny_bind ?_;unfold Builtin.SmallTypes.ownedTupleIsFree
 refine wpAny_bind (wpAny_field ge4 rfl (x:=.none) rfl (wpAny_pure ?_));simp only [if_true]
 refine wpAny_bind (wpAny_rule ?_);refine wpAny_bind (wpAny_field ge4 rfl (x:=old) rfl ?_)
 refine wpAny_bind (wpAny_setField_rec ge4 (by simp) fun k5 ge5 w5=>?_)
 replace w5:Heap.SameBut e k4 k5:=w5
 replace ge5:IsEnum k5 e j ((n:Int)+1) x:=ge5
 show wpAny _ _ (Builtin.SmallTypes.ownedTupleHandOut (.ref e) (.ref hp.objs.size)>>=_) _ _ ⟨k5,g,d,tk+1,os⟩;refine wpAny_bind ?_;unfold Builtin.SmallTypes.ownedTupleHandOut
 refine wpAny_bind (wpAny_setField_rec ge5 (by simp) fun k6 ge6 w6=>?_)
 replace w6:Heap.SameBut e k5 k6:=w6
 replace ge6:IsEnumOut k6 e j ((n:Int)+1) x hp.objs.size:=ge6
 refine wpAny_setField_rec ge6 (by simp) fun k7 ge7 w7=>?_
 replace w7:Heap.SameBut e k6 k7:=w7
 replace ge7:IsEnumOut k7 e j ((n:Int)+1) x hp.objs.size:=ge7
 refine wpAny_bind (wpAny_letGo (wpAny_pure ⟨_,rfl,k k7 ge7 ?_ ?_ ?_ ?_⟩))
 . exact ((gj4.extBut w5.extBut (Ne.symm ne)).extBut w6.extBut (Ne.symm ne)).extBut w7.extBut (Ne.symm ne)
 . exact w7.extBut _ _ (Nat.ne_of_gt le) (w6.extBut _ _ (Nat.ne_of_gt le) (w5.extBut _ _ (Nat.ne_of_gt le) gt4))
 . rw [w7.1,w6.1,w5.1,sz4]
 . exact fun b o n1 n2 q=>w7.extBut b o n1 (w6.extBut b o n1 (w5.extBut b o n1 (kp4 b o n1 n2 q)))
theorem Oq {e j t:Addr}{n:Nat}{vs:Array Value}{x old:Value}{Q:Option Value->Shared->Prop} (ge:IsEnum s.heap e j n old) (gj:s.heap.IsTupleIter j t n) (gt:s.heap.IsTuple t vs) (gx:vs[n]?=some x) (ne:e≠j)
 (k:∀ h',IsEnumOut h' e j ((n:Int)+1) x s.heap.objs.size->h'.IsTupleIter j t (n+1)->h'.get? s.heap.objs.size=some { cls:=.type "tuple",data:=.seq #[.int n s.toks,x] }->h'.objs.size=s.heap.objs.size+1 →
   (∀ b o,b≠e->b≠j->s.heap.get? b=some o->h'.get? b=some o)->Q (some (.ref s.heap.objs.size)) { s with heap:=h',toks:=s.toks+1 }):wpAny (model prog w) A (pyNext (.ref e)) Q E s:=by
 have ht:s.TypeIs (.ref e) "enumerate":=⟨_,ge,rfl⟩
 unfold pyNext
 exact wpAny_bind (wpAny_attempt (wpAny_callSpecial?_slot (name:=Str.ofString "__next__") ht F.slot_enumerate_next (wpAny_call_entry F.slot_enumerate_next ht F.entry_enumerate_next (p6 ge gj gt gx ne fun h' a b c d q=>wpAny_pure (k h' a b c d q)) (F.args_enumerate_next_1 _))))
theorem Qy {e j t:Addr}{n:Nat}{vs:Array Value}{old:Value}{Q:Option Value->Shared->Prop} (hn:A.handled=none) (ge:IsEnum s.heap e j n old) (gj:s.heap.IsTupleIter j t n) (gt:s.heap.IsTuple t vs) (gx:vs[n]?=none)
 (k:∀ h',Heap.ExtBut j s.heap h'->Q none { s with heap:=h' }):wpAny (model prog w) A (pyNext (.ref e)) Q E s:=by
 have ht:s.TypeIs (.ref e) "enumerate":=⟨_,ge,rfl⟩
 unfold pyNext
 refine wpAny_bind (wpAny_attempt (wpAny_callSpecial?_slot (name:=Str.ofString "__next__") ht F.slot_enumerate_next (wpAny_call_entry F.slot_enumerate_next ht F.entry_enumerate_next ?_ (F.args_enumerate_next_1 _))))
 show wpAny _ _ (field (.ref e) 2>>=_) _ _ _;refine wpAny_bind (wpAny_field ge rfl (x:=.ref j) rfl ?_)
 refine wpAny_bind (Jl hn gj gt gx fun h' x he hx=>?_)
 obtain⟨o,q1,q2⟩:=hx
 exact wpAny_bind (wpAny_isInstance (T:="StopIteration") (b:=true) ⟨o,q1,q2⟩ isSubtype_stop (wpAny_pure (k _ he)))
theorem v6 {t:Addr}{vs:Array Value}{Q:Value->Shared->Prop} (gt:s.heap.IsTuple t vs)
 (k:∀ h',IsEnum h' (s.heap.objs.size+1) s.heap.objs.size 0 .none->h'.IsTupleIter s.heap.objs.size t 0->h'.objs.size=s.heap.objs.size+2->(∀ b o,s.heap.get? b=some o->h'.get? b=some o)->Q (.ref (s.heap.objs.size+1)) { s with heap:=h' }) :
 wpAny (model prog w) A (call (.type "enumerate") [.ref t]) Q E s:=by
 obtain⟨⟨c,dd,dt,sl⟩,q,qc,n,qd⟩:=gt
 replace qc:c=.type "tuple":=qc
 replace qd:dt=.seq vs n:=qd
 subst qc qd
 refine callType_new F.called_enumerate (by decide) (F.typeCall_enumerate_1 _) (F.newCall_enumerate_1 _) (fun obj=>F.args_object_init_2 obj _) F.entry_enumerate_new (Ak2 t vs n dd sl) ⟨q,?_⟩
 have z1:(zt1 s.heap t).objs.size=s.heap.objs.size+1:=Heap.size_push ..
 show _/\_
 rw [z1]
 have ge:IsEnum ((zt1 s.heap t).push { cls:=.type "enumerate",data:=.fields #[.none,.bool false,.ref s.heap.objs.size,rawInt 0,.none,.none] }) (s.heap.objs.size+1) s.heap.objs.size 0 .none:=by
  have:=Heap.get?_push_size (zt1 s.heap t) (o:={ cls:=.type "enumerate",data:=.fields #[.none,.bool false,.ref s.heap.objs.size,rawInt 0,.none,.none] }) rfl
  rw [z1] at this;exact this
 exact ⟨⟨_,ge,rfl⟩,k _ ge ⟨_,Heap.get?_push_of_some _ (Heap.get?_push_size _ rfl),rfl,rfl⟩ (by rw [Heap.size_push,z1]) fun b o x=>Heap.get?_push_of_some _ (Heap.get?_push_of_some _ x)⟩
end
def IteT (K:W.Frag) (a:Addr):It :=
 ⟨fun i H=>∃ xs x,SqT K H a xs/\xs[i]?=some x,fun i H x H'=>∃ p v,H p=none/\x=.ref p/\H'=upd H p (.tup [.int i,v])/\∀ xs,SqT K H a xs->xs[i]?=some v,fun i H=>∃ xs,SqT K H a xs/\xs.length<=i⟩
theorem Z3 {P:Program}{w:World}{K:W.Frag}{es:List Expr}{x1:Nat}{tpos:Pos} (a e it:Addr) (hne:e≠it):Turn P w K (.Tuple es x1 tpos) (IteT K a) [e,it] e (fun i h=>(∃ old,IsEnum h e it (i:Int) old)/\h.IsTupleIter it a i) where
 mem:=by simp
 obj:=fun i h st b hb=>by
  obtain⟨⟨old,h1⟩,o,h2,c,d⟩:=st
  rcases List.mem_cons.mp hb with rfl | hb
  . exact ⟨_,h1,fun v z=>by cases (show Data.fields _=Data.cell v from z)⟩
  . have z:b=it:=by simpa using hb
    subst z
    exact ⟨o,h2,fun v z=>by rw [d] at z;cases z⟩
 keep:=fun i h h' st k=>by
  obtain⟨⟨old,h1⟩,h2⟩:=st
  exact ⟨⟨old,k e (by simp) _ h1⟩,h2.at fun o z=>k it (by simp) o z⟩
 item:=by
  intro X hP hw hK hc i Aa s σ H E I hf st hg
  subst hP hw hK
  obtain⟨⟨old,h1⟩,h2⟩:=st
  obtain⟨xs,x,hq,hx⟩:=hg
  obtain⟨its,rv,p,hz⟩:=I.tuple hq
  obtain⟨u,hu,ru⟩:=rv.get hx
  have fe:=hf e (by simp)
  have fi:=hf it (by simp)
  have lte:e<s.heap.objs.size:=Heap.lt_size h1
  have hfresh:H s.heap.objs.size=none:=I.hok.fresh (Nat.le_refl _)
  refine Oq h1 h2 (show s.heap.IsTuple a its.toArray from p) (x:=u) (by simpa using hu) hne fun h' hout hit' htup hsz hk=>?_
  refine⟨_,rfl,wpAny_letOwnedTupleGo_enum hout fun h3 hen hsb=>?_⟩
  replace hsb:Heap.SameBut e h' h3:=hsb
  have kk:∀ b o,b≠e->b≠it->s.heap.get? b=some o->h3.get? b=some o:=fun b o n1 n2 z=>(hsb.2 b n1).trans (hk b o n1 n2 z)
  have ht3:h3.get? s.heap.objs.size=some { cls:=.type "tuple",data:=.seq #[.int i s.toks,u] }:=(hsb.2 _ (Nat.ne_of_gt lte)).trans htup
  have hi3:h3.IsTupleIter it a (i+1):=hit'.at fun o z=>(hsb.2 it hne.symm).trans z
  have nch:∀ b,b ∉ [e,it]->b≠e/\b≠it:=fun b hb=>by simpa using hb
  have ntr:∀ b v,H b=some v->b≠e/\b≠it:=fun b v z=>⟨Ap z fe.1,Ap z fi.1⟩
  have nsz:∀ b v,H b=some v->b≠s.heap.objs.size:=fun b v z=>Ap z hfresh
  refine⟨.ref s.heap.objs.size,upd H s.heap.objs.size (.tup [.int i,x]),?_,rfl,⟨s.heap.objs.size,x,hfresh,rfl,rfl,fun ys hy=>by rw [I.tuple_inj hy hq];exact hx⟩,⟨⟨_,hen⟩,hi3⟩,fun b hb=>?_⟩
  . refine Inv.step (s:=s) (h':=h3) (t':=s.toks+1) (H':=upd H s.heap.objs.size (.tup [.int i,x])) I (g':=s.gens) (d':=s.drawn) (ch:=[e,it]) (fun b hb=>?_) (fun b o _ _ hb z _=>kk b o (nch b hb).1 (nch b hb).2 z) (fun b o _ _ hb z _=>⟨o.slots,kk b o (nch b hb).1 (nch b hb).2 z⟩) (fun b o hb z n=>?_) (fun b o hb z=>⟨o,kk b o (nch b hb).1 (nch b hb).2 z⟩)
     (fun b ys z=>by rw [Ah (nsz b _ z)];exact z) (fun b o v z=>by rw [Ah (nsz b _ z)];exact z) (fun b ps z=>⟨#[],by rw [Ah (nsz b _ z),z];simp⟩) (fun m hm=>?_) (fun b v z=>?_) I.bare
    . rcases List.mem_cons.mp hb with rfl | hb
      . exact ⟨fe.2.2.2.1,fe.2.1,fe.2.2.2.2.1,fe.2.2.2.2.2⟩
      . have z:b=it:=by simpa using hb
        subst z
        exact ⟨fi.2.2.2.1,fi.2.1,fi.2.2.2.2.1,fi.2.2.2.2.2⟩
    . rw [Ah (Nat.ne_of_lt (Heap.lt_size z))]
      exact n
    . obtain⟨o,es',ep,ho,r⟩:=hm
      exact ⟨o,es',ep,kk _ o fe.2.1.symm fi.2.1.symm ho,r⟩
    . by_cases hb:b=s.heap.objs.size
      . subst hb
        rw [Ad] at z
        cases z
        exact ⟨(by show (2:Nat)<=sizeLine;decide),[.int i s.toks,u],.cons ⟨_,rfl⟩ (.cons ru .nil),⟨_,ht3,rfl,rfl,_,rfl⟩⟩
      . rw [Ah hb] at z
        refine (I.hok b v z).stay (fun c y hc' q=>?_) (fun c q=>by rw [Ah (nsz c _ q)];exact q) fun c ys q=>by rw [Ah (nsz c _ q)];exact q
        rcases hc' with rfl | hc'
        . exact kk _ _ (ntr _ _ z).1 (ntr _ _ z).2 q
        . exact kk _ _ (ntr _ _ hc').1 (ntr _ _ hc').2 q
  . have lb:b<s.heap.objs.size:=by
     rcases List.mem_cons.mp hb with rfl | hb
     . exact lte
     . have z:b=it:=by simpa using hb
       subst z
       obtain⟨o,z,_⟩:=h2
       exact Heap.lt_size z
    rw [Ah (Nat.ne_of_lt lb)]
    exact (hf b hb).1
 done:=by
  intro X hP hw hK hc i Aa s σ H E I hf st hg
  subst hP hw hK
  obtain⟨⟨old,h1⟩,h2⟩:=st
  obtain⟨xs,hq,hx⟩:=hg
  obtain⟨its,rv,p,hz⟩:=I.tuple hq
  obtain⟨f0,f1,f2,f3,f4,f5⟩:=hf it (by simp)
  have hl:=rv.length
  exact Qy (I.ok.hd hc) h1 h2 (show s.heap.IsTuple a its.toArray from p) (by simp;omega) fun h' eb=>⟨rfl,I.turned (t':=s.toks) (fun b o hb z=>eb b o hb z) f0 f1 f3 f4 f5⟩
 self:=fun _ _ _ _ _ st h=>by
  obtain⟨⟨old,h1⟩,h2⟩:=st
  exact wpAny_pyIter_enum h1 h
def Bc4 (K:W.Frag) (ta:TA):TI:=fun σ H R=>ta σ H fun vs H1=>∃ a,vs=[.ref a]/\(∃ xs,SqT K H1 a xs)/\R (IteT K a) H1
theorem Ni:bootBuiltins "enumerate"=some (.type "enumerate"):=by decide +kernel
theorem Ar3 {X:Cx}{K:W.Frag}{es:List Expr}{x1:Nat}{tpos:Pos}{a:Expr}{ta:TA}{p pos:Pos} (hg:Gl X "enumerate") (hm:X.mg "enumerate"=none) (ha:PA X [a] ta) (hK:X.K=K:=by rfl) (hs:starEach [a] X.env=[(false,eval a X.env)]:=by rfl):PI X (.Tuple es x1 tpos) (.Call (.Name "enumerate" p) [a] [] pos) (Bc4 K ta):=by
 subst hK
 intro Aa s σ H R I h
 refine Call_ (Kp I hg hm Ni (PyProof.Rows.callWith_type1 (thn (ha pos Aa s σ H _ I h) fun us s1 ⟨vs,H1,I1,r1,q1⟩=>?_) hs rfl))
 obtain⟨l,e,⟨xs,hq⟩,q⟩:=q1
 subst e
 cases r1 with
 | cons r rr =>
   cases rr
   cases r
   obtain⟨its,rv,pl,hz⟩:=I1.tuple hq
   refine v6 (show s1.heap.IsTuple l its.toArray from pl) fun h' hen hit hsz hk=>?_
   refine wpAny_pyIter_enum hen ⟨s1.heap.objs.size+1,[s1.heap.objs.size+1,s1.heap.objs.size],_,_,H1,rfl,I1.kept (t':=s1.toks) hk,Z3 l _ _ (Nat.succ_ne_self _),⟨⟨_,hen⟩,hit⟩,fun b hb=>?_,q⟩
   have lb:s1.heap.objs.size<=b:=by
    rcases List.mem_cons.mp hb with rfl | hb
    . exact Nat.le_succ _
    . have z:b=s1.heap.objs.size:=by simpa using hb
      rw [z]
      exact Nat.le_refl _
   exact I1.fpOk lb (I1.hok.fresh lb)
section
variable {g:TG}{tc:TT}{te:TE}{D:Addr}{Q:Hp->Prop}{τ:St}{H:Hp}
theorem Aj7 {K:W.Frag}{a:Addr}{xs:List V}{g:TG}{tb:TS}{D:Ends}{σ:St}{H:Hp} (Pv:Nat->St->Hp->Prop) (h0:Pv 0 σ H) (hl:∀ i σ H,i<=xs.length->Pv i σ H->SqT K H a xs)
 (hs:∀ i x σ H p,xs[i]?=some x->Pv i σ H->H p=none->g (.ref p) σ (upd H p (.tup [.int i,x])) fun σ2 H2=>tb { D with nx:=Pv (i+1),ct:=Pv (i+1),bk:=D.nx } σ2 H2) (hd:∀ σ H,Pv xs.length σ H->D.nx σ H) :
 ∃ W:Nat->Nat->St->Hp->Prop,(∃ m,W 0 m σ H)/\∀ i m σ H,W i m σ H →
   ((IteT K a).stop i H/\D.nx σ H)\/((IteT K a).go i H/\∃ N:St->Hp->Prop,(∀ σ' H',N σ' H'->∃ m',m'<m/\W (i+1) m' σ' H')/\∀ x H',(IteT K a).yld i H x H'->g x σ H' fun σ2 H2=>tb { D with nx:=N,ct:=N,bk:=D.nx } σ2 H2):=by
 refine⟨fun i m σ H=>m=xs.length-i/\i<=xs.length/\Pv i σ H,⟨xs.length,by simp,Nat.zero_le _,h0⟩,?_⟩
 rintro i m σ H ⟨rfl,hi,pp⟩
 have q:=hl i σ H hi pp
 by_cases hlt:i<xs.length
 . refine .inr ⟨⟨xs,xs[i],q,by simp [hlt]⟩,Pv (i+1),fun σ' H' p'=>⟨xs.length-(i+1),by omega,rfl,hlt,p'⟩,fun x H' y=>?_⟩
   obtain⟨p,v,hp,rfl,rfl,y⟩:=y
   exact hs i v σ _ p (y xs q) pp hp
 . have e:i=xs.length:=by omega
   subst e
   exact .inl ⟨⟨xs,q,Nat.le_refl _⟩,hd σ H pp⟩
end
end L2
namespace Hb
def oftN (fs:List Int) (f:Int):Nat->Int
 | 0=>0
 | i+1=>if fs.getD i 0=f then oftN fs f i+1-2*((i:Int)%2) else oftN fs f i
def oft (fs:List Int) (f:Int):Int:=oftN fs f fs.length
def ind (x e:Int):Int:=if x=e then 1 else 0
theorem A22 (e:Int):oft [] e=0:=rfl
theorem As8 (x y e:Int):oft [x,y] e=ind x e-ind y e:=by
 show (if y=e then (if x=e then (0:Int)+1-2*(((0:Nat):Int)%2) else 0)+1-2*(((1:Nat):Int)%2) else (if x=e then (0:Int)+1-2*(((0:Nat):Int)%2) else 0))=_
 unfold ind
 split<;>split<;>simp_all
theorem As7 (x y z e:Int):oft [x,y,z] e=ind x e-ind y e+ind z e:=by
 show (if z=e then oft [x,y] e+1-2*(((2:Nat):Int)%2) else oft [x,y] e)=_
 rw [As8]
 unfold ind
 split<;>simp_all<;>omega
theorem len2 {l:List Int} (h:l.length=2):∃ a b,l=[a,b]:=by
 match l,h with
 | [a,b],_=>exact ⟨a,b,rfl⟩
theorem len3 {l:List Int} (h:l.length=3):∃ a b c,l=[a,b,c]:=by
 match l,h with
 | [a,b,c],_=>exact ⟨a,b,c,rfl⟩
theorem len4 {l:List Int} (h:l.length=4):∃ a b c d,l=[a,b,c,d]:=by
 match l,h with
 | [a,b,c,d],_=>exact ⟨a,b,c,d,rfl⟩
def sg (i:Nat):Int:=1-2*((i:Int)%2)
theorem Bd5 {xs:List (List Int)} (hs:Cg xs) {k:Nat}{q:List Int} (hq:xs[k]?=some q) (e:Int):sumN (fun i=>sg i*oft (xs.getD (q.getD i 0).toNat []) e) q.length=0:=by
 have F:=hs k q hq
 have face:∀ f∈q,∃ p,xs.getD f.toNat []=p/\(xs.take k)[f.toNat]?=some p/\lev p+1=lev q/\(p.length=0\/p.length=2\/p.length=3\/p.length=4):=by
  intro f hf
  obtain⟨p,hp,hl⟩:=F.bel f hf
  have hp2:xs[f.toNat]?=some p:=by
   rw [List.getElem?_take] at hp
   split at hp
   . exact hp
   . cases hp
  exact ⟨p,by rw [List.getD_eq_getElem?_getD,hp2];rfl,hp,hl,(hs _ _ hp2).cnt⟩
 rcases F.cnt with h | h | h | h
 . rw [h];rfl
 . obtain⟨a,b,rfl⟩:=len2 h
   obtain⟨A,ha,_,la,ca⟩:=face a (by simp)
   obtain⟨B,hb,_,lb,cb⟩:=face b (by simp)
   have za:A=[]:=by unfold lev at la;simp at la;apply List.eq_nil_of_length_eq_zero;omega
   have zb:B=[]:=by unfold lev at lb;simp at lb;apply List.eq_nil_of_length_eq_zero;omega
   subst za zb
   show (0:Int)+sg 0*oft (xs.getD a.toNat []) e+sg 1*oft (xs.getD b.toNat []) e=0
   rw [ha,hb,A22]
   simp
 . obtain⟨a,b,c,rfl⟩:=len3 h
   obtain⟨A,ha,ga,la,ca⟩:=face a (by simp)
   obtain⟨B,hb,gb,lb,cb⟩:=face b (by simp)
   obtain⟨C,hc,gc,lc,cc⟩:=face c (by simp)
   obtain⟨a0,a1,rfl⟩:=len2 (l:=A) (by unfold lev at la;simp at la;omega)
   obtain⟨b0,b1,rfl⟩:=len2 (l:=B) (by unfold lev at lb;simp at lb;omega)
   obtain⟨c0,c1,rfl⟩:=len2 (l:=C) (by unfold lev at lc;simp at lc;omega)
   have G:=F.agr (by simp)
   have e1:=G 0 1 b a _ _ (by decide) rfl rfl gb ga
   have e2:=G 0 2 c a _ _ (by decide) rfl rfl gc ga
   have e3:=G 1 2 c b _ _ (by decide) rfl rfl gc gb
   simp at e1 e2 e3
   subst e1 e2 e3
   show (0:Int)+sg 0*oft (xs.getD a.toNat []) e+sg 1*oft (xs.getD b.toNat []) e+sg 2*oft (xs.getD c.toNat []) e=0
   rw [ha,hb,hc,As8,As8,As8]
   simp [sg]
   omega
 . obtain⟨a,b,c,d,rfl⟩:=len4 h
   obtain⟨A,ha,ga,la,ca⟩:=face a (by simp)
   obtain⟨B,hb,gb,lb,cb⟩:=face b (by simp)
   obtain⟨C,hc,gc,lc,cc⟩:=face c (by simp)
   obtain⟨D,hd,gd,ld,cd⟩:=face d (by simp)
   obtain⟨a0,a1,a2,rfl⟩:=len3 (l:=A) (by unfold lev at la;simp at la;omega)
   obtain⟨b0,b1,b2,rfl⟩:=len3 (l:=B) (by unfold lev at lb;simp at lb;omega)
   obtain⟨c0,c1,c2,rfl⟩:=len3 (l:=C) (by unfold lev at lc;simp at lc;omega)
   obtain⟨d0,d1,d2,rfl⟩:=len3 (l:=D) (by unfold lev at ld;simp at ld;omega)
   have G:=F.agr (by simp)
   have e1:=G 0 1 b a _ _ (by decide) rfl rfl gb ga
   have e2:=G 0 2 c a _ _ (by decide) rfl rfl gc ga
   have e3:=G 1 2 c b _ _ (by decide) rfl rfl gc gb
   have e4:=G 0 3 d a _ _ (by decide) rfl rfl gd ga
   have e5:=G 1 3 d b _ _ (by decide) rfl rfl gd gb
   have e6:=G 2 3 d c _ _ (by decide) rfl rfl gd gc
   simp at e1 e2 e3 e4 e5 e6
   subst e1 e2 e3 e4 e5 e6
   show (0:Int)+sg 0*oft (xs.getD a.toNat []) e+sg 1*oft (xs.getD b.toNat []) e+sg 2*oft (xs.getD c.toNat []) e+sg 3*oft (xs.getD d.toNat []) e=0
   rw [ha,hb,hc,hd,As7,As7,As7,As7]
   simp [sg]
   omega
end Hb
namespace Hb
open PySem L2
def sgn (n:Int) (i:Nat):Int:=if (i:Int)%2=0 then n else -n
def K2 (ms:Ms) (fs:List Int) (n:Int):Nat->Ms
 | 0=>ms
 | i+1=>addI (K2 ms fs n i) (fs.getD i 0) (sgn n i)
def addF (ms:Ms) (fs:List Int) (n:Int):Ms:=K2 ms fs n fs.length
theorem Vy (ms:Ms) (fs:List Int) (n k:Int):∀ i,getI (K2 ms fs n i) k=getI ms k+oftN fs k i*n
 | 0=>by simp [K2,oftN]
 | i+1=>by
   show getI (addI (K2 ms fs n i) (fs.getD i 0) (sgn n i)) k=_
   rw [Aj3,Vy ms fs n k i]
   show _=getI ms k+(if fs.getD i 0=k then oftN fs k i+1-2*((i:Int)%2) else oftN fs k i)*n
   by_cases h:k=fs.getD i 0
   . rw [if_pos h,if_pos h.symm]
     have e:sgn n i=(1-2*((i:Int)%2))*n:=by
      unfold sgn
      have:(i:Int)%2=0\/(i:Int)%2=1:=by omega
      rcases this with z | z
      . rw [if_pos z,z];simp
      . rw [if_neg (by omega),z];omega
     rw [e,show oftN fs k i+1-2*((i:Int)%2)=oftN fs k i+(1-2*((i:Int)%2)) by omega,Int.add_mul]
     omega
   . rw [if_neg h,if_neg (fun z=>h z.symm)]
theorem Tm {ms:Ms} (h:nd ms) (fs:List Int) (n:Int):∀ i,nd (K2 ms fs n i)
 | 0=>h
 | i+1=>Ax5 (Tm h fs n i) _ _
theorem Vo (ms:Ms) (fs:List Int) (n:Int):∀ i,(K2 ms fs n i).length<=ms.length+i
 | 0=>Nat.le_refl _
 | i+1=>by
   have h1:=Vo ms fs n i
   have h2:=X9 (K2 ms fs n i) (fs.getD i 0) (sgn n i)
   show (addI _ _ _).length<=_
   omega
theorem Ae5 {fs:List Int}{k:Int}:∀{i},(List.range i).any (fun i=>decide (fs.getD i 0=k))=false->oftN fs k i=0
 | 0,_=>rfl
 | i+1,h=>by
   rw [List.range_succ,List.any_append,List.any_cons,List.any_nil,Bool.or_false,Bool.or_eq_false_iff] at h
   show (if fs.getD i 0=k then _ else oftN fs k i)=0
   rw [if_neg (of_decide_eq_false h.2)]
   exact Ae5 h.1
theorem Ax1 (fs:List Int) (k:Int):∀ i:Nat,-(i:Int)<=oftN fs k i/\oftN fs k i<=(i:Int)
 | 0=>by simp [oftN]
 | i+1=>by
   have h:=Ax1 fs k i
   show _<=(if fs.getD i 0=k then _ else oftN fs k i)/\(if fs.getD i 0=k then _ else oftN fs k i)<=_
   have:(i:Int)%2=0\/(i:Int)%2=1:=by omega
   split<;>omega
def Ww (b:Addr) (H H1:Hp):Prop:=∀ c q,c≠b->H c=some q->H1 c=some q
section
variable {K:W.Frag}{H H1:Hp}{b:Addr}{m:List (Key × V)}
theorem SqL.x (s:Ww b H H1) (hb:H b=some (.dK m)) {a:Addr}{xs:List V} (h:SqL K H a xs):SqL K H1 a xs:=by
 rcases h with (h|⟨o,h⟩) | h
 . exact .inl (.inl (s _ _ (fun z=>by rw [z,hb] at h;cases h) h))
 . exact .inl (.inr ⟨o,s _ _ (fun z=>by rw [z,hb] at h;cases h) h⟩)
 . exact .inr h
theorem SqT.x (s:Ww b H H1) (hb:H b=some (.dK m)) {a:Addr}{xs:List V} (h:SqT K H a xs):SqT K H1 a xs:=by
 rcases h with (h|⟨o,h⟩) | h
 . exact .inl (.inl (s _ _ (fun z=>by rw [z,hb] at h;cases h) h))
 . exact .inl (.inr ⟨o,s _ _ (fun z=>by rw [z,hb] at h;cases h) h⟩)
 . exact .inr h
mutual
theorem Rep.x (s:Ww b H H1) (hb:H b=some (.dK m)) {v:V}{d:L2.D} (h:Rep K H v d):Rep K H1 v d:=by
 cases d with
 | non=>exact h
 | bl b=>exact h
 | int i=>exact h
 | str x=>exact h
 | tup ds =>
   obtain⟨a,vs,e,q,r⟩:=h
   exact ⟨a,vs,e,SqT.x s hb q,Reps.x s hb r⟩
 | lst ds =>
   obtain⟨a,vs,e,q,r⟩:=h
   exact ⟨a,vs,e,SqL.x s hb q,Reps.x s hb r⟩
theorem Reps.x (s:Ww b H H1) (hb:H b=some (.dK m)) {vs:List V}{ds:List L2.D} (h:Reps K H vs ds):Reps K H1 vs ds:=by
 cases ds with
 | nil=>exact h
 | cons d r =>
   obtain⟨v,q,e,h1,h2⟩:=h
   exact ⟨v,q,e,Rep.x s hb h1,Reps.x s hb h2⟩
end
end
section
variable (K:W.Frag)
def Gw:Sp:=fun vs H Q _=>∃ (a:Addr) (v:V) (ms:Ms) (fs:List Int) (n:Int),vs=[.ref a,v,.int n]/\H a=some (.dK (cK ms))/\TI K H v fs/\ms.length+fs.length<=100000 ∧
 ∀ H',Ww a H H'->H' a=some (.dK (cK (addF ms fs n)))->Q .non H'
end
end Hb
namespace L2
open PySem PySem.Spec PyProof.Rows
structure PEw (X:Cx) (e:Expr) (t:TE):Prop where
 h:PE X e t
theorem A14 {X:Cx}{K:W.Frag}{sl:Expr}{es:List Expr}{k:Nat}{p q:Pos}{ta:TA}{tsl:TE} (ha:PAw X es ta) (hsl:PE X sl tsl) (hpi:Ap1 sl) (hK:X.K=K:=by rfl) :
 PEw X (.Subscript (.Tuple es k p) sl q) (tOp (rIxT K) (tTup ta) tsl):=by
 subst hK
 exact ⟨Ba A7 (Ck ha.h) hsl hpi⟩
end L2
namespace Hb
open PySem L2
theorem at0 (x:V) (r:List V):atI (x::r) 0=some x:=Co (j:=0) rfl
theorem at1 (x y:V) (r:List V):atI (x::y::r) 1=some y:=Co (j:=1) rfl
theorem at2 (x y z:V) (r:List V):atI (x::y::z::r) 2=some z:=Co (j:=2) rfl
section
variable (K:W.Frag)
end
end Hb
namespace Hb
open PySem L2
theorem A39 {n A:Nat} (h:A<n):ixN n (A:Int)=some A:=by
 unfold ixN
 rw [if_pos (by omega),if_pos (by omega)]
 simp
end Hb
namespace Hb
def isP (n:Int):Bool:=(List.range (n-2).toNat).all fun k=>decide (¬n%(2+(k:Int))=0)
structure Bs (p:Int):Prop where
 two:2<=p
 free:∀ k:Int,2<=k->k<p->¬p%k=0
theorem Ai1 {n:Int} (h2:2<=n) (h:isP n=true):Bs n:=by
 refine⟨h2,fun k k2 kn=>?_⟩
 have h':=List.all_eq_true.mp h (k-2).toNat (List.mem_range.mpr (by omega))
 have e:(2:Int)+((k-2).toNat:Int)=k:=by omega
 rw [e] at h'
 simpa using h'
theorem Bs.div {p a:Int} (h:Bs p) (ha:0<a) (hd:a∣p):a=1\/a=p:=by
 have h2:=h.two
 have hle:a<=p:=Int.le_of_dvd (by omega) hd
 by_cases h1:a=1
 . exact .inl h1
 . by_cases hp:a=p
   . exact .inr hp
   . exact absurd (Int.emod_eq_zero_of_dvd hd) (h.free a (by omega) (by omega))
structure Eu (n p a x b u:Int):Prop where
 ha:p∣a-x*n
 hb:p∣b-u*n
 dv:∀ d:Int,d∣a->d∣b->d∣n/\d∣p
theorem Eu.start (n p:Int):Eu n p n 1 p 0:=⟨by simp,by simp,fun d h1 h2=>⟨h1,h2⟩⟩
theorem Eu.step {n p a x b u:Int} (h:Eu n p a x b u) (q:Int):Eu n p b u (a-q*b) (x-q*u):=by
 refine⟨h.hb,?_,fun d h1 h2=>?_⟩
 . have e:a-q*b-(x-q*u)*n=(a-x*n)-q*(b-u*n):=by
    rw [Int.sub_mul,Int.mul_sub,Int.mul_assoc]
    omega
   rw [e]
   exact Int.dvd_sub h.ha (Int.dvd_mul_of_dvd_right h.hb)
 . have e:a=(a-q*b)+q*b:=by omega
   refine h.dv d ?_ h1
   rw [e]
   exact Int.dvd_add h2 (Int.dvd_mul_of_dvd_right h1)
theorem Eu.last {n p a x u:Int} (h:Eu n p a x 0 u) (hp:Bs p) (hn:¬p∣n) (ha:0<a):a=1:=by
 obtain⟨h1,h2⟩:=h.dv a (Int.dvd_refl a) (Int.dvd_zero a)
 rcases hp.div ha h2 with e | e
 . exact e
 . subst e
   exact absurd h1 hn
theorem As3 {n p x:Int} (h2:2<=p) (h:p∣1-x*n):0<=x%p/\x%p<p/\p∣1-(x%p)*n:=by
 refine⟨Int.emod_nonneg _ (by omega),Int.emod_lt_of_pos _ (by omega),?_⟩
 have e:1-(x%p)*n=(1-x*n)+p*((x / p)*n):=by
  have:x=p*(x / p)+x%p:=(Int.mul_ediv_add_emod x p).symm
  have e2:x*n=p*(x / p)*n+x%p*n:=by
   rw [←Int.add_mul,←this]
  rw [e2,Int.mul_assoc]
  omega
 rw [e]
 exact Int.dvd_add h (Int.dvd_mul_right _ _)
def prs (m:Nat):List Int:=((List.range m).map fun (i:Nat)=>2+(i:Int)).filter isP
theorem Zf (m:Nat):prs (m+1)=if isP (2+(m:Int))=true then prs m++[2+(m:Int)] else prs m:=by
 unfold prs
 rw [List.range_succ,List.map_append,List.filter_append]
 by_cases h:isP (2+(m:Int))=true
 . rw [if_pos h];simp [List.filter,h]
 . rw [if_neg h];simp [List.filter,h]
theorem A06 (m:Nat):(prs m).length<=m:=by
 unfold prs
 refine Nat.le_trans (List.length_filter_le ..) ?_
 simp
theorem A84:(prs 96).length=25:=by decide +kernel
theorem A05 {m:Nat}{p:Int} (h:p∈prs m):Bs p/\p<2+(m:Int):=by
 unfold prs at h
 rw [List.mem_filter] at h
 obtain⟨h1,h2⟩:=h
 obtain⟨i,hi,rfl⟩:=List.mem_map.mp h1
 have:=List.mem_range.mp hi
 exact ⟨Ai1 (by omega) h2,by omega⟩
def dvs (n:Int) (m:Nat):List Int:=((List.range m).map fun (i:Nat)=>2+(i:Int)).filter fun k=>decide (n%k=0)
theorem Zo (n:Int) (m:Nat):dvs n (m+1)=if n%(2+(m:Int))=0 then dvs n m++[2+(m:Int)] else dvs n m:=by
 unfold dvs
 rw [List.range_succ,List.map_append,List.filter_append]
 by_cases h:n%(2+(m:Int))=0
 . rw [if_pos h];simp [List.filter,h]
 . rw [if_neg h];simp [List.filter,h]
theorem A49 (n:Int) (m:Nat):(dvs n m).length<=m:=by
 unfold dvs
 refine Nat.le_trans (List.length_filter_le ..) ?_
 simp
theorem Au7 (n:Int):((dvs n (n-2).toNat).length=0)↔isP n=true:=by
 unfold dvs isP
 rw [List.length_eq_zero_iff,List.filter_eq_nil_iff,List.all_eq_true]
 constructor
 . intro h k hk
   have:=h (2+(k:Int)) (List.mem_map.mpr ⟨k,hk,rfl⟩)
   simpa using this
 . intro h k hk
   obtain⟨i,hi,rfl⟩:=List.mem_map.mp hk
   simpa using h i hi
end Hb
namespace L2
open PySem PySem.Spec PyProof.Rows
def rInK:R2:=fun x y H Q=>∃ a kvs k,y=.ref a/\H a=some (.dK kvs)/\x=kV k/\Q (.bl (valV kvs k).isSome) H
theorem A92 {X:Cx} (hu:X.A.units+1<cLine):OpR X (compareOp .In) rInK:=by
 intro Aa s σ H x y v u Q I rx ry h
 obtain⟨a,kvs,k,rfl,ha,rfl,q⟩:=h
 obtain rfl:u=Value.ref a:=ry
 exact d_in hu I (.k ha) rx fun s3 I3=>⟨.bl (valV kvs k).isSome,H,I3,rfl,q⟩
end L2
namespace Hb
open PySem L2
theorem E4 {xs:List (List Int)} (h:Cg xs):Y9 xs:=fun x hx=>by
 obtain⟨k,hk⟩:=List.getElem?_of_mem hx
 exact (h k x hk).cnt
theorem Lb {xs:List (List Int)}{q:List Int} (h:Cg xs) (hf:Fits xs q):Cg (xs++[q]):=fun k p hk=>by
 by_cases hlt:k<xs.length
 . rw [List.getElem?_append_left hlt] at hk
   rw [List.take_append_of_le_length (by omega)]
   exact h k p hk
 . have hk':k<(xs++[q]).length:=(List.getElem?_eq_some_iff.mp hk).1
   have e:k=xs.length:=by simp at hk';omega
   subst e
   simp at hk
   subst hk
   rw [List.take_append_of_le_length (Nat.le_refl _),List.take_length]
   exact hf
theorem Yk {xs:List (List Int)}{f:Int} (h0:0<=f) (h1:f<(xs.length:Int)):xs[f.toNat]?=some (xs.getD f.toNat []):=by
 have:f.toNat<xs.length:=by omega
 rw [List.getD_eq_getElem?_getD,List.getElem?_eq_getElem this]
 rfl
theorem n6 {xs:List (List Int)}{q:List Int} (h:Em xs (tI q)=true):∀ f∈q,0<=f/\f<(xs.length:Int)/\levI (xs.getD f.toNat []).length=levI q.length-1:=by
 intro f hf
 have h':Em xs (.tup (nums q))=true:=h
 rw [Cq] at h'
 simp only [Bool.and_eq_true] at h'
 have h2:=List.all_eq_true.mp h'.1.2 (.int f) (List.mem_map.mpr ⟨f,hf,rfl⟩)
 have h3:(decide (0<=f)&&decide (f<(xs.length:Int))&&decide (levI (xs.getD f.toNat []).length=levI (nums q).length-1))=true:=h2
 simp only [Bool.and_eq_true,decide_eq_true_eq] at h3
 have hl:(nums q).length=q.length:=by unfold nums;rw [List.length_map]
 rw [hl] at h3
 exact ⟨h3.1.1,h3.1.2,h3.2⟩
theorem Au6 {xs:List (List Int)}{q:List Int} (h:Em xs (tI q)=true):q.length=0\/q.length=2\/q.length=3\/q.length=4:=by
 have h':Em xs (.tup (nums q))=true:=h
 rw [Cq] at h'
 simp only [Bool.and_eq_true] at h'
 have h1:=h'.1.1
 have hl:(nums q).length=q.length:=by unfold nums;rw [List.length_map]
 rw [hl] at h1
 unfold cntB at h1
 simp only [Bool.or_eq_true,beq_iff_eq] at h1
 omega
theorem Ag8 (q:List Int):(nums q).map toI=q:=by
 unfold nums
 rw [List.map_map]
 exact (List.map_congr_left fun _ _=>rfl).trans (List.map_id q)
theorem Yl {xs:List (List Int)}{q:List Int} (hc:Y9 xs) (h:Em xs (tI q)=true):Fits xs q:=by
 have hfs:=n6 h
 have hcn:=Au6 h
 have hlev:∀ f∈q,(xs.getD f.toNat []).length-1+1=q.length-1:=fun f hf=>by
  obtain⟨h0,h1,h2⟩:=hfs f hf
  have hq:1<=q.length:=List.length_pos_of_mem hf
  rw [Ca,Ca] at h2
  omega
 refine⟨hcn,fun f hf=>(hfs f hf).1,fun f hf=>?_,fun h3 i j f g r s hij hj hi hr hs=>?_⟩
 . obtain⟨h0,h1,_⟩:=hfs f hf
   exact ⟨_,Yk h0 h1,hlev f hf⟩
 . have hf:=List.mem_of_getElem? hj
   have hg:=List.mem_of_getElem? hi
   obtain⟨f0,f1,_⟩:=hfs f hf
   obtain⟨g0,g1,_⟩:=hfs g hg
   have er:r=xs.getD f.toNat []:=by rw [Yk f0 f1] at hr;exact (Option.some.inj hr).symm
   have es:s=xs.getD g.toNat []:=by rw [Yk g0 g1] at hs;exact (Option.some.inj hs).symm
   have h':Em xs (.tup (nums q))=true:=h
   rw [Cq] at h'
   simp only [Bool.and_eq_true,Bool.or_eq_true,decide_eq_true_eq,Ag8] at h'
   have hl:(nums q).length=q.length:=by unfold nums;rw [List.length_map]
   have ha:Ek xs q=true:=by
    rcases h'.2 with z | z
    . rw [hl,Ca] at z;omega
    . exact z
   have hjl:j<q.length:=(List.getElem?_eq_some_iff.mp hj).1
   have h4:=List.all_eq_true.mp (List.all_eq_true.mp ha j (List.mem_range.mpr hjl)) i (List.mem_range.mpr hij)
   unfold Kb at h4
   have hjd:q.getD j 0=f:=by rw [List.getD_eq_getElem?_getD,hj];rfl
   have hid:q.getD i 0=g:=by rw [List.getD_eq_getElem?_getD,hi];rfl
   rw [hjd,hid,←er,←es,decide_eq_true_eq] at h4
   have l1:=hlev f hf
   have l2:=hlev g hg
   rw [←er] at l1
   rw [←es] at l2
   have hr':r.length=0\/r.length=2\/r.length=3\/r.length=4:=by rw [er];exact hc.at f0 f1
   have hs':s.length=0\/s.length=2\/s.length=3\/s.length=4:=by rw [es];exact hc.at g0 g1
   have i1:i<r.length:=by omega
   have j1:j-1<s.length:=by omega
   rw [List.getElem?_eq_getElem i1,List.getElem?_eq_getElem j1]
   rw [List.getD_eq_getElem?_getD,List.getD_eq_getElem?_getD,List.getElem?_eq_getElem i1,List.getElem?_eq_getElem j1] at h4
   exact congrArg some h4
def A47 (xs:List (List Int)):DE->Bool
 | .d d=>Em xs d
 | .nul=>false
structure Ez (p:Int) (xs:List (List Int)) (es ss:List Ms) (bs:Ms):Prop where
 shp:Cg xs
 le:es.length=xs.length
 ls:ss.length=xs.length
 n40:xs.length<=40
 eok:∀ (i:Nat) m,es[i]?=some m->OkM p m/\∀ x∈A2 m,0<=x/\x<(i:Int)/\((xs.getD x.toNat []).length-1)+1=(xs.getD i []).length-1
 sok:∀ (i:Nat) m,ss[i]?=some m->OkM p m/\∀ x∈A2 m,0<=x/\x<=(i:Int)
 bnd:nd bs
 bls:∀ b e,lookI bs b=some e↔∃ (i:Nat) (m:Ms),e=(i:Int)/\es[i]?=some m/\Top m b
theorem Ez.nil (p:Int):Ez p [] [] [] []:=⟨fun k q h=>by simp at h,rfl,rfl,by decide,fun i m h=>by simp at h,fun i m h=>by simp at h,List.nodup_nil,fun b e=>⟨fun h=>by simp [lookI] at h,fun ⟨i,m,_,h,_⟩=>by simp at h⟩⟩
theorem Top.no {b:Int} (h:Top [] b):False:=by have:=h.mem;simp [A2] at this
theorem C5 {xs:List (List Int)}{q:List Int}{i:Nat} (h:i<xs.length):(xs++[q]).getD i []=xs.getD i []:=by
 rw [List.getD_eq_getElem?_getD,List.getD_eq_getElem?_getD,List.getElem?_append_left h]
theorem Nq {xs:List (List Int)}{q:List Int}:(xs++[q]).getD xs.length []=q:=by
 rw [List.getD_eq_getElem?_getD,List.getElem?_append_right (Nat.le_refl _)]
 simp
theorem C6 {α:Type}{l:List α}{x y:α}{i:Nat} (h:(l++[x])[i]?=some y):(i<l.length/\l[i]?=some y)\/(i=l.length/\y=x):=by
 by_cases hlt:i<l.length
 . rw [List.getElem?_append_left hlt] at h
   exact .inl ⟨hlt,h⟩
 . have hk':i<(l++[x]).length:=(List.getElem?_eq_some_iff.mp h).1
   have e:i=l.length:=by simp at hk';omega
   subst e
   simp at h
   exact .inr ⟨rfl,h.symm⟩
structure Bg4 (p:Int) (xs:List (List Int)) (bs:Ms) (q:List Int) (ms me:Ms):Prop where
 h1:OkM p ms
 k1:∀ x∈A2 ms,0<=x/\x<=(xs.length:Int)
 h2:OkM p me
 k2:∀ x∈A2 me,0<=x/\x<(xs.length:Int)/\(xs.getD x.toNat []).length-1+1=q.length-1
 h3:∀ b,Top me b->lookI bs b=none
theorem Ez.grow {p:Int}{xs:List (List Int)}{es ss:List Ms}{bs:Ms}{q:List Int}{ms me bs':Ms} (h:Ez p xs es ss bs) (hf:Fits xs q) (hn:xs.length<40) (f:Bg4 p xs bs q ms me)
 (hb:(me=[]/\bs'=bs)\/∃ b,Top me b/\bs'=putI bs b (xs.length:Int)):Ez p (xs++[q]) (es++[me]) (ss++[ms]) bs':=by
 refine⟨Lb h.shp hf,by simp [h.le],by simp [h.ls],by simp;omega,fun i m hi=>?_,fun i m hi=>?_,?_,fun b e=>?_⟩
 . rcases C6 hi with ⟨hl,hi⟩|⟨rfl,rfl⟩
   . rw [h.le] at hl
     obtain⟨a1,a2⟩:=h.eok i m hi
     refine⟨a1,fun x hx=>?_⟩
     obtain⟨b1,b2,b3⟩:=a2 x hx
     refine⟨b1,b2,?_⟩
     rw [C5 (by omega),C5 hl]
     exact b3
   . refine⟨f.h2,fun x hx=>?_⟩
     obtain⟨b1,b2,b3⟩:=f.k2 x hx
     rw [h.le]
     refine⟨b1,b2,?_⟩
     rw [C5 (by omega),Nq]
     exact b3
 . rcases C6 hi with ⟨hl,hi⟩|⟨rfl,rfl⟩
   . exact h.sok i m hi
   . rw [h.ls]
     exact ⟨f.h1,f.k1⟩
 . rcases hb with ⟨_,rfl⟩|⟨b,_,rfl⟩
   . exact h.bnd
   . exact Ax4 h.bnd _ _
 . rcases hb with ⟨rfl,rfl⟩|⟨b0,hb0,rfl⟩
   . rw [h.bls]
     constructor
     . rintro ⟨i,m,e1,e2,e3⟩
       exact ⟨i,m,e1,by rw [List.getElem?_append_left (List.getElem?_eq_some_iff.mp e2).1];exact e2,e3⟩
     . rintro ⟨i,m,e1,e2,e3⟩
       rcases C6 e2 with ⟨_,e2⟩|⟨_,rfl⟩
       . exact ⟨i,m,e1,e2,e3⟩
       . exact (Top.no e3).elim
   . rw [Vk]
     by_cases hbb:b=b0
     . subst hbb
       rw [if_pos rfl]
       constructor
       . intro z
         cases z
         exact ⟨es.length,me,by rw [h.le],by simp,hb0⟩
       . rintro ⟨i,m,e1,e2,e3⟩
         rcases C6 e2 with ⟨_,e2⟩|⟨e4,rfl⟩
         . have:=(h.bls b (i:Int)).mpr ⟨i,m,rfl,e2,e3⟩
           rw [f.h3 b hb0] at this
           cases this
         . rw [e1,e4,h.le]
     . rw [if_neg hbb,h.bls]
       constructor
       . rintro ⟨i,m,e1,e2,e3⟩
         exact ⟨i,m,e1,by rw [List.getElem?_append_left (List.getElem?_eq_some_iff.mp e2).1];exact e2,e3⟩
       . rintro ⟨i,m,e1,e2,e3⟩
         rcases C6 e2 with ⟨_,e2⟩|⟨_,rfl⟩
         . exact ⟨i,m,e1,e2,e3⟩
         . exact absurd (Top.one e3 hb0) hbb
theorem Er {ms:Ms} (h:nd ms) (hk:∀ x∈A2 ms,0<=x/\x<=40):ms.length<=41:=by
 have:=Ax7 (A2 ms) ((List.range 41).map fun (i:Nat)=>(i:Int)) h fun x hx=>by
  obtain⟨h1,h2⟩:=hk x hx
  exact List.mem_map.mpr ⟨x.toNat,List.mem_range.mpr (by omega),by omega⟩
 unfold A2 at this
 simpa using this
theorem Ez.blen {p:Int}{xs:List (List Int)}{es ss:List Ms}{bs:Ms} (h:Ez p xs es ss bs):bs.length<=41:=by
 refine Er h.bnd fun x hx=>?_
 obtain⟨r,hr,rfl⟩:=List.mem_map.mp hx
 obtain⟨i,m,_,e2,e3⟩:=(h.bls r.1 r.2).mp (Zl h.bnd hr)
 have hl:i<xs.length:=by rw [←h.le];exact (List.getElem?_eq_some_iff.mp e2).1
 have:=(h.eok i m e2).2 _ e3.mem
 have:=h.n40
 omega
theorem Zb {ms:Ms} (h:ms≠[]):∃ b,Top ms b:=by
 induction ms with
 | nil=>exact absurd rfl h
 | cons q ms ih =>
   by_cases hm:ms=[]
   . subst hm
     exact ⟨q.1,by simp [A2],fun x hx=>by simp [A2] at hx;omega⟩
   . obtain⟨b,hb⟩:=ih hm
     by_cases hq:q.1<=b
     . refine⟨b,List.mem_cons_of_mem _ hb.mem,fun x hx=>?_⟩
       rcases List.mem_cons.mp hx with z | z
       . have:x=q.1:=z
         omega
       . exact hb.le x z
     . refine⟨q.1,List.mem_cons_self,fun x hx=>?_⟩
       rcases List.mem_cons.mp hx with z | z
       . have:x=q.1:=z
         omega
       . have:=hb.le x z
         omega
theorem Wb {p n:Int}{es fs:Ms} (hp:0<p) (he:OkM p es) (hf:OkM p fs):OkM p (modI p (De es (A5 n fs)))/\∀ x∈A2 (modI p (De es (A5 n fs))),x∈A2 es\/x∈A2 fs:=by
 have ndt:nd (A5 n fs):=by
  unfold A5
  split
  . exact List.nodup_nil
  . exact Iq hf.nd _
 obtain⟨n1,n2,n3,n4⟩:=Jz (A5 n fs) es he.nd he.nz ndt
 have ok:=Ag4 n1 hp
 refine⟨ok,fun x hx=>?_⟩
 have hx0:=(Aj1 ok.nz).mpr hx
 rw [J1 n1,n4,Hs] at hx0
 by_cases h1:x∈A2 es
 . exact .inl h1
 by_cases h2:x∈A2 fs
 . exact .inr h2
 . rw [Cb h1,Cb h2] at hx0
   simp at hx0
theorem A35 {ms:Ms}{k n x:Int} (h:x∈A2 (addI ms k n)):x∈A2 ms\/x=k:=by
 unfold addI at h
 split at h
 . obtain⟨r,hr,rfl⟩:=List.mem_map.mp h
   exact .inl (List.mem_map.mpr ⟨r,(List.mem_filter.mp hr).1,rfl⟩)
 . obtain⟨r,hr,rfl⟩:=List.mem_map.mp h
   rcases Ag5 hr with z | z
   . exact .inl (List.mem_map.mpr ⟨r,z,rfl⟩)
   . rw [z];exact .inr rfl
theorem Vq {fs:List Int}{n x:Int}:∀{i:Nat},i<=fs.length->x∈A2 (K2 [] fs n i)->x∈fs
 | 0,_,h=>by simp [K2,A2] at h
 | i+1,hi,h=>by
   rcases A35 (show x∈A2 (addI (K2 [] fs n i) (fs.getD i 0) (sgn n i)) from h) with z | z
   . exact Vq (by omega) z
   . rw [z,List.getD_eq_getElem?_getD,List.getElem?_eq_getElem (by omega)]
     exact List.getElem_mem _
theorem Top.look {p:Int}{ms:Ms}{b:Int} (h:OkM p ms) (t:Top ms b):lookI ms b=some (getI ms b)/\0<getI ms b/\getI ms b<p:=by
 obtain⟨r,hr,rfl⟩:=List.mem_map.mp t.mem
 have e:=Zl h.nd hr
 have e2:getI ms r.1=r.2:=by unfold getI;rw [e];rfl
 rw [e2]
 exact ⟨e,h.bd r hr⟩
theorem ndvd {p v:Int} (h0:0<v) (h1:v<p):¬p∣v:=fun z=>by have:=Int.le_of_dvd h0 z;omega
structure F8 (H:Hp) (l en:Addr) (ms:List Ms):Prop where
 ex:∃ ds:List Addr,H l=some (.lst (ds.map V.ref))/\ds.length=ms.length/\∀ (i:Nat) d m,ds[i]?=some d->ms[i]?=some m->H d=some (.dK (cK m))/\d≠en
structure C9 (K:W.Frag) (CG:Addr) (H:Hp) (g pc sh ed en:Addr) (p:Int) (xs:List (List Int)) (es ss:List Ms) (bs:Ms):Prop where
 ob:∃ dx fs,H g=some (.ins CG dx fs)/\fs.lookup ("prime":Str)=some (.int p)/\fs.lookup ("pieces":Str)=some (.ref pc)/\fs.lookup ("sheets":Str)=some (.ref sh)/\fs.lookup ("edges":Str)=some (.ref ed)/\fs.lookup ("enders":Str)=some (.ref en) ∧
  (fs.lookup ("grow":Str)=none/\fs.lookup ("settled":Str)=none/\fs.lookup ("take_back":Str)=none/\fs.lookup ("shape":Str)=none/\fs.lookup ("paper":Str)=none/\fs.lookup ("pairs":Str)=none/\fs.lookup ("alive":Str)=none)
 pcs:∃ us,H pc=some (.lst us)/\Reps K H us (xs.map tI)
 eds:F8 H ed en es
 shs:F8 H sh en ss
 ens:H en=some (.dK (cK bs))
 ne:pc≠sh/\pc≠ed/\sh≠ed
 gw:Ez p xs es ss bs
 pr:Bs p/\p<98
def W4 (pc sh ed en:Addr):Addr->Prop:=fun a=>a=pc\/a=sh\/a=ed\/a=en
def FrG (pc sh ed en:Addr) (H H':Hp):Prop:=∀ c o,¬W4 pc sh ed en c->H c=some o->H' c=some o
theorem FrG.of {pc sh ed en:Addr}{H H':Hp} (s:Same H H'):FrG pc sh ed en H H':=fun c o _ e=>s c o e
theorem FrG.trans {pc sh ed en:Addr}{H H1 H2:Hp} (a:FrG pc sh ed en H H1) (b:FrG pc sh ed en H1 H2):FrG pc sh ed en H H2:=fun c o n e=>b c o n (a c o n e)
theorem FrG.up {pc sh ed en c:Addr}{H:Hp}{o:HO} (h:W4 pc sh ed en c):FrG pc sh ed en H (upd H c o):=fun d u n e=>by
 have hn:d≠c:=fun z=>by subst z;exact n h
 rw [Ah hn]
 exact e
def Mut (H:Hp) (c:Addr):Prop:=(∃ us,H c=some (.lst us))\/∃ kvs,H c=some (.dK kvs)
section
variable {K:W.Frag}{CG:Addr}{H H':Hp}{g pc sh ed en:Addr}{p:Int}{xs:List (List Int)}{es ss:List Ms}{bs:Ms}
theorem F8.get {l:Addr}{ms:List Ms} (x:F8 H l en ms) {i:Nat}{m:Ms} (h:ms[i]?=some m):∃ (ds:List Addr) (d:Addr),H l=some (.lst (ds.map V.ref))/\ds[i]?=some d/\H d=some (.dK (cK m))/\d≠en:=by
 obtain⟨ds,h1,h2,h3⟩:=x.ex
 have hi:i<ds.length:=by rw [h2];exact (List.getElem?_eq_some_iff.mp h).1
 obtain⟨h4,h5⟩:=h3 i ds[i] m (List.getElem?_eq_getElem hi) h
 exact ⟨ds,ds[i],h1,List.getElem?_eq_getElem hi,h4,h5⟩
theorem F8.same {l:Addr}{ms:List Ms} (x:F8 H l en ms) (s:Same H H'):F8 H' l en ms:=by
 obtain⟨ds,h1,h2,h3⟩:=x.ex
 exact ⟨ds,s _ _ h1,h2,fun i d m e1 e2=>⟨s _ _ (h3 i d m e1 e2).1,(h3 i d m e1 e2).2⟩⟩
theorem C9.same (x:C9 K CG H g pc sh ed en p xs es ss bs) (s:Same H H'):C9 K CG H' g pc sh ed en p xs es ss bs:=by
 obtain⟨dx,fs,h1,h2⟩:=x.ob
 obtain⟨us,h3,h4⟩:=x.pcs
 exact ⟨⟨dx,fs,s _ _ h1,h2⟩,⟨us,s _ _ h3,Reps.same s h4⟩,x.eds.same s,x.shs.same s,s _ _ x.ens,x.ne,x.gw,x.pr⟩
theorem C9.mut (x:C9 K CG H g pc sh ed en p xs es ss bs):∀ c,W4 pc sh ed en c->Mut H c:=by
 rintro c (rfl | rfl | rfl | rfl)
 . obtain⟨us,h,_⟩:=x.pcs
   exact .inl ⟨_,h⟩
 . obtain⟨ds,h,_⟩:=x.shs.ex
   exact .inl ⟨_,h⟩
 . obtain⟨ds,h,_⟩:=x.eds.ex
   exact .inl ⟨_,h⟩
 . exact .inr ⟨_,x.ens⟩
theorem FrG.t (x:C9 K CG H g pc sh ed en p xs es ss bs) (fr:FrG pc sh ed en H H'):Mp H H':=by
 refine⟨fun b us e=>fr b _ (fun w=>?_) e,fun b o u e=>fr b _ (fun w=>?_) e⟩
 . rcases x.mut b w with ⟨_,z⟩|⟨_,z⟩<;>(rw [z] at e;cases e)
 . rcases x.mut b w with ⟨_,z⟩|⟨_,z⟩<;>(rw [z] at e;cases e)
theorem C9.put (x:C9 K CG H g pc sh ed en p xs es ss bs) {us:List V}{ds cs:List Addr}{xs':List (List Int)}{es' ss':List Ms}{bs':Ms} (hr:Reps K H us (xs'.map tI))
 (l1:ds.length=es'.length) (h1:∀ (i:Nat) d m,ds[i]?=some d->es'[i]?=some m->H d=some (.dK (cK m))/\d≠en) (l2:cs.length=ss'.length) (h2:∀ (i:Nat) d m,cs[i]?=some d->ss'[i]?=some m->H d=some (.dK (cK m))/\d≠en) (gw:Ez p xs' es' ss' bs') :
 C9 K CG (upd (upd (upd (upd H pc (.lst us)) sh (.lst (cs.map V.ref))) ed (.lst (ds.map V.ref))) en (.dK (cK bs'))) g pc sh ed en p xs' es' ss' bs':=by
 obtain⟨dx,fs,a1,a2⟩:=x.ob
 obtain⟨n1,n2,n3⟩:=x.ne
 have mu:=x.mut
 have ins:∀{c:Addr}{o:HO},H c=some o->(∀ us,o≠.lst us)->c≠en->upd (upd (upd (upd H pc (.lst us)) sh (.lst (cs.map V.ref))) ed (.lst (ds.map V.ref))) en (.dK (cK bs')) c=some o:=fun {c o} e n m=>by
  obtain⟨_,q1,_⟩:=x.pcs
  obtain⟨_,q2,_⟩:=x.shs.ex
  obtain⟨_,q3,_⟩:=x.eds.ex
  rw [Ah m,Ah (fun z=>by rw [z,q3] at e;cases e;exact n _ rfl),Ah (fun z=>by rw [z,q2] at e;cases e;exact n _ rfl),Ah (fun z=>by rw [z,q1] at e;cases e;exact n _ rfl)]
  exact e
 have nen:∀{c:Addr}{us:List V},H c=some (.lst us)->c≠en:=fun {c us} e z=>by rw [z,x.ens] at e;cases e
 obtain⟨_,q1,_⟩:=x.pcs
 obtain⟨_,q2,_⟩:=x.shs.ex
 obtain⟨_,q3,_⟩:=x.eds.ex
 have ts:Mp H (upd (upd (upd (upd H pc (.lst us)) sh (.lst (cs.map V.ref))) ed (.lst (ds.map V.ref))) en (.dK (cK bs'))) :=
  ⟨fun b us e=>ins e (fun _ z=>by cases z) (fun z=>by rw [z,x.ens] at e;cases e),fun b o u e=>ins e (fun _ z=>by cases z) (fun z=>by rw [z,x.ens] at e;cases e)⟩
 refine⟨⟨dx,fs,ins a1 (fun _ z=>by cases z) (fun z=>by rw [z,x.ens] at a1;cases a1),a2⟩,⟨us,?_,Reps.t ts (Ks _) hr⟩,⟨ds,?_,l1,fun i d m e1 e2=>?_⟩,⟨cs,?_,l2,fun i d m e1 e2=>?_⟩,Ad,x.ne,gw,x.pr⟩
 . rw [Ah (nen q1),Ah n2,Ah n1,Ad]
 . rw [Ah (nen q3),Ad]
 . obtain⟨c1,c2⟩:=h1 i d m e1 e2
   exact ⟨ins c1 (fun _ z=>by cases z) c2,c2⟩
 . rw [Ah (nen q2),Ah n3,Ad]
 . obtain⟨c1,c2⟩:=h2 i d m e1 e2
   exact ⟨ins c1 (fun _ z=>by cases z) c2,c2⟩
end
section
variable {H H' H0:Hp}{Z W:Addr->Prop}
end
section
variable {K:W.Frag}{CG:Addr}{H H':Hp}{g pc sh ed en:Addr}{p:Int}{xs:List (List Int)}{es ss:List Ms}{bs:Ms}{W:Addr->Prop}
end
def meetsB (xs:List (List Int)) (fs:List Int) (f:Int):Bool:=decide ((xs.getD f.toNat []).length=0) || (List.range fs.length).all fun i=>decide ((xs.getD f.toNat []).getD i 0=(xs.getD (fs.getD i 0).toNat []).getD (fs.length-1) 0)
section
variable (K:W.Frag) (CG:Addr)
def Ij (_K:W.Frag):Sp:=fun vs H Q _=>∃ (a:Addr) (ms:Ms) (p:Int),vs=[.ref a,.int p]/\H a=some (.dK (cK ms))/\ms.length<=1000/\nd ms/\0<p/\newC H (modI p ms) Q
def Ny (_K:W.Frag):Sp:=fun vs H Q _=>∃ (p:Int),vs=[.int p]/\Bs p/\p<98/\∀ H',Same H H'->Q (.bl true) H'
def Xa:Sp:=fun vs H Q _=>∃ n p:Int,vs=[.int n,.int p]/\Bs p/\p<98/\¬p∣n/\∀ (L:Addr) (x y:Int) (H':Hp),Same H H'->SqT K H' L [.int 1,.int x,.int y]->p∣1-x*n->Q (.ref L) H'
def Sq (_K:W.Frag):Sp:=fun vs H Q _=>∃ n p:Int,vs=[.int n,.int p]/\Bs p/\p<98/\¬p∣n/\∀ (f:Int) (H':Hp),Same H H'->0<=f->f<p->p∣1-f*n->Q (.int f) H'
def Sr:Sp:=fun vs H Q _=>∃ (a:Addr) (th:V) (e:DE) (xs:List (List Int)),vs=[.ref a,th]/\LT K H (.ref a) xs/\RepE K H th e/\∀ H',Same H H'->Q (.bl (A47 xs e)) H'
def Nz:Sp:=fun vs H Q _=>∃ (a:Addr) (th:V) (e:DE) (xs:List (List Int)),vs=[.ref a,th]/\LT K H (.ref a) xs/\Y9 xs/\xs.length<=1000/\RepE K H th e/\∀ H',Same H H'->Q (.bl (A47 xs e)) H'
def Kh:Sp:=fun vs H Q _=>∃ (a:Addr) (v:V) (xs:List (List Int)) (fs:List Int) (f:Int),vs=[.ref a,v,.int f]/\LT K H (.ref a) xs/\TI K H v fs/\0<=f/\f<(xs.length:Int)/\(∀ g∈fs,0<=g/\g<(xs.length:Int))/\fs.length<=4 ∧
 ((xs.getD f.toNat []).length=0\/(fs.length<=(xs.getD f.toNat []).length/\∀ g∈fs,fs.length<=(xs.getD g.toNat []).length))/\Q (.bl (meetsB xs fs f)) H
def Kj:Sp:=fun vs H Q _=>∃ (g dx:Addr) (p:Int),vs=[.ref g,.int p]/\H g=some (.ins CG dx [])/\Bs p/\p<98 ∧
 ∀ (pc sh ed en:Addr) (H':Hp),H pc=none->H sh=none->H ed=none->H en=none->SameX g H H'->C9 K CG H' g pc sh ed en p [] [] [] []->Q .non H'
end
theorem mod_take {p:Int}{ms:Ms}{i:Nat}{q:Int × Int} (hq:ms[i]?=some q):modI p (ms.take (i+1))=if q.2%p=0 then modI p (ms.take i) else modI p (ms.take i)++[(q.1,q.2%p)]:=by
 unfold modI
 rw [List.take_succ,hq,List.filter_append,List.map_append]
 show _++((List.filter _ [q]).map _)=_
 by_cases h:q.2%p=0
 . rw [if_pos h,List.filter_cons_of_neg (by simpa using h)]
   simp
 . rw [if_neg h,List.filter_cons_of_pos (by simpa using h)]
   rfl
theorem Os {xs:List (List Int)}{p:List Int}{j:Nat} (hj:j<p.length):meetsB xs (p.take j) (p.getD j 0)=(decide ((xs.getD (p.getD j 0).toNat []).length=0) || (List.range j).all fun i=>Kb xs p j i):=by
 unfold meetsB
 have hl:(p.take j).length=j:=by rw [List.length_take];omega
 rw [hl]
 congr 1
 rw [Bool.eq_iff_iff,List.all_eq_true,List.all_eq_true]
 have e:∀ i,i<j->(p.take j).getD i 0=p.getD i 0:=fun i hi=>by rw [List.getD_eq_getElem?_getD,List.getD_eq_getElem?_getD,List.getElem?_take_of_lt hi]
 constructor
 . intro h i hi
   have:=h i hi
   rw [e i (List.mem_range.mp hi)] at this
   exact this
 . intro h i hi
   rw [e i (List.mem_range.mp hi)]
   exact h i hi
theorem Ag6 {xs:List (List Int)}{p:List Int} (hC:Y9 xs) (hall:∀ f∈p,0<=f/\f<(xs.length:Int)/\levI (xs.getD f.toNat []).length+1=levI p.length):(∀ j,j<p.length->meetsB xs (p.take j) (p.getD j 0)=true)↔(decide (levI p.length<2) || Ek xs p)=true:=by
 constructor
 . intro h
   by_cases hl:levI p.length<2
   . rw [decide_eq_true hl];rfl
   . rw [decide_eq_false hl,Bool.false_or]
     unfold Ek
     rw [List.all_eq_true]
     intro j hj
     have hj':=List.mem_range.mp hj
     have h1:=h j hj'
     rw [Os hj'] at h1
     obtain⟨x0,x1,x2⟩:=hall _ (Cu (d:=0) hj')
     have hne:¬(xs.getD (p.getD j 0).toNat []).length=0:=fun z=>by rw [z,Ca] at x2;omega
     rw [decide_eq_false hne,Bool.false_or] at h1
     exact h1
 . intro h j hj
   rw [Os hj]
   obtain⟨x0,x1,x2⟩:=hall _ (Cu (d:=0) hj)
   by_cases hl:levI p.length<2
   . have hc:=hC.at x0 x1
     have hz:(xs.getD (p.getD j 0).toNat []).length=0:=by rw [Ca] at x2;omega
     rw [decide_eq_true hz];rfl
   . rw [decide_eq_false hl,Bool.false_or] at h
     unfold Ek at h
     rw [List.all_eq_true] at h
     rw [h j (List.mem_range.mpr hj),Bool.or_true]
section
variable {K:W.Frag}{CG CP CS:Addr}
end
theorem init_step {H Hk:Hp}{g a C dx:Addr}{fs:List (Str × V)} (fs':List (Str × V)) {o:HO} (sx:SameX g H Hk) (eg:Hk g=some (.ins C dx fs)) (ha:Hk a=none) :
 SameX g H (upd (upd Hk a o) g (.ins C dx fs'))/\upd (upd Hk a o) g (.ins C dx fs') g=some (.ins C dx fs')/\upd (upd Hk a o) g (.ins C dx fs') a=some o/\(∀ b q,b≠g->Hk b=some q->upd (upd Hk a o) g (.ins C dx fs') b=some q)/\H a=none/\a≠g:=by
 have hag:a≠g:=fun z=>by rw [z,eg] at ha;cases ha
 have pers:∀ b q,b≠g->Hk b=some q->upd (upd Hk a o) g (.ins C dx fs') b=some q:=fun b q n e=>by rw [Ah n,Ah (fun z=>by rw [z,ha] at e;cases e)];exact e
 refine⟨fun b q n e=>pers b q n (sx b q n e),Ad,by rw [Ah hag,Ad],pers,?_,hag⟩
 cases e:H a with
 | none=>rfl
 | some q=>have:=sx a q hag e;rw [ha] at this;cases this
theorem Yc (ms:Ms):(cK ms).map (·.1)=(A2 ms).map fun k=>(.inl k:Key):=by
 unfold cK A2
 rw [List.map_map,List.map_map]
 rfl
theorem Yb {ms:Ms} (h:ms≠[]):A2 ms≠[]:=fun z=>h (by unfold A2 at z;simpa using z)
theorem Aa2 {H H1:Hp}{a:Addr}{o:HO} (h:H a=none) (s:Ww a (upd H a o) H1):Same H H1:=fun c q e=>by
 have n:c≠a:=Ap e h
 exact s c q n (by rw [Ah n];exact e)
theorem Zk (l:List Addr) (a:Addr):l.map V.ref++[.ref a]=(l++[a]).map V.ref:=by rw [List.map_append];rfl
theorem Pn {H:Hp}{en d:Addr}{ds:List Addr}{ms:List Ms}{m:Ms} (hl:ds.length=ms.length) (h:∀ (i:Nat) d m,ds[i]?=some d->ms[i]?=some m->H d=some (.dK (cK m))/\d≠en) (hd:H d=some (.dK (cK m))) (hn:d≠en) :
 (ds++[d]).length=(ms++[m]).length/\∀ (i:Nat) d' m',(ds++[d])[i]?=some d'->(ms++[m])[i]?=some m'->H d'=some (.dK (cK m'))/\d'≠en:=by
 refine⟨by simp [hl],fun i d' m' e1 e2=>?_⟩
 rcases C6 e1 with ⟨h1,e1⟩|⟨h1,rfl⟩
 . rcases C6 e2 with ⟨_,e2⟩|⟨h2,_⟩
   . exact h i d' m' e1 e2
   . omega
 . rcases C6 e2 with ⟨h2,_⟩|⟨_,rfl⟩
   . omega
   . exact ⟨hd,hn⟩
theorem FrG.four {pc sh ed en:Addr}{H H7:Hp}{o1 o2 o3 o4:HO} (s:Same H H7):FrG pc sh ed en H (upd (upd (upd (upd H7 pc o1) sh o2) ed o3) en o4) :=
 ((((FrG.of s).trans (FrG.up (.inl rfl))).trans (FrG.up (.inr (.inl rfl)))).trans (FrG.up (.inr (.inr (.inl rfl))))).trans (FrG.up (.inr (.inr (.inr rfl))))
theorem Up (n:Int) (ms:Ms):(A5 n ms).length<=ms.length:=by
 unfold A5
 split
 . exact Nat.zero_le _
 . rw [List.length_map];exact Nat.le_refl _
theorem Nl {n:Int}{ms:Ms} (h:nd ms):nd (A5 n ms):=by
 unfold A5
 split
 . exact List.nodup_nil
 . exact Iq h _
theorem Ap9 {a f p:Int} (a0:0<a) (a1:a<p) (f0:0<=f) (f1:f<p) (hp:p<98):-(10000:Int) < -a*f/\-a*f<=0:=by
 have h1:a*f<=97*97:=Int.mul_le_mul (by omega) (by omega) f0 (by omega)
 have h2:0<=a*f:=Int.mul_nonneg (by omega) f0
 have e:-a*f=-(a*f):=Int.neg_mul a f
 omega
theorem lenF {f:Str}{v:V}{fs:List (Str × V)}{n:Nat} (h:fs.length<=n):(putF f v fs).length<=n+1:=Nat.le_trans (J3 f v fs) (by omega)
end Hb
namespace L2
open PySem PySem.Spec PyProof.Rows
theorem W6 {t u:TS}{D:Ends}{σ:St}{H:Hp} (σ1:St) (H1:Hp) (ht:∀ D':Ends,D'.nx σ1 H1->t D' σ H) (h:u D σ1 H1):tSeq t u D σ H:=ht { D with nx:=u D } h
end L2
namespace Hb
open PySem L2
theorem v5 {g:TG}{te:TE}{D:Addr}{Q:Hp->Prop}{τ:St}{H:Hp}{K:W.Frag}{a b:Addr}{xs ys:List V}{n:Nat} (hn:xs.length=n/\ys.length=n) (Pv:Nat->List V->St->Hp->Prop) (h0:Pv 0 [] τ H) (hl:∀ i zs τ H,i<=n->Pv i zs τ H->SqT K H a xs/\SqT K H b ys)
 (hs:∀ i x y zs τ H p,xs[i]?=some x->ys[i]?=some y->Pv i zs τ H->H p=none->g (.ref p) τ (upd H p (.tup [x,y])) fun τ2 H2=>te τ2 H2 fun y H4=>H4 D=some (.lst zs)/\zs.length<sizeLine/\Pv (i+1) (zs++[y]) τ2 (upd H4 D (.lst (zs++[y]))))
 (hd:∀ zs τ H,Pv n zs τ H->Q H):RunC (Ityp K a b) g tYes te D Q τ H:=Am5 hn Pv h0 hl (fun i x y zs τ H p e1 e2 q hp=>hs i x y zs τ H p e1 e2 q hp) hd
section
variable {K:W.Frag}{CG:Addr}{H H' H1 H2:Hp}{W:Addr->Prop}{g pc sh ed en:Addr}{p:Int}{xs:List (List Int)}{es ss:List Ms}{bs:Ms}
end
end Hb
namespace Hb
open PySem L2
theorem Ax8 {α:Type}{l:List α} (h:l.length=2):∃ x y,l=[x,y]:=by
 match l,h with
 | [x,y],_=>exact ⟨x,y,rfl⟩
theorem Au0 {α:Type}{l:List α} (h:l.length=3):∃ x y z,l=[x,y,z]:=by
 match l,h with
 | [x,y,z],_=>exact ⟨x,y,z,rfl⟩
theorem Bs.split {p a u:Int} (hp:Bs p) (hu:¬p∣u) (h:p∣a*u):p∣a:=by
 have hg:Int.gcd u p=1:=by
  have h1:((Int.gcd u p:Nat):Int)∣p:=Int.gcd_dvd_right ..
  have h2:((Int.gcd u p:Nat):Int)∣u:=Int.gcd_dvd_left ..
  have h0:0<((Int.gcd u p:Nat):Int):=by
   have:Int.gcd u p≠0:=fun z=>by
    have:=(Int.gcd_eq_zero_iff.mp z).2
    have:=hp.two
    omega
   omega
  rcases hp.div h0 h1 with z | z
  . omega
  . rw [z] at h2;exact absurd h2 hu
 have hn:Nat.Coprime p.natAbs u.natAbs:=by
  unfold Nat.Coprime
  rw [Nat.gcd_comm]
  exact hg
 have h3:p.natAbs∣a.natAbs*u.natAbs:=by rw [←Int.natAbs_mul];exact Int.natAbs_dvd_natAbs.mpr h
 exact Int.natAbs_dvd_natAbs.mp (hn.dvd_of_dvd_mul_right h3)
theorem W7 {p:Int}{f:Nat->Int}:∀{n:Nat},(∀ j,j<n->p∣f j)->p∣sumN f n
 | 0,_=>⟨0,by simp [sumN]⟩
 | n+1,h=>Int.dvd_add (W7 fun j hj=>h j (by omega)) (h n (by omega))
theorem Fn {p:Int}{f g:Nat->Int}{n:Nat} (h:∀ j,j<n->p∣f j-g j):p∣sumN f n-sumN g n:=by
 have e:sumN f n-sumN g n=sumN (fun j=>f j-g j) n:=by
  have:sumN f n=sumN (fun j=>(f j-g j)+g j) n:=A0 fun k _=>by omega
  rw [this,Kg]
  omega
 rw [e]
 exact W7 h
theorem Aa1 {p:Int}{f:Nat->Int}{i:Nat}:∀{n:Nat},i<n->(∀ j,j<n->j≠i->p∣f j)->p∣sumN f n->p∣f i
 | n+1,hi,h,hs=>by
   have hs:p∣sumN f n+f n:=hs
   by_cases z:i=n
   . subst z
     have h1:p∣sumN f i:=W7 fun j hj=>h j (by omega) (by omega)
     exact (Int.dvd_add_right h1).mp hs
   . have h1:p∣f n:=h n (by omega) (fun e=>z e.symm)
     exact Aa1 (by omega) (fun j hj hn=>h j (by omega) hn) ((Int.dvd_add_left h1).mp hs)
theorem Ae4 (q:List Int) (f:Int):∀ n,oftN q f n=sumN (fun i=>sg i*ind (q.getD i 0) f) n
 | 0=>rfl
 | n+1=>by
   have e:=Ae4 q f n
   show (if q.getD n 0=f then oftN q f n+1-2*((n:Int)%2) else oftN q f n)=sumN _ n+sg n*ind (q.getD n 0) f
   rw [←e]
   unfold ind sg
   by_cases h:q.getD n 0=f
   . rw [if_pos h,if_pos h];omega
   . rw [if_neg h,if_neg h];omega
theorem z7 {xs:List (List Int)} (hs:Cg xs) {k:Nat} (hk:k<xs.length) (e:Int):sumN (fun j=>oft (xs.getD k []) (j:Int)*oft (xs.getD j []) e) xs.length=0:=by
 have hq:xs[k]?=some (xs.getD k []):=by rw [List.getD_eq_getElem?_getD,List.getElem?_eq_getElem hk];rfl
 have ht:=Bd5 hs hq e
 have hf:Fits (xs.take k) (xs.getD k []):=hs k _ hq
 generalize xs.getD k []=q at hq ht hf
 have hin:∀ i,i<q.length->0<=q.getD i 0/\(q.getD i 0).toNat<xs.length:=fun i hi=>by
  have hm:=Cu (d:=0) hi
  obtain⟨r,hr,_⟩:=hf.bel _ hm
  have:=(List.getElem?_eq_some_iff.mp hr).1
  rw [List.length_take] at this
  exact ⟨hf.low _ hm,by omega⟩
 have e1:sumN (fun j=>oft q (j:Int)*oft (xs.getD j []) e) xs.length=sumN (fun j=>sumN (fun i=>sg i*ind (q.getD i 0) (j:Int)*oft (xs.getD j []) e) q.length) xs.length:=A0 fun j _=>by
  show oftN q (j:Int) q.length*_=_
  rw [Ae4,←Nu]
 rw [e1,Kf]
 refine Eq.trans (A0 fun i hi=>?_) ht
 obtain⟨h0,h1⟩:=hin i hi
 have e2:sumN (fun j=>sg i*ind (q.getD i 0) (j:Int)*oft (xs.getD j []) e) xs.length=sg i*sumN (fun j=>(if j=(q.getD i 0).toNat then 1 else 0)*oft (xs.getD j []) e) xs.length:=by
  rw [←E3]
  refine A0 fun j _=>?_
  unfold ind
  by_cases z:j=(q.getD i 0).toNat
  . rw [if_pos z,if_pos (by omega)];rw [Int.mul_one,Int.one_mul]
  . rw [if_neg z,if_neg (fun y=>z (by omega))];simp
 rw [e2,Ii,if_pos h1]
structure Dy (p:Int) (xs:List (List Int)) (es ss:List Ms):Prop where
 own:∀ (i:Nat) s,ss[i]?=some s->getI s (i:Int)=1
 lev:∀ (i:Nat) s,ss[i]?=some s->∀ x∈A2 s,(xs.getD x.toNat []).length-1=(xs.getD i []).length-1
 bd:∀ (i:Nat) s e,ss[i]?=some s->es[i]?=some e->∀ x:Int,p∣sumN (fun j=>getI s (j:Int)*oft (xs.getD j []) x) xs.length-getI e x
section
variable {p:Int}{xs:List (List Int)}{es ss:List Ms}{bs:Ms}
theorem Yj (x:Int):getI [] x=0:=by simp [getI,lookI]
theorem span (s:Nat->Int->Int) (own:∀ j:Nat,s j (j:Int)=1) (out:∀ (j:Nat) (x:Int),x<0\/(j:Int)<x->s j x=0):∀ (m:Nat) (z:Int->Int),(∀ x,x<0\/(m:Int)<=x->p∣z x)->∃ a:Nat->Int,(∀ k,k+1=m->a k=z (k:Int))/\∀ x,p∣z x-sumN (fun j=>a j*s j x) m
 | 0,z,hz=>⟨fun _=>0,fun k h=>by omega,fun x=>by
    have h1:p∣z x:=hz x (by omega)
    have:sumN (fun j=>(fun _=>(0:Int)) j*s j x) 0=0:=rfl
    rw [this,Int.sub_zero];exact h1⟩
 | m+1,z,hz=>by
   obtain⟨a,_,h⟩:=span s own out m (fun x=>z x-z (m:Int)*s m x) (fun x hx=>by
    by_cases e:x=(m:Int)
    . subst e
      show p∣z (m:Int)-z (m:Int)*s m (m:Int)
      rw [own,Int.mul_one,Int.sub_self]
      exact Int.dvd_zero p
    . have hx2:x<0\/(m:Int)<x:=by omega
      show p∣z x-z (m:Int)*s m x
      rw [out m x hx2,Int.mul_zero,Int.sub_zero]
      exact hz x (by omega))
   refine⟨fun j=>if j=m then z (m:Int) else a j,fun k hk=>?_,fun x=>?_⟩
   . have:k=m:=by omega
     subst this
     exact if_pos rfl
   . have e:sumN (fun j=>(fun j=>if j=m then z (m:Int) else a j) j*s j x) (m+1)=sumN (fun j=>a j*s j x) m+z (m:Int)*s m x:=by
      show sumN _ m+(if m=m then z (m:Int) else a m)*s m x=_
      rw [if_pos rfl]
      congr 1
      exact A0 fun j hj=>by
       show (if j=m then z (m:Int) else a j)*s j x=_
       rw [if_neg (by omega)]
     rw [e]
     have:=h x
     have e2:z x-(sumN (fun j=>a j*s j x) m+z (m:Int)*s m x)=z x-z (m:Int)*s m x-sumN (fun j=>a j*s j x) m:=by omega
     rw [e2]
     exact this
theorem free {p:Int} (hp:Bs p) {n m:Nat} (e:Nat->Int->Int) (top:Nat->Int->Prop) (a:Nat->Int) (h1:∀ j t,j<m->top j t->0<=t/\t<(n:Int)/\¬p∣e j t) (h2:∀ j t x,top j t->t<x->e j x=0) (h3:∀ i j t,top i t->top j t->i=j)
 (h4:∀ j,j<m->(∃ t,top j t)\/∀ x,e j x=0) (hz:∀ y,p∣sumN (fun j=>a j*e j y) m):∀ (d j:Nat) (t:Int),j<m->top j t->n-t.toNat<=d->p∣a j
 | 0,j,t,hj,ht,hd=>by
   obtain⟨x0,x1,_⟩:=h1 j t hj ht
   omega
 | d+1,j,t,hj,ht,hd=>by
   obtain⟨x0,x1,x2⟩:=h1 j t hj ht
   refine hp.split x2 (Aa1 (f:=fun j=>a j*e j t) hj (fun j' hj' hn=>?_) (hz t))
   show p∣a j'*e j' t
   rcases h4 j' hj' with ⟨t',ht'⟩ | h0
   . obtain⟨y0,y1,_⟩:=h1 j' t' hj' ht'
     by_cases c:t'<t
     . rw [h2 j' t' t ht' c,Int.mul_zero];exact Int.dvd_zero p
     . by_cases c2:t'=t
       . subst c2;exact absurd (h3 _ _ _ ht' ht) hn
       . have:=free hp e top a h1 h2 h3 h4 hz d j' t' hj' ht' (by omega)
         exact Int.dvd_trans this (Int.dvd_mul_right ..)
   . rw [h0,Int.mul_zero];exact Int.dvd_zero p
theorem Aj2 {l:List Ms}{i:Nat}{m:Ms} (h:l[i]?=some m):l.getD i []=m:=by rw [List.getD_eq_getElem?_getD,h];rfl
theorem Py {l:List Ms}{i:Nat} (h:i<l.length):l[i]?=some (l.getD i []):=by rw [List.getD_eq_getElem?_getD,List.getElem?_eq_getElem h];rfl
theorem Bd1 {i:Nat}{m:Ms}{b:Int} (g:Ez p xs es ss bs) (s:Dy p xs es ss) (hp:Bs p) (hi:es[i]?=some m) (tb:Top m b):es[b.toNat]?=some []:=by
 have hil:i<xs.length:=by rw [←g.le];exact (List.getElem?_eq_some_iff.mp hi).1
 obtain⟨okm,km⟩:=g.eok i m hi
 obtain⟨b0,b1,_⟩:=km b tb.mem
 obtain⟨lk,v0,v1⟩:=tb.look okm
 have hbl:b.toNat<xs.length:=by omega
 have hes:es[b.toNat]?=some (es.getD b.toNat []):=Py (by rw [g.le];exact hbl)
 by_cases hz:es.getD b.toNat []=[]
 . rw [hes,hz]
 exfalso
 have hS:∀ j,j<xs.length->ss[j]?=some (ss.getD j []):=fun j hj=>Py (by rw [g.ls];exact hj)
 have hE:∀ j,j<xs.length->es[j]?=some (es.getD j []):=fun j hj=>Py (by rw [g.le];exact hj)
 obtain⟨sf,hsf⟩:∃ sf:Nat->Int->Int,sf=fun j x=>if j<xs.length then getI (ss.getD j []) x else if x=(j:Int) then 1 else 0:=⟨_,rfl⟩
 have own:∀ j:Nat,sf j (j:Int)=1:=fun j=>by
  rw [hsf]
  show (if j<xs.length then getI (ss.getD j []) (j:Int) else if (j:Int)=(j:Int) then 1 else 0)=1
  by_cases h:j<xs.length
  . rw [if_pos h];exact s.own j _ (hS j h)
  . rw [if_neg h,if_pos rfl]
 have out:∀ (j:Nat) (x:Int),x<0\/(j:Int)<x->sf j x=0:=fun j x hx=>by
  rw [hsf]
  show (if j<xs.length then getI (ss.getD j []) x else if x=(j:Int) then 1 else 0)=0
  by_cases h:j<xs.length
  . rw [if_pos h]
    refine Cb fun hk=>?_
    have:=(g.sok j _ (hS j h)).2 x hk
    omega
  . rw [if_neg h,if_neg (by omega)]
 have zout:∀ x,x<0\/((b.toNat+1:Nat):Int)<=x->p∣getI m x:=fun x hx=>by
  have:getI m x=0:=Cb fun hk=>by
   have h1:=tb.le x hk
   have h2:=(km x hk).1
   omega
  rw [this];exact Int.dvd_zero p
 obtain⟨a,ha,hsp⟩:=span (p:=p) sf own out (b.toNat+1) (getI m) zout
 have hab:=ha b.toNat rfl
 rw [show ((b.toNat:Nat):Int)=b by omega] at hab
 have hb0:∀ y,p∣sumN (fun x=>getI m (x:Int)*oft (xs.getD x []) y) xs.length:=fun y=>by
  have e1:p∣sumN (fun x=>sumN (fun k=>getI (ss.getD i []) (k:Int)*oft (xs.getD k []) (x:Int)) xs.length*oft (xs.getD x []) y) xs.length-sumN (fun x=>getI m (x:Int)*oft (xs.getD x []) y) xs.length:=Fn fun x _=>by
   have:=s.bd i _ m (hS i hil) hi (x:Int)
   have e:sumN (fun k=>getI (ss.getD i []) (k:Int)*oft (xs.getD k []) (x:Int)) xs.length*oft (xs.getD x []) y-getI m (x:Int)*oft (xs.getD x []) y=(sumN (fun k=>getI (ss.getD i []) (k:Int)*oft (xs.getD k []) (x:Int)) xs.length-getI m (x:Int))*oft (xs.getD x []) y:=by rw [Int.sub_mul]
   rw [e]
   exact Int.dvd_trans this (Int.dvd_mul_right ..)
  have e2:sumN (fun x=>sumN (fun k=>getI (ss.getD i []) (k:Int)*oft (xs.getD k []) (x:Int)) xs.length*oft (xs.getD x []) y) xs.length=0:=by
   have e3:sumN (fun x=>sumN (fun k=>getI (ss.getD i []) (k:Int)*oft (xs.getD k []) (x:Int)) xs.length*oft (xs.getD x []) y) xs.length=sumN (fun x=>sumN (fun k=>getI (ss.getD i []) (k:Int)*oft (xs.getD k []) (x:Int)*oft (xs.getD x []) y) xs.length) xs.length:=A0 fun x _=>by rw [Nu]
   rw [e3,Kf]
   have e4:sumN (fun k=>sumN (fun x=>getI (ss.getD i []) (k:Int)*oft (xs.getD k []) (x:Int)*oft (xs.getD x []) y) xs.length) xs.length=sumN (fun _=>0) xs.length:=A0 fun k hk=>by
    have e5:sumN (fun x=>getI (ss.getD i []) (k:Int)*oft (xs.getD k []) (x:Int)*oft (xs.getD x []) y) xs.length=getI (ss.getD i []) (k:Int)*sumN (fun x=>oft (xs.getD k []) (x:Int)*oft (xs.getD x []) y) xs.length:=by
     rw [←E3]
     exact A0 fun x _=>by rw [Int.mul_assoc]
    rw [e5,z7 g.shp hk,Int.mul_zero]
   rw [e4,Nt]
  rw [e2,Int.zero_sub] at e1
  exact Int.dvd_neg.mp e1
 obtain⟨ef,hef⟩:∃ ef:Nat->Int->Int,ef=fun j x=>getI (es.getD j []) x:=⟨_,rfl⟩
 have hs0:∀ y,p∣sumN (fun j=>a j*ef j y) (b.toNat+1):=fun y=>by
  have e1:p∣sumN (fun x=>getI m (x:Int)*oft (xs.getD x []) y) xs.length-sumN (fun x=>sumN (fun j=>a j*sf j (x:Int)) (b.toNat+1)*oft (xs.getD x []) y) xs.length:=Fn fun x _=>by
   rw [←Int.sub_mul]
   exact Int.dvd_trans (hsp (x:Int)) (Int.dvd_mul_right ..)
  have e2:=(Int.dvd_sub (hb0 y) e1)
  rw [show ∀ u v:Int,u-(u-v)=v from fun u v=>by omega] at e2
  have e3:sumN (fun x=>sumN (fun j=>a j*sf j (x:Int)) (b.toNat+1)*oft (xs.getD x []) y) xs.length=sumN (fun j=>a j*sumN (fun x=>sf j (x:Int)*oft (xs.getD x []) y) xs.length) (b.toNat+1):=by
   have e4:sumN (fun x=>sumN (fun j=>a j*sf j (x:Int)) (b.toNat+1)*oft (xs.getD x []) y) xs.length=sumN (fun x=>sumN (fun j=>a j*sf j (x:Int)*oft (xs.getD x []) y) (b.toNat+1)) xs.length:=A0 fun x _=>by rw [Nu]
   rw [e4,Kf]
   refine A0 fun j _=>?_
   rw [←E3]
   exact A0 fun x _=>by rw [Int.mul_assoc]
  rw [e3] at e2
  have e5:p∣sumN (fun j=>a j*sumN (fun x=>sf j (x:Int)*oft (xs.getD x []) y) xs.length) (b.toNat+1)-sumN (fun j=>a j*ef j y) (b.toNat+1):=Fn fun j hj=>by
   have hjl:j<xs.length:=by omega
   rw [←Int.mul_sub]
   have e6:sumN (fun x=>sf j (x:Int)*oft (xs.getD x []) y) xs.length=sumN (fun x=>getI (ss.getD j []) (x:Int)*oft (xs.getD x []) y) xs.length:=A0 fun x _=>by
    rw [hsf]
    show (if j<xs.length then getI (ss.getD j []) (x:Int) else if (x:Int)=(j:Int) then 1 else 0)*_=_
    rw [if_pos hjl]
   rw [e6,hef]
   exact Int.dvd_trans (s.bd j _ _ (hS j hjl) (hE j hjl) y) (Int.dvd_mul_left ..)
  have e7:=Int.dvd_sub e2 e5
  rw [show ∀ u v:Int,u-(u-v)=v from fun u v=>by omega] at e7
  exact e7
 obtain⟨t,tt⟩:=Zb hz
 have hfin:=free hp (n:=xs.length) ef (fun j t=>j<xs.length/\Top (es.getD j []) t) a (m:=b.toNat+1) (fun j t hj ⟨hjl,ht⟩=>?_) (fun j t x ⟨hjl,ht⟩ hx=>?_) (fun i j t ⟨hi',ht⟩ ⟨hj',ht'⟩=>?_) (fun j hj=>?_) hs0 _ b.toNat t (by omega) ⟨hbl,tt⟩ (Nat.le_refl _)
 . rw [hab] at hfin
   exact ndvd v0 v1 hfin
 . obtain⟨ok,kk⟩:=g.eok j _ (hE j hjl)
   obtain⟨k0,k1,_⟩:=kk t ht.mem
   obtain⟨_,u0,u1⟩:=ht.look ok
   rw [hef]
   exact ⟨k0,by omega,ndvd u0 u1⟩
 . rw [hef]
   exact Cb fun hk=>by have:=ht.le x hk;omega
 . have h1:=(g.bls t (i:Int)).mpr ⟨_,_,rfl,hE _ hi',ht⟩
   have h2:=(g.bls t (j:Int)).mpr ⟨_,_,rfl,hE _ hj',ht'⟩
   rw [h1] at h2
   have:=Option.some.inj h2
   omega
 . by_cases hn:es.getD j []=[]
   . right
     intro x
     rw [hef]
     show getI (es.getD j []) x=0
     rw [hn]
     exact Yj x
   . left
     obtain⟨t',ht'⟩:=Zb hn
     exact ⟨t',by omega,ht'⟩
end
end Hb
namespace Hb
open PySem L2
structure Nk (p:Int) (xs:List (List Int)) (q:List Int) (ms me:Ms):Prop where
 own:getI ms (xs.length:Int)=1
 lev:∀ x∈A2 ms,x=(xs.length:Int)\/(x<(xs.length:Int)/\(xs.getD x.toNat []).length-1=q.length-1)
 bd:∀ y:Int,p∣sumN (fun j=>getI ms (j:Int)*oft ((xs++[q]).getD j []) y) (xs.length+1)-getI me y
section
variable {p:Int}{xs:List (List Int)}{q:List Int}{es ss:List Ms}{bs ms me:Ms}
theorem Yo (a p:Int):p∣a-a%p:=by
 have:=Int.mul_ediv_add_emod a p
 exact ⟨a / p,by omega⟩
theorem Ai9 (k x:Int):getI [(k,1)] x=if x=k then 1 else 0:=by
 unfold getI lookI
 by_cases h:x=k
 . subst h;simp
 . rw [if_neg h]
   have:¬k=x:=fun z=>h z.symm
   simp [this]
theorem Nk.first (hq:∀ f∈q,0<=f):Nk p xs q [((xs.length:Int),1)] (modI p (addF [] q 1)):=by
 refine⟨by rw [Ai9,if_pos rfl],fun x hx=>?_,fun y=>?_⟩
 . simp [A2] at hx
   exact .inl hx
 . have e:sumN (fun j=>getI [((xs.length:Int),1)] (j:Int)*oft ((xs++[q]).getD j []) y) (xs.length+1)=oft q y:=by
    have e2:sumN (fun j=>getI [((xs.length:Int),1)] (j:Int)*oft ((xs++[q]).getD j []) y) (xs.length+1)=sumN (fun j=>(if j=xs.length then 1 else 0)*oft ((xs++[q]).getD j []) y) (xs.length+1):=A0 fun j _=>by
     rw [Ai9]
     by_cases h:j=xs.length
     . rw [if_pos h,if_pos (by omega)]
     . rw [if_neg h,if_neg (by omega)]
    rw [e2,Ii,if_pos (by omega),Nq]
   have nad:nd (addF [] q 1):=Tm (ms:=[]) (by simp [nd]) q 1 q.length
   have g:getI (addF [] q 1) y=oft q y:=by
    have:=Vy [] q 1 y q.length
    rw [Yj,Int.zero_add,Int.mul_one] at this
    exact this
   rw [e,J1 nad,g]
   exact Yo _ _
theorem Nk.step {i:Nat}{n:Int}{s e:Ms} (hp:2<=p) (h:Nk p xs q ms me) (g:Ez p xs es ss bs) (sh:Dy p xs es ss) (hs:ss[i]?=some s) (he:es[i]?=some e) (o1:OkM p ms) (o2:OkM p me) (hl:(xs.getD i []).length-1=q.length-1) :
 Nk p xs q (modI p (De ms (A5 n s))) (modI p (De me (A5 n e))):=by
 have hil:i<xs.length:=by rw [←g.ls];exact (List.getElem?_eq_some_iff.mp hs).1
 obtain⟨oS,kS⟩:=g.sok i s hs
 obtain⟨oE,kE⟩:=g.eok i e he
 obtain⟨n1,_,_,g1⟩:=Jz (A5 n s) ms o1.nd o1.nz (Nl oS.nd)
 obtain⟨n2,_,_,g2⟩:=Jz (A5 n e) me o2.nd o2.nz (Nl oE.nd)
 have c1:=(Wb (p:=p) (n:=n) (by omega) o1 oS).2
 have s0:getI s (xs.length:Int)=0:=Cb fun hk=>by have:=kS _ hk;omega
 refine⟨?_,fun x hx=>?_,fun y=>?_⟩
 . rw [J1 n1,g1,Hs,h.own,s0,Int.mul_zero,Int.add_zero]
   exact Int.emod_eq_of_lt (by decide) (by omega)
 . rcases c1 x hx with z | z
   . exact h.lev x z
   . have k1:=kS x z
     have l1:=sh.lev i s hs x z
     exact .inr ⟨by omega,by omega⟩
 . have a1:=h.bd y
   have a2:=sh.bd i s e hs he y
   have e0:sumN (fun j=>getI s (j:Int)*oft ((xs++[q]).getD j []) y) (xs.length+1)=sumN (fun j=>getI s (j:Int)*oft (xs.getD j []) y) xs.length:=by
    show sumN _ xs.length+getI s (xs.length:Int)*_=_
    rw [s0,Int.zero_mul,Int.add_zero]
    exact A0 fun j hj=>by rw [C5 hj]
   have e1:p∣sumN (fun j=>(getI ms (j:Int)+n*getI s (j:Int))*oft ((xs++[q]).getD j []) y) (xs.length+1)-sumN (fun j=>getI (modI p (De ms (A5 n s))) (j:Int)*oft ((xs++[q]).getD j []) y) (xs.length+1):=Fn fun j _=>by
    rw [←Int.sub_mul,J1 n1,g1,Hs]
    exact Int.dvd_trans (Yo _ _) (Int.dvd_mul_right ..)
   have e2:sumN (fun j=>(getI ms (j:Int)+n*getI s (j:Int))*oft ((xs++[q]).getD j []) y) (xs.length+1)=sumN (fun j=>getI ms (j:Int)*oft ((xs++[q]).getD j []) y) (xs.length+1)+n*sumN (fun j=>getI s (j:Int)*oft (xs.getD j []) y) xs.length:=by
    rw [←e0,←E3,←Kg]
    exact A0 fun j _=>by rw [Int.add_mul,Int.mul_assoc]
   rw [e2] at e1
   have e3:p∣(getI me y+n*getI e y)-getI (modI p (De me (A5 n e))) y:=by
    rw [J1 n2,g2,Hs]
    exact Yo _ _
   generalize sumN (fun j=>getI (modI p (De ms (A5 n s))) (j:Int)*oft ((xs++[q]).getD j []) y) (xs.length+1)=A at e1 ⊢
   generalize sumN (fun j=>getI ms (j:Int)*oft ((xs++[q]).getD j []) y) (xs.length+1)=B at a1 e1
   generalize sumN (fun j=>getI s (j:Int)*oft (xs.getD j []) y) xs.length=C at a2 e1
   generalize getI (modI p (De me (A5 n e))) y=E at e3 ⊢
   have a3:p∣n*(C-getI e y):=Int.dvd_trans a2 (Int.dvd_mul_left ..)
   rw [Int.mul_sub] at a3
   have t:=Int.dvd_add (Int.dvd_add (Int.dvd_sub (Int.dvd_add a1 a3) (Int.dvd_refl p)) (Int.dvd_refl p)) e3
   have t2:=Int.dvd_sub t e1
   have:B-getI me y+(n*C-n*getI e y)-p+p+(getI me y+n*getI e y-E)-(B+n*C-A)=A-E:=by omega
   rw [this] at t2
   exact t2
theorem Dy.nil:Dy p [] [] []:=⟨fun i s h=>by simp at h,fun i s h=>by simp at h,fun i s e h=>by simp at h⟩
theorem Dy.grow (g:Ez p xs es ss bs) (sh:Dy p xs es ss) (h:Nk p xs q ms me):Dy p (xs++[q]) (es++[me]) (ss++[ms]):=by
 refine⟨fun i s hs=>?_,fun i s hs x hx=>?_,fun i s e hs he y=>?_⟩
 . rcases C6 hs with ⟨_,hs⟩|⟨rfl,rfl⟩
   . exact sh.own i s hs
   . rw [g.ls];exact h.own
 . rcases C6 hs with ⟨hl,hs⟩|⟨rfl,rfl⟩
   . rw [g.ls] at hl
     have k1:=(g.sok i s hs).2 x hx
     rw [C5 (by omega),C5 hl]
     exact sh.lev i s hs x hx
   . rw [g.ls,Nq]
     rcases h.lev x hx with z|⟨z1,z2⟩
     . subst z
       rw [show ((xs.length:Nat):Int).toNat=xs.length by omega,Nq]
     . by_cases h0:x<0
       . rw [show x.toNat=0 by omega] at z2 ⊢
         by_cases hx0:0<xs.length
         . rw [C5 hx0];exact z2
         . have:xs=[]:=List.length_eq_zero_iff.mp (by omega)
           subst this
           rfl
       . rw [C5 (by omega)];exact z2
 . rw [List.length_append,show xs.length+[q].length=xs.length+1 from rfl]
   rcases C6 hs with ⟨hl,hs⟩|⟨hl,rfl⟩
   . rcases C6 he with ⟨_,he⟩|⟨hl2,_⟩
     . have s0:getI s (xs.length:Int)=0:=Cb fun hk=>by have:=(g.sok i s hs).2 _ hk;rw [g.ls] at hl;omega
       have e0:sumN (fun j=>getI s (j:Int)*oft ((xs++[q]).getD j []) y) (xs.length+1)=sumN (fun j=>getI s (j:Int)*oft (xs.getD j []) y) xs.length:=by
        show sumN _ xs.length+getI s (xs.length:Int)*_=_
        rw [s0,Int.zero_mul,Int.add_zero]
        exact A0 fun j hj=>by rw [C5 hj]
       rw [e0]
       exact sh.bd i s e hs he y
     . rw [g.ls] at hl;rw [g.le] at hl2;omega
   . rcases C6 he with ⟨hl2,_⟩|⟨_,rfl⟩
     . rw [g.ls] at hl;rw [g.le] at hl2;omega
     . exact h.bd y
end
end Hb
namespace L2
open PySem PySem.Spec PyProof.Rows
section
variable {prog:Program}{w:World}{A:Around}{R:Result->Shared->Prop}
end
end L2
namespace Hb
open PySem L2
def D3 (es:List Ms) (n:Nat):List Nat:=(List.range n).filter fun i=>(es.getD i []).isEmpty
theorem v9 (es:List Ms) (n:Nat):D3 es (n+1)=if es.getD n []=[] then D3 es n++[n] else D3 es n:=by
 unfold D3
 rw [List.range_succ,List.filter_append]
 by_cases h:es.getD n []=[]
 . rw [if_pos h,List.filter_cons_of_pos (by simpa using h)]
   rfl
 . rw [if_neg h,List.filter_cons_of_neg (by simpa using h)]
   simp
theorem Pw (es:List Ms) (n:Nat):(D3 es n).length<=n:=by
 unfold D3
 have:=List.length_filter_le (fun i=>(es.getD i []).isEmpty) (List.range n)
 simpa using this
theorem An9 {es:List Ms}{n i:Nat}:i∈D3 es n↔i<n/\es.getD i []=[]:=by
 unfold D3
 rw [List.mem_filter,List.mem_range]
 simp
def endV (bs:Ms) (i:Int):V:=match lookI bs i with
 | some e=>.int e
 | none=>.non
def endD (bs:Ms) (i:Int):L2.D:=match lookI bs i with
 | some e=>.int e
 | none=>.non
theorem A02 {K:W.Frag}{H:Hp} (bs:Ms) (i:Int):Rep K H (endV bs i) (endD bs i):=by
 unfold endV endD
 cases lookI bs i<;>rfl
theorem A44 (bs:Ms) (i:Int):((lookI bs i).map V.int).getD .non=endV bs i:=by
 unfold endV
 cases lookI bs i<;>rfl
def Lo (bs:Ms) (i:Nat):L2.D:=.tup [.int (i:Int),endD bs (i:Int)]
def Jk (es:List Ms) (bs:Ms) (n:Nat):List L2.D:=(D3 es n).map (Lo bs)
abbrev Aw9 (es:List Ms) (bs:Ms):List L2.D:=Jk es bs es.length
theorem f6 (es:List Ms) (bs:Ms) (n:Nat):(Jk es bs n).length<=n:=by
 unfold Jk;rw [List.length_map];exact Pw es n
theorem As2 (bs:Ms) (i:Nat):imm (Lo bs i)=true:=by
 unfold Lo endD
 cases lookI bs (i:Int)<;>rfl
theorem Ln (bs:Ms):∀ l:List Nat,imms (l.map (Lo bs))=true
 | []=>rfl
 | i::l=>by
   show (imm (Lo bs i)&&imms (l.map (Lo bs)))=true
   rw [As2,Ln bs l]
   rfl
def AnsE (me:Ms) (r:V):Prop:=(me=[]/\r=.non)\/∃ b,Top me b/\r=.int b
section
variable (K:W.Frag) (CG:Addr)
def Jv (_K:W.Frag):Sp:=fun vs H Q _=>∃ c:Int,vs=[.int c]/\∀ (p:Int) (H':Hp),Same H H'->Bs p->p<98->Q (.int p) H'
def So:Sp:=fun vs H Q _=>∃ (a:Addr) (us:List V),vs=[.ref a]/\SqL K H a us/\us.length<=40/\Q .non H
def N1:Sp:=fun vs H Q _=>∃ (c:Addr) (ns:List Int) (kind most:Int),vs=[.int kind,.ref c,.int most]/\SqL K H c (ns.map V.int)/\ns.length<=63/\0<=most/\most<=40 ∧
 ∀ (p:Addr) (us:List V) (xs:List (List Int)) (H':Hp),H p=none->Same H H'->H' p=some (.lst us)->Reps K H' us (xs.map tI)->Cg xs->(xs.length:Int)<=most->Q (.ref p) H'
def G8:Sp:=fun vs H Q _=>∃ (g pc sh ed en s e:Addr) (p:Int) (xs:List (List Int)) (es ss:List Ms) (bs ms me:Ms) (l:Nat) (pq:List Int),vs=[.ref g,.ref s,.ref e]/\C9 K CG H g pc sh ed en p xs es ss bs/\H s=some (.dK (cK ms))/\H e=some (.dK (cK me))/\s≠en/\e≠en/\OkM p ms/\OkM p me ∧
 (∀ x∈A2 ms,0<=x/\x<=(xs.length:Int))/\(∀ x∈A2 me,0<=x/\x<(xs.length:Int)/\(xs.getD x.toNat []).length-1+1=l)/\Dy p xs es ss/\Nk p xs pq ms me/\l=pq.length-1 ∧
 ∀ (t s' e':Addr) (ms' me':Ms) (H':Hp),Same H H'->H' t=some (.tup [.ref s',.ref e'])->H' s'=some (.dK (cK ms'))->H' e'=some (.dK (cK me'))->s'≠en->e'≠en->OkM p ms'->OkM p me'->(∀ x∈A2 ms',0<=x/\x<=(xs.length:Int)) →
   (∀ x∈A2 me',0<=x/\x<(xs.length:Int)/\(xs.getD x.toNat []).length-1+1=l)->(∀ b,Top me' b->lookI bs b=none)->Nk p xs pq ms' me'->Q (.ref t) H'
def N6:Sp:=fun vs H Q _=>∃ (g pc sh ed en:Addr) (v:V) (p:Int) (xs:List (List Int)) (q:List Int) (es ss:List Ms) (bs:Ms),vs=[.ref g,v]/\C9 K CG H g pc sh ed en p xs es ss bs/\TI K H v q/\Em xs (tI q)=true/\xs.length<40/\Dy p xs es ss ∧
 ∀ (r:V) (me ms bs':Ms) (H':Hp),FrG pc sh ed en H H'->C9 K CG H' g pc sh ed en p (xs++[q]) (es++[me]) (ss++[ms]) bs'->Dy p (xs++[q]) (es++[me]) (ss++[ms])->AnsE me r->Q r H'
def N5:Sp:=fun vs H Q _=>∃ (g pc sh ed en:Addr) (p:Int) (xs:List (List Int)) (es ss:List Ms) (bs:Ms),vs=[.ref g]/\C9 K CG H g pc sh ed en p xs es ss bs ∧
 ∀ (l:Addr) (us:List V) (H':Hp),H l=none->Same H H'->H' l=some (.lst us)->Reps K H' us (Aw9 es bs)->Q (.ref l) H'
end
end Hb
namespace Hb
open PySem L2
theorem A46 {xs:List (List Int)}{q:List Int} (h:Fits xs q):Em xs (tI q)=true:=by
 show Em xs (.tup (nums q))=true
 rw [Cq]
 have hl:(nums q).length=q.length:=by unfold nums;rw [List.length_map]
 have hin:∀ f∈q,0<=f/\f<(xs.length:Int)/\(xs.getD f.toNat []).length-1+1=q.length-1/\xs[f.toNat]?=some (xs.getD f.toNat []):=fun f hf=>by
  obtain⟨r,hr,hlv⟩:=h.bel f hf
  have h0:=h.low f hf
  have hlt:=(List.getElem?_eq_some_iff.mp hr).1
  have e:xs.getD f.toNat []=r:=by rw [List.getD_eq_getElem?_getD,hr];rfl
  rw [e]
  exact ⟨h0,by omega,hlv,hr⟩
 simp only [Bool.and_eq_true,Bool.or_eq_true,decide_eq_true_eq]
 refine⟨⟨?_,?_⟩,?_⟩
 . rw [hl]
   unfold cntB
   rcases h.cnt with z | z | z | z<;>rw [z]<;>rfl
 . rw [List.all_eq_true]
   intro d hd
   obtain⟨f,hf,rfl⟩:=List.mem_map.mp hd
   obtain⟨h0,h1,h2,_⟩:=hin f hf
   show (decide (0<=f)&&decide (f<(xs.length:Int))&&decide (levI (xs.getD f.toNat []).length=levI (nums q).length-1))=true
   rw [hl,Ca,Ca,decide_eq_true h0,decide_eq_true h1,decide_eq_true (by omega)]
   rfl
 . rw [hl,Ag8]
   by_cases hq:levI q.length<2
   . exact .inl hq
   right
   rw [Ca] at hq
   unfold Ek
   rw [List.all_eq_true]
   intro j hj
   rw [List.all_eq_true]
   intro i hi
   have hj':=List.mem_range.mp hj
   have hi':=List.mem_range.mp hi
   have ej:q[j]?=some (q.getD j 0):=by rw [List.getD_eq_getElem?_getD,List.getElem?_eq_getElem hj'];rfl
   have ei:q[i]?=some (q.getD i 0):=by rw [List.getD_eq_getElem?_getD,List.getElem?_eq_getElem (by omega)];rfl
   obtain⟨_,_,_,rj⟩:=hin _ (List.mem_of_getElem? ej)
   obtain⟨_,_,_,ri⟩:=hin _ (List.mem_of_getElem? ei)
   have:=h.agr (by omega) i j _ _ _ _ hi' ej ei rj ri
   unfold Kb
   rw [decide_eq_true_eq]
   have e1:∀ (l:List Int) (k:Nat),l.getD k 0=l[k]?.getD 0:=fun l k=>List.getD_eq_getElem?_getD
   rw [e1 (xs.getD (q.getD j 0).toNat []) i,e1 (xs.getD (q.getD i 0).toNat []) (j-1),this]
end Hb
namespace L2
open PySem PySem.Spec PyProof.Rows PySem.W
section
variable {P:Program}{w:World}{K:Frag}{mg:Str->Option Value}{base:Heap}{ds:List Value}
end
section
variable {X:Cx}{J:XJ}{j k:Nat}{C:Addr}{ps:List Str}{dvs:List V}{sp:Sp}{m x:Str}{p pos apos:Pos}{e o:Expr}{es:List Expr}{ta:TE}{t:TA}
end
end L2
namespace Hb
open PySem L2
theorem Zd {K:W.Frag}{H:Hp}{v:V}{bs:Ms}{j:Nat} (h:Rep K H v (Lo bs j)):∃ t,v=.ref t/\SqT K H t [.int (j:Int),endV bs (j:Int)]:=by
 obtain⟨au,vs,rfl,squ,rv⟩:=h
 obtain⟨v1,vs1,rfl,r1,rv⟩:=rv
 obtain⟨v2,vs2,rfl,r2,rv⟩:=rv
 obtain rfl:vs2=[]:=rv
 obtain rfl:v1=.int (j:Int):=r1
 refine⟨au,rfl,?_⟩
 have:v2=endV bs (j:Int):=by
  unfold endD at r2
  unfold endV
  cases hl:lookI bs (j:Int) with
  | none=>rw [hl] at r2;exact r2
  | some e=>rw [hl] at r2;exact r2
 rw [←this]
 exact squ
section
variable (K:W.Frag)
end
def aliveB (bs:Ms) (st:Int) (i:Nat):Bool:=decide ((i:Int)<st)&&(match lookI bs (i:Int) with
 | some e=>decide (st<=e)
 | none=>true)
def levB (xs:List (List Int)) (k:Int) (i:Nat):Bool:=decide (levI (xs.getD i []).length=k)
def K1 (xs:List (List Int)) (es:List Ms) (bs:Ms) (k st:Int):Nat:=((D3 es es.length).filter fun i=>levB xs k i&&aliveB bs st i).length
section
variable (K:W.Frag) (CG:Addr)
def N2:Sp:=fun vs H Q _=>∃ (t:Addr) (bs:Ms) (j:Nat) (st:Int),vs=[.ref t,.int st]/\SqT K H t [.int (j:Int),endV bs (j:Int)]/\Q (.bl (aliveB bs st j)) H
end
end Hb
namespace Hb
open PySem L2
section
variable {K:W.Frag}{CG:Addr}{H H':Hp}{Z:Addr->Prop}{g pc sh ed en:Addr}{p:Int}{xs:List (List Int)}{es ss:List Ms}{bs:Ms}
end
section
variable (K:W.Frag) (CG:Addr)
end
end Hb
namespace L2
open PySem PySem.Spec PyProof.Rows PySem.W
structure Bd3 (P:Program) (w:World) (K:Frag) (mg:Str->Option Value) (base:Heap) (C:Addr) (m:Str) (ps:List Str) (dvs:List V) (k:Nat) (sp:Sp):Prop where
 ex:∃ (f:Addr) (fd:FuncData) (ds:List Value),Meth K C m f/\Kd K fd ps ds/\Vals dvs ds/\FnOk P w K mg base CX0 k f fd ps sp
section
variable {X:Cx}{j k:Nat}{C:Addr}{ps:List Str}{dvs:List V}{sp:Sp}{m:Str}{pos apos:Pos}{e o:Expr}{es:List Expr}{ta:TE}{t:TA}
end
end L2
namespace Hb
open PySem L2
section
variable (K:W.Frag) (CG:Addr)
def Nx (_K:W.Frag):Sp:=fun vs H Q _=>∃ (i b:Int),vs=[.int i,.int b]/\0<=i/\i<b/\Q .non H
def G7:Sp:=fun vs H Q _=>∃ (g pc sh ed en:Addr) (vst:V) (kk st p:Int) (xs:List (List Int)) (es ss:List Ms) (bs:Ms),vs=[.ref g,.int kk,vst]/\C9 K CG H g pc sh ed en p xs es ss bs/\0<=kk/\kk<4/\((vst=.non/\st=(xs.length:Int))\/(vst=.int st/\0<=st/\st<=(xs.length:Int))) ∧
 ∀ H',Same H H'->Q (.int (K1 xs es bs kk st:Nat)) H'
end
end Hb
namespace Hb
open PySem L2
theorem Eu.run {n p:Int}:∀ (m:Nat) (a x b u:Int),0<=b->b.toNat<=m->Eu n p a x b u->0<=a->∃ a' x' u',Eu n p a' x' 0 u'/\0<=a':=by
 intro m
 induction m with
 | zero =>
   intro a x b u b0 bm e a0
   have:b=0:=by omega
   subst this
   exact ⟨a,x,u,e,a0⟩
 | succ m ih =>
   intro a x b u b0 bm e a0
   by_cases hb:b=0
   . subst hb;exact ⟨a,x,u,e,a0⟩
   . have h1:=Int.emod_nonneg a hb
     have h2:=Int.emod_lt_of_pos a (show 0<b by omega)
     have h3:=Int.mul_ediv_add_emod a b
     have e2:=e.step (a / b)
     have h4:a-a / b*b=a%b:=by rw [Int.mul_comm];omega
     rw [h4] at e2
     exact ih _ _ _ _ h1 (by omega) e2 b0
theorem Bs.inv {p n:Int} (hp:Bs p) (h:¬p∣n):∃ f:Int,p∣1-f*n:=by
 have p2:=hp.two
 have h0:=Int.emod_nonneg n (show p≠0 by omega)
 have e:=(Eu.start n p).step (n / p)
 have h3:=Int.mul_ediv_add_emod n p
 have h4:n-n / p*p=n%p:=by rw [Int.mul_comm];omega
 rw [h4] at e
 obtain⟨a,x,u,e',a0⟩:=Eu.run _ _ _ _ _ h0 (Nat.le_refl _) e (by omega)
 have ha:0<a:=by
  by_cases z:a=0
  . subst z
    have:=(e'.dv 0 (Int.dvd_refl 0) (Int.dvd_refl 0)).2
    have:=Int.zero_dvd.mp this
    omega
  . omega
 have:=e'.last hp h ha
 subst this
 exact ⟨x,e'.ha⟩
abbrev Vc:=Int->Int
inductive Sp' (p:Int) (V:Vc->Prop):Vc->Prop
 | base {v:Vc}:V v->Sp' p V v
 | zero:Sp' p V (fun _=>0)
 | add {u v:Vc}:Sp' p V u->Sp' p V v->Sp' p V (fun y=>u y+v y)
 | mul {u:Vc} (c:Int):Sp' p V u->Sp' p V (fun y=>c*u y)
 | mod {u v:Vc}:Sp' p V u->(∀ y,p∣u y-v y)->Sp' p V v
section
variable {p:Int}{V U:Vc->Prop}{v w:Vc}
theorem Sp'.sub (h:Sp' p V v) (hs:∀ u,V u->Sp' p U u):Sp' p U v:=by
 induction h with
 | base b=>exact hs _ b
 | zero=>exact .zero
 | add _ _ i j=>exact .add i j
 | mul c _ i=>exact .mul c i
 | mod _ m i=>exact .mod i m
theorem Sp'.vanish {t:Int} (h:Sp' p V v) (hs:∀ u,V u->p∣u t):p∣v t:=by
 induction h with
 | base b=>exact hs _ b
 | zero=>exact Int.dvd_zero p
 | add _ _ i j=>exact Int.dvd_add i j
 | mul c _ i=>exact Int.dvd_mul_of_dvd_right i
 | mod _ m i=>exact (Int.dvd_iff_dvd_of_dvd_sub (m t)).mp i
theorem Sp'.split {m:Vc} (h:Sp' p (fun u=>u=m\/V u) v):∃ (a:Int) (w:Vc),Sp' p V w/\∀ y,p∣a*m y+w y-v y:=by
 induction h with
 | base b =>
   rcases b with rfl | b
   . exact ⟨1,_,.zero,fun y=>by simp⟩
   . exact ⟨0,_,.base b,fun y=>by simp⟩
 | zero=>exact ⟨0,_,.zero,fun y=>by simp⟩
 | @add u1 v1 _ _ i j =>
   obtain⟨a,w,h1,h2⟩:=i
   obtain⟨b,x,h3,h4⟩:=j
   refine⟨a+b,_,.add h1 h3,fun y=>?_⟩
   have e:(a+b)*m y+(w y+x y)-(u1 y+v1 y)=(a*m y+w y-u1 y)+(b*m y+x y-v1 y):=by rw [Int.add_mul];omega
   rw [e]
   exact Int.dvd_add (h2 y) (h4 y)
 | @mul u1 c _ i =>
   obtain⟨a,w,h1,h2⟩:=i
   refine⟨c*a,_,.mul c h1,fun y=>?_⟩
   have e:c*a*m y+c*w y-c*u1 y=c*(a*m y+w y-u1 y):=by rw [Int.mul_sub,Int.mul_add,Int.mul_assoc]
   rw [e]
   exact Int.dvd_mul_of_dvd_right (h2 y)
 | @mod u1 v1 _ q i =>
   obtain⟨a,w,h1,h2⟩:=i
   refine⟨a,w,h1,fun y=>?_⟩
   have e:a*m y+w y-v1 y=(a*m y+w y-u1 y)+(u1 y-v1 y):=by omega
   rw [e]
   exact Int.dvd_add (h2 y) (q y)
end
def Free (p:Int):List Vc->Prop
 | []=>True
 | v::L=>¬Sp' p (·∈L) v/\Free p L
section
variable {p:Int}
theorem Vz (hp:Bs p) {m:Vc}{M:Vc->Prop}:∀ (L:List Vc),Free p L->(∀ v∈L,Sp' p (fun u=>u=m\/M u) v) →
 (∀ v∈L,Sp' p M v)\/∃ (L2:List Vc) (u w:Vc) (a:Int),L2.length+1=L.length/\Free p L2/\(∀ v∈L2,Sp' p M v)/\(∀ v∈L2,Sp' p (·∈L) v)/\Sp' p (·∈L) u/\¬p∣a/\Sp' p M w/\∀ y,p∣a*m y+w y-u y
 | [],_,_=>.inl fun v h=>by cases h
 | v::L,hf,hs=>by
   obtain⟨b,x,hx,hb⟩:=(hs v (List.mem_cons_self ..)).split
   have tl:∀ u,Sp' p (·∈L) u->Sp' p (·∈v::L) u:=fun u h=>h.sub fun z hz=>.base (List.mem_cons_of_mem _ hz)
   rcases Vz hp L hf.2 (fun u hu=>hs u (List.mem_cons_of_mem _ hu)) with h|⟨L2,u,w,a,h1,h2,h3,h4,h5,h6,h7,h8⟩
   . by_cases hd:p∣b
     . refine .inl fun u hu=>?_
       rcases List.mem_cons.mp hu with rfl | hu
       . refine .mod hx fun y=>?_
         have e:x y-u y=(b*m y+x y-u y)-b*m y:=by omega
         rw [e]
         exact Int.dvd_sub (hb y) (Int.dvd_mul_of_dvd_left hd)
       . exact h u hu
     . exact .inr ⟨L,v,x,b,rfl,hf.2,h,fun u hu=>tl u (.base hu),.base (List.mem_cons_self ..),hd,hx,hb⟩
   . obtain⟨f,hf1⟩:=hp.inv h6
     have hv':Sp' p M (fun y=>x y+(-(b*f))*w y):=.add hx (.mul _ h7)
     have near:∀ y,p∣(x y+(-(b*f))*w y)-(v y+(-(b*f))*u y):=fun y=>by
      have e:(x y+(-(b*f))*w y)-(v y+(-(b*f))*u y)=(b*m y+x y-v y)-(b*f)*(a*m y+w y-u y)-b*m y*(1-f*a):=by
       have q1:(b*f)*(a*m y+w y-u y)=b*f*(a*m y)+b*f*w y-b*f*u y:=by rw [Int.mul_sub,Int.mul_add]
       have q2:b*m y*(1-f*a)=b*m y-b*f*(a*m y):=by
        rw [Int.mul_sub,Int.mul_one]
        congr 1
        rw [Int.mul_assoc b (m y),Int.mul_assoc b f]
        congr 1
        rw [←Int.mul_assoc f,Int.mul_comm (f*a)]
       rw [q1,q2,Int.neg_mul,Int.neg_mul]
       omega
      rw [e]
      exact Int.dvd_sub (Int.dvd_sub (hb y) (Int.dvd_mul_of_dvd_right (h8 y))) (Int.dvd_mul_of_dvd_right hf1)
     have hin:Sp' p (·∈v::L) (fun y=>x y+(-(b*f))*w y):=by
      refine .mod (.add (.base (List.mem_cons_self ..)) (.mul (-(b*f)) (tl u h5))) fun y=>?_
      rw [←Int.neg_sub]
      exact Int.dvd_neg.mpr (near y)
     refine .inr ⟨(fun y=>x y+(-(b*f))*w y)::L2,u,w,a,by simp [h1],⟨fun z=>hf.1 ?_,h2⟩,fun z hz=>?_,fun z hz=>?_,tl u h5,h6,h7,h8⟩
     . have z1:Sp' p (·∈L) (fun y=>x y+(-(b*f))*w y):=z.sub h4
       refine .mod (.add z1 (.mul (b*f) h5)) fun y=>?_
       have:=near y
       have e:x y+(-(b*f))*w y+b*f*u y-v y=(x y+(-(b*f))*w y)-(v y+(-(b*f))*u y):=by rw [Int.neg_mul (b*f) (u y)];omega
       rw [e]
       exact this
     . rcases List.mem_cons.mp hz with rfl | hz
       . exact hv'
       . exact h3 z hz
     . rcases List.mem_cons.mp hz with rfl | hz
       . exact hin
       . exact tl z (h4 z hz)
theorem Tw (hp:Bs p):∀ (M L:List Vc),Free p L->(∀ v∈L,Sp' p (·∈M) v)->L.length<=M.length
 | [],[],_,_=>Nat.le_refl _
 | [],v::L,hf,hs=>by
   exact absurd ((hs v (List.mem_cons_self ..)).sub fun u hu=>by cases hu) hf.1
 | m::M,L,hf,hs=>by
   have hs':∀ v∈L,Sp' p (fun u=>u=m\/u∈M) v:=fun v hv=>(hs v hv).sub fun u hu=>.base (List.mem_cons.mp hu)
   rcases Vz hp L hf hs' with h|⟨L2,u,w,a,h1,h2,h3,_⟩
   . exact Nat.le_trans (Tw hp M L hf h) (by simp)
   . have:=Tw hp M L2 h2 h3
     simp
     omega
theorem A45 (hp:Bs p) {M L:List Vc} (h1:Free p L) (h2:Free p M) (h3:∀ v∈L,Sp' p (·∈M) v) (h4:∀ v∈M,Sp' p (·∈L) v):L.length=M.length :=
 Nat.le_antisymm (Tw hp M L h1 h3) (Tw hp L M h2 h4)
end
def rv (r:List Int):Vc:=fun y=>if 0<=y then r.getD y.toNat 0 else 0
def M4 (p:Int) (r:List Int):List Nat:=(List.range r.length).filter fun i=>decide (r.getD i 0%p≠0)
def clrR (p:Int) (r:List Int) (a:Nat) (o:List Int):List Int:=List.zipWith (fun x y=>(x*r.getD a 0-y*o.getD a 0)%p) o r
def Ev (p:Int):Nat->List (List Int)->Nat
 | 0,_=>0
 | _+1,[]=>0
 | f+1,r::l=>match M4 p r with
   | []=>Ev p f l
   | a::_=>Ev p f (l.map (clrR p r a))+1
theorem Uk {g:Int->Int->Int}:∀{a b:List Int}{i:Nat},i<a.length->i<b.length->(List.zipWith g a b).getD i 0=g (a.getD i 0) (b.getD i 0)
 | [],_,_,h,_=>by simp at h
 | _::_,[],_,_,h=>by simp at h
 | x::a,y::b,0,_,_=>rfl
 | x::a,y::b,i+1,h1,h2=>by
   have:=Uk (g:=g) (a:=a) (b:=b) (i:=i) (by simpa using h1) (by simpa using h2)
   simpa using this
theorem Am9 {p:Int}{r o:List Int}{n a:Nat} (hr:r.length=n) (ho:o.length=n) (y:Int):p∣rv (clrR p r a o) y-(r.getD a 0*rv o y+(-(o.getD a 0))*rv r y):=by
 unfold rv
 by_cases h:0<=y
 . rw [if_pos h,if_pos h,if_pos h]
   by_cases hy:y.toNat<n
   . unfold clrR
     rw [Uk (by omega) (by omega)]
     have:=Int.mul_ediv_add_emod (o.getD y.toNat 0*r.getD a 0-r.getD y.toNat 0*o.getD a 0) p
     have e:r.getD a 0*o.getD y.toNat 0+-o.getD a 0*r.getD y.toNat 0=o.getD y.toNat 0*r.getD a 0-r.getD y.toNat 0*o.getD a 0:=by rw [Int.neg_mul,Int.mul_comm (r.getD a 0),Int.mul_comm (o.getD a 0)];omega
     rw [e]
     exact ⟨-((o.getD y.toNat 0*r.getD a 0-r.getD y.toNat 0*o.getD a 0) / p),by rw [Int.mul_neg];omega⟩
   . have z:∀ l:List Int,l.length<=n->l.getD y.toNat 0=0:=fun l hl=>by rw [List.getD_eq_getElem?_getD,List.getElem?_eq_none (by omega)];rfl
     rw [z _ (by unfold clrR;simp;omega),z o (by omega),z r (by omega)]
     simp
 . rw [if_neg h,if_neg h,if_neg h]
   simp
theorem Aa3 {p:Int}{r:List Int} (h:M4 p r=[]) (y:Int):p∣rv r y:=by
 unfold rv
 by_cases h0:0<=y
 . rw [if_pos h0]
   by_cases hy:y.toNat<r.length
   . have:=List.filter_eq_nil_iff.mp h y.toNat (List.mem_range.mpr hy)
     have:r.getD y.toNat 0%p=0:=by simpa using this
     exact Int.dvd_of_emod_eq_zero this
   . rw [List.getD_eq_getElem?_getD,List.getElem?_eq_none (by omega)]
     exact Int.dvd_zero p
 . rw [if_neg h0]
   exact Int.dvd_zero p
theorem Ri {p:Int}{r:List Int}{a:Nat}{t:List Nat} (h:M4 p r=a::t):a<r.length/\¬p∣r.getD a 0:=by
 have hm:a∈M4 p r:=by rw [h];exact List.mem_cons_self ..
 obtain⟨h1,h2⟩:=List.mem_filter.mp hm
 have h2:¬r.getD a 0%p=0:=by simpa using h2
 exact ⟨List.mem_range.mp h1,fun z=>h2 (Int.emod_eq_zero_of_dvd z)⟩
theorem A01 {r:List Int}{a:Nat}:rv r (a:Int)=r.getD a 0:=by
 unfold rv
 rw [if_pos (by omega)]
 rfl
theorem Od {p:Int} (hp:Bs p) {n:Nat}:∀ (f:Nat) (l:List (List Int)),l.length<=f->(∀ r∈l,r.length=n) →
 ∃ R:List Vc,R.length=Ev p f l/\Free p R/\(∀ v∈R,Sp' p (fun u=>∃ r∈l,u=rv r) v)/\∀ r∈l,Sp' p (·∈R) (rv r)
 | 0,[],_,_=>⟨[],rfl,trivial,fun v h=>(by cases h),fun r h=>(by cases h)⟩
 | 0,_::_,h,_=>by simp at h
 | f+1,[],_,_=>⟨[],rfl,trivial,fun v h=>(by cases h),fun r h=>(by cases h)⟩
 | f+1,r::l,hl,hn=>by
   have hrn:=hn r (List.mem_cons_self ..)
   have hln:∀ o∈l,o.length=n:=fun o ho=>hn o (List.mem_cons_of_mem _ ho)
   unfold Ev
   cases e:M4 p r with
   | nil =>
     obtain⟨R,h1,h2,h3,h4⟩:=Od hp f l (by simpa using hl) hln
     refine⟨R,h1,h2,fun v hv=>(h3 v hv).sub fun u ⟨o,ho,q⟩=>.base ⟨o,List.mem_cons_of_mem _ ho,q⟩,fun o ho=>?_⟩
     rcases List.mem_cons.mp ho with rfl | ho
     . exact .mod .zero fun y=>by rw [Int.zero_sub];exact Int.dvd_neg.mpr (Aa3 e y)
     . exact h4 o ho
   | cons a t =>
     obtain⟨ha,hd⟩:=Ri e
     have hln':∀ o∈l.map (clrR p r a),o.length=n:=fun o ho=>by
      obtain⟨q,hq,rfl⟩:=List.mem_map.mp ho
      unfold clrR
      rw [List.length_zipWith,hln q hq,hrn,Nat.min_self]
     obtain⟨R,h1,h2,h3,h4⟩:=Od hp f (l.map (clrR p r a)) (by simpa using hl) hln'
     obtain⟨g,hg⟩:=hp.inv hd
     have cl:∀ o∈l,Sp' p (fun u=>∃ r'∈r::l,u=rv r') (rv (clrR p r a o)):=fun o ho=>by
      refine .mod (.add (.mul (r.getD a 0) (.base ⟨o,List.mem_cons_of_mem _ ho,rfl⟩)) (.mul (-(o.getD a 0)) (.base ⟨r,List.mem_cons_self ..,rfl⟩))) fun y=>?_
      rw [←Int.neg_sub]
      exact Int.dvd_neg.mpr (Am9 hrn (hln o ho) y)
     have zero:∀ v,Sp' p (fun u=>∃ o∈l.map (clrR p r a),u=rv o) v->p∣v (a:Int):=fun v hv=>hv.vanish fun u ⟨o,ho,q⟩=>by
      obtain⟨o',ho',rfl⟩:=List.mem_map.mp ho
      have:=Am9 (p:=p) (a:=a) hrn (hln o' ho') (a:Int)
      rw [A01 (r:=o'),A01 (r:=r),Int.neg_mul,Int.mul_comm (r.getD a 0),Int.add_right_neg,Int.sub_zero] at this
      rw [q]
      exact this
     refine⟨rv r::R,by simp [h1],⟨fun z=>hd ?_,h2⟩,fun v hv=>?_,fun o ho=>?_⟩
     . have:=zero _ (z.sub h3)
       rwa [A01] at this
     . rcases List.mem_cons.mp hv with rfl | hv
       . exact .base ⟨r,List.mem_cons_self ..,rfl⟩
       . exact (h3 v hv).sub fun u ⟨o,ho,q⟩=>by
          obtain⟨o',ho',rfl⟩:=List.mem_map.mp ho
          rw [q]
          exact cl o' ho'
     . rcases List.mem_cons.mp ho with rfl | ho
       . exact .base (List.mem_cons_self ..)
       . have h5:Sp' p (·∈rv r::R) (rv (clrR p r a o)):=(h4 _ (List.mem_map_of_mem ho)).sub fun u hu=>.base (List.mem_cons_of_mem _ hu)
         refine .mod (.mul g (.add h5 (.mul (o.getD a 0) (.base (List.mem_cons_self ..))))) fun y=>?_
         have h6:=Am9 (p:=p) (a:=a) hrn (hln o ho) y
         have e1:g*(rv (clrR p r a o) y+o.getD a 0*rv r y)-rv o y=g*(rv (clrR p r a o) y-(r.getD a 0*rv o y+(-(o.getD a 0))*rv r y))-(1-g*r.getD a 0)*rv o y:=by
          rw [Int.sub_mul,Int.one_mul,Int.mul_assoc,Int.neg_mul,Int.mul_sub,Int.mul_add,Int.mul_add]
          generalize g*rv (clrR p r a o) y=A
          generalize g*(r.getD a 0*rv o y)=B
          rw [Int.mul_neg]
          omega
         rw [e1]
         exact Int.dvd_sub (Int.dvd_mul_of_dvd_right h6) (Int.dvd_mul_of_dvd_left hg)
end Hb
namespace Hb
open PySem L2
def cntP (f:Nat->Bool):Nat->Nat
 | 0=>0
 | n+1=>cntP f n+(if f n=true then 1 else 0)
theorem Rr (f:Nat->Bool):∀ n,((List.range n).filter f).length=cntP f n
 | 0=>rfl
 | n+1=>by
   have e:cntP f (n+1)=cntP f n+(if f n=true then 1 else 0):=rfl
   rw [List.range_succ,List.filter_append,List.length_append,Rr f n,e]
   cases h:f n
   . rw [List.filter_cons_of_neg (by simp [h])];rfl
   . rw [List.filter_cons_of_pos (by simp [h])];rfl
theorem Fj {f g:Nat->Bool}:∀{n:Nat},(∀ i,i<n->f i=g i)->cntP f n=cntP g n
 | 0,_=>rfl
 | n+1,h=>by unfold cntP;rw [Fj fun i hi=>h i (by omega),h n (by omega)]
theorem Am8 {f g:Nat->Bool}{b:Nat}:∀{n:Nat},b<n->(∀ i,i≠b->f i=g i)->f b=false->g b=true->cntP g n=cntP f n+1
 | n+1,hb,h,h1,h2=>by
   unfold cntP
   by_cases e:b=n
   . subst e
     rw [h1,h2,Fj (f:=g) (g:=f) fun i hi=>(h i (by omega)).symm]
     rfl
   . rw [Am8 (by omega) h h1 h2,h n (fun z=>e z.symm)]
     omega
theorem Pl (f g:Nat->Bool):∀ n,cntP f n=cntP (fun i=>f i&&g i) n+cntP (fun i=>f i&&!g i) n
 | 0=>rfl
 | n+1=>by
   unfold cntP
   rw [Pl f g n]
   cases f n<;>cases g n<;>simp<;>omega
def endB (xs:List (List Int)) (bs:Ms) (st k:Nat) (b:Nat):Bool:=match lookI bs (b:Int) with
 | some e=>decide (e<(st:Int))&&decide ((xs.getD e.toNat []).length-1=k)
 | none=>false
def eV (es:List Ms) (bs:Ms) (b:Nat):Vc:=fun y=>getI (es.getD ((lookI bs (b:Int)).getD 0).toNat []) y
def endL (xs:List (List Int)) (es:List Ms) (bs:Ms) (st k:Nat):Nat->List Vc
 | 0=>[]
 | b+1=>if endB xs bs st k b=true then eV es bs b::endL xs es bs st k b else endL xs es bs st k b
section
variable {p:Int}{xs:List (List Int)}{es ss:List Ms}{bs:Ms}{st k:Nat}
theorem T6:∀ n,(endL xs es bs st k n).length=cntP (endB xs bs st k) n
 | 0=>rfl
 | n+1=>by
   unfold endL cntP
   by_cases h:endB xs bs st k n=true
   . rw [if_pos h,if_pos h,List.length_cons,T6 n]
   . rw [if_neg h,if_neg h,T6 n];rfl
theorem Iz {v:Vc}:∀{n:Nat},v∈endL xs es bs st k n↔∃ b,b<n/\endB xs bs st k b=true/\v=eV es bs b
 | 0=>⟨fun h=>(by cases h),fun ⟨b,h,_⟩=>by omega⟩
 | n+1=>by
   unfold endL
   constructor
   . intro h
     by_cases e:endB xs bs st k n=true
     . rw [if_pos e] at h
       rcases List.mem_cons.mp h with h | h
       . exact ⟨n,by omega,e,h⟩
       . obtain⟨b,h1,h2⟩:=Iz.mp h
         exact ⟨b,by omega,h2⟩
     . rw [if_neg e] at h
       obtain⟨b,h1,h2⟩:=Iz.mp h
       exact ⟨b,by omega,h2⟩
   . rintro ⟨b,h1,h2,h3⟩
     by_cases z:b=n
     . subst z
       rw [if_pos h2,h3]
       exact List.mem_cons_self ..
     . have:=Iz (n:=n).mpr ⟨b,by omega,h2,h3⟩
       by_cases e:endB xs bs st k n=true
       . rw [if_pos e];exact List.mem_cons_of_mem _ this
       . rw [if_neg e];exact this
theorem T7 (g:Ez p xs es ss bs) {b:Nat} (h:endB xs bs st k b=true):∃ (i:Nat) (m:Ms),lookI bs (b:Int)=some (i:Int)/\es[i]?=some m/\Top m (b:Int)/\i<st/\(xs.getD i []).length-1=k/\eV es bs b=fun y=>getI m y:=by
 unfold endB at h
 cases e:lookI bs (b:Int) with
 | none=>rw [e] at h;cases h
 | some z =>
   rw [e] at h
   obtain⟨i,m,rfl,h1,h2⟩:=(g.bls (b:Int) z).mp e
   obtain⟨h3,h4⟩:=(Bool.and_eq_true ..).mp h
   refine⟨i,m,rfl,h1,h2,by have:=of_decide_eq_true h3;omega,of_decide_eq_true h4,?_⟩
   unfold eV
   rw [e]
   show (fun y=>getI (es.getD i []) y)=_
   rw [Aj2 h1]
theorem A24 (g:Ez p xs es ss bs) {i:Nat}{m:Ms}{b:Int} (h1:es[i]?=some m) (h2:Top m b) (hi:i<st) (hk:(xs.getD i []).length-1=k):0<=b/\b.toNat<i/\endB xs bs st k b.toNat=true/\eV es bs b.toNat=fun y=>getI m y:=by
 obtain⟨b0,b1,_⟩:=(g.eok i m h1).2 b h2.mem
 have e:lookI bs ((b.toNat:Nat):Int)=some (i:Int):=(g.bls _ _).mpr ⟨i,m,rfl,h1,by rw [show ((b.toNat:Nat):Int)=b by omega];exact h2⟩
 refine⟨b0,by omega,?_,?_⟩
 . unfold endB
   rw [e]
   show (decide ((i:Int)<(st:Int))&&decide ((xs.getD i []).length-1=k))=true
   rw [decide_eq_true (by omega),decide_eq_true hk]
   rfl
 . unfold eV
   rw [e]
   show (fun y=>getI (es.getD i []) y)=_
   rw [Aj2 h1]
theorem O9 (g:Ez p xs es ss bs):∀ n,Free p (endL xs es bs st k n)
 | 0=>trivial
 | n+1=>by
   unfold endL
   by_cases h:endB xs bs st k n=true
   . rw [if_pos h]
     refine⟨fun z=>?_,O9 g n⟩
     obtain⟨i,m,_,h1,h2,_,_,he⟩:=T7 g h
     have hv:p∣eV es bs n (n:Int):=z.vanish fun u hu=>by
      obtain⟨b,hb,h3,rfl⟩:=Iz.mp hu
      obtain⟨i',m',_,_,t',_,_,he'⟩:=T7 g h3
      rw [he']
      show p∣getI m' (n:Int)
      rw [Cb fun hk=>by have:=t'.le _ hk;omega]
      exact Int.dvd_zero p
     rw [he] at hv
     have hv:p∣getI m (n:Int):=hv
     obtain⟨lk,v0,v1⟩:=h2.look (g.eok i m h1).1
     have:=Int.le_of_dvd v0 hv
     omega
   . rw [if_neg h];exact O9 g n
theorem Sp'.sum {V:Vc->Prop}{c:Nat->Int}{u:Nat->Vc}:∀{n:Nat},(∀ j,j<n->p∣c j\/Sp' p V (u j))->Sp' p V (fun y=>sumN (fun j=>c j*u j y) n)
 | 0,_=>.zero
 | n+1,h=>by
   have h1:=Sp'.sum (n:=n) fun j hj=>h j (by omega)
   rcases h n (by omega) with hd | hs
   . refine .mod h1 fun y=>?_
     show p∣sumN (fun j=>c j*u j y) n-(sumN (fun j=>c j*u j y) n+c n*u n y)
     rw [show ∀ a b:Int,a-(a+b)=-b by intro a b;omega]
     exact Int.dvd_neg.mpr (Int.dvd_mul_of_dvd_left hd)
   . exact .add h1 (.mul (c n) hs)
structure Rows (xs:List (List Int)) (st k:Nat) (l:List (List Int)):Prop where
 len:∀ r∈l,r.length=st
 of:∀ r∈l,∃ i,i<st/\(xs.getD i []).length-1=k/\∀ y,rv r y=oft (xs.getD i []) y
 has:∀ i,i<st->(xs.getD i []).length-1=k->(∃ r∈l,∀ y,rv r y=oft (xs.getD i []) y)\/∀ y,oft (xs.getD i []) y=0
theorem U0 (hp:Bs p) (g:Ez p xs es ss bs) (s:Dy p xs es ss) (hst:st<=xs.length) {l:List (List Int)} (hr:Rows xs st k l) {f:Nat} (hf:l.length<=f):Ev p f l=cntP (endB xs bs st k) st:=by
 obtain⟨R,h1,h2,h3,h4⟩:=Od hp f l hf hr.len
 have hS:∀ j,j<xs.length->ss[j]?=some (ss.getD j []):=fun j hj=>Py (by rw [g.ls];exact hj)
 have hE:∀ j,j<xs.length->es[j]?=some (es.getD j []):=fun j hj=>Py (by rw [g.le];exact hj)
 have bR:∀ i,i<st->(xs.getD i []).length-1=k->Sp' p (fun u=>∃ r∈l,u=rv r) (fun y=>oft (xs.getD i []) y):=fun i hi hk=>by
  rcases hr.has i hi hk with ⟨r,hr1,hr2⟩ | h0
  . exact .mod (.base ⟨r,hr1,rfl⟩) fun y=>by rw [hr2 y,Int.sub_self];exact Int.dvd_zero p
  . exact .mod .zero fun y=>by rw [h0 y];simp
 have key:∀ i,i<xs.length->∀ j,j<xs.length->getI (ss.getD i []) (j:Int)=0\/(j<=i/\(xs.getD j []).length-1=(xs.getD i []).length-1):=fun i hi j hj=>by
  by_cases hk:(j:Int)∈A2 (ss.getD i [])
  . have q1:=(g.sok i _ (hS i hi)).2 _ hk
    have q2:=s.lev i _ (hS i hi) _ hk
    exact .inr ⟨by omega,q2⟩
  . exact .inl (Cb hk)
 have eB:∀ v∈endL xs es bs st k st,Sp' p (·∈R) v:=fun v hv=>by
  obtain⟨b,hb,h5,rfl⟩:=Iz.mp hv
  obtain⟨i,m,_,hm,_,hi,hk,he⟩:=T7 g h5
  rw [he]
  have hil:i<xs.length:=by omega
  have q:Sp' p (fun u=>∃ r∈l,u=rv r) (fun y=>sumN (fun j=>getI (ss.getD i []) (j:Int)*oft (xs.getD j []) y) xs.length):=Sp'.sum (u:=fun j y=>oft (xs.getD j []) y) fun j hj=>by
   rcases key i hil j hj with z|⟨z1,z2⟩
   . exact .inl (by rw [z];exact Int.dvd_zero p)
   . exact .inr (bR j (by omega) (by omega))
  exact (Sp'.mod q (s.bd i _ m (hS i hil) hm)).sub fun u ⟨r,hr1,hr2⟩=>by rw [hr2];exact h4 r hr1
 have bE:∀ n i,i<n->i<st->(xs.getD i []).length-1=k->Sp' p (·∈endL xs es bs st k st) (fun y=>oft (xs.getD i []) y):=fun n=>by
  induction n with
  | zero=>intro i h;omega
  | succ n ih =>
    intro i hin hi hk
    have hil:i<xs.length:=by omega
    have eE:Sp' p (·∈endL xs es bs st k st) (fun y=>getI (es.getD i []) y):=by
     by_cases he:es.getD i []=[]
     . refine .mod .zero fun y=>?_
       rw [he,Yj]
       exact Int.dvd_zero p
     . obtain⟨b,tb⟩:=Zb he
       obtain⟨b0,b1,eb,ev⟩:=A24 g (hE i hil) tb hi hk
       exact .base (Iz.mpr ⟨b.toNat,by omega,eb,ev.symm⟩)
    have q:Sp' p (·∈endL xs es bs st k st) (fun y=>sumN (fun j=>(if j=i then 0 else getI (ss.getD i []) (j:Int))*oft (xs.getD j []) y) xs.length):=Sp'.sum (u:=fun j y=>oft (xs.getD j []) y) fun j hj=>by
     by_cases z:j=i
     . exact .inl (by rw [if_pos z];exact Int.dvd_zero p)
     . rw [if_neg z]
       rcases key i hil j hj with z0|⟨z1,z2⟩
       . exact .inl (by rw [z0];exact Int.dvd_zero p)
       . exact .inr (ih j (by omega) (by omega) (by omega))
    refine .mod (.add eE (.mul (-1) q)) fun y=>?_
    have hb:=s.bd i _ _ (hS i hil) (hE i hil) y
    have e:sumN (fun j=>getI (ss.getD i []) (j:Int)*oft (xs.getD j []) y) xs.length=sumN (fun j=>(if j=i then 0 else getI (ss.getD i []) (j:Int))*oft (xs.getD j []) y) xs.length+oft (xs.getD i []) y:=by
     have e1:sumN (fun j=>getI (ss.getD i []) (j:Int)*oft (xs.getD j []) y) xs.length=sumN (fun j=>(if j=i then 0 else getI (ss.getD i []) (j:Int))*oft (xs.getD j []) y+(if j=i then 1 else 0)*oft (xs.getD j []) y) xs.length:=A0 fun j _=>by
      by_cases z:j=i
      . subst z
        rw [if_pos rfl,if_pos rfl,s.own j _ (hS j hil)]
        omega
      . rw [if_neg z,if_neg z];omega
     rw [e1,Kg,Ii,if_pos hil]
    rw [e] at hb
    rw [←Int.neg_sub]
    refine Int.dvd_neg.mpr ?_
    have e2:oft (xs.getD i []) y-(getI (es.getD i []) y+-1*sumN (fun j=>(if j=i then 0 else getI (ss.getD i []) (j:Int))*oft (xs.getD j []) y) xs.length)=sumN (fun j=>(if j=i then 0 else getI (ss.getD i []) (j:Int))*oft (xs.getD j []) y) xs.length+oft (xs.getD i []) y-getI (es.getD i []) y:=by omega
    rw [e2]
    exact hb
 have:=A45 hp h2 (O9 (st:=st) (k:=k) g st) (fun v hv=>(h3 v hv).sub fun u ⟨r,hr1,hr2⟩=>by
  obtain⟨i,hi,hk,hy⟩:=hr.of r hr1
  rw [hr2]
  exact .mod (bE (i+1) i (by omega) hi hk) fun y=>by rw [hy y,Int.sub_self];exact Int.dvd_zero p) eB
 rw [←h1,this,T6]
theorem Zq {f:Nat->Bool}:∀{n:Nat},(∀ i,i<n->f i=false)->cntP f n=0
 | 0,_=>rfl
 | n+1,h=>by unfold cntP;rw [Zq fun i hi=>h i (by omega),h n (by omega)];rfl
theorem Y1 {f:Nat->Bool}{m:Nat}:∀{n:Nat},m<=n->(∀ i,m<=i->f i=false)->cntP f n=cntP f m
 | 0,h,_=>by
   have:m=0:=by omega
   rw [this]
 | n+1,h,hf=>by
   by_cases e:m=n+1
   . rw [e]
   . have e2:cntP f (n+1)=cntP f n+(if f n=true then 1 else 0):=rfl
     rw [e2,Y1 (n:=n) (by omega) hf,hf n (by omega)]
     rfl
theorem Tn (n:Nat):levI n=((n-1:Nat):Int):=by
 unfold levI
 by_cases h:(0:Int) > (n:Int)-1
 . rw [if_pos h];omega
 . rw [if_neg h];omega
def lvB (xs:List (List Int)) (k i:Nat):Bool:=decide ((xs.getD i []).length-1=k)
def Ic (es:List Ms) (i:Nat):Bool:=(es.getD i []).isEmpty
theorem Ak4 (g:Ez p xs es ss bs) {b:Nat} (h:endB xs bs st k b=true):b<st:=by
 obtain⟨i,m,_,h1,h2,h3,_⟩:=T7 g h
 have:=(g.eok i m h1).2 _ h2.mem
 omega
theorem Ak3 (g:Ez p xs es ss bs):∀ t,t<=xs.length->cntP (fun i=>lvB xs k i&&!Ic es i) t=cntP (endB xs bs t k) xs.length
 | 0,_=>by
   refine (Zq fun b _=>?_).symm
   cases h:endB xs bs 0 k b
   . rfl
   . have:=Ak4 g h;omega
 | t+1,ht=>by
   have e:cntP (fun i=>lvB xs k i&&!Ic es i) (t+1)=cntP (fun i=>lvB xs k i&&!Ic es i) t+(if (lvB xs k t&&!Ic es t)=true then 1 else 0):=rfl
   rw [e,Ak3 g t (by omega)]
   have hm:es[t]?=some (es.getD t []):=Py (by rw [g.le];omega)
   have same:∀ b:Nat,lookI bs (b:Int)≠some (t:Int)->endB xs bs t k b=endB xs bs (t+1) k b:=fun b hb=>by
    unfold endB
    cases q:lookI bs (b:Int) with
    | none=>rfl
    | some z =>
      have:z≠(t:Int):=fun w=>hb (by rw [q,w])
      show (decide (z<(t:Int))&&_)=(decide (z<((t+1:Nat):Int))&&_)
      congr 1
      by_cases c:z<(t:Int)
      . rw [decide_eq_true c,decide_eq_true (by omega)]
      . rw [decide_eq_false c,decide_eq_false (by omega)]
   by_cases he:es.getD t []=[]
   . have hb:Ic es t=true:=by unfold Ic;rw [he];rfl
     rw [hb,Bool.not_true,Bool.and_false,if_neg (by decide),Nat.add_zero]
     refine Fj fun b _=>same b fun q=>?_
     obtain⟨i,m,h1,h2,h3⟩:=(g.bls _ _).mp q
     have:i=t:=by omega
     subst this
     rw [hm,he] at h2
     cases h2
     exact h3.no
   . have hb:Ic es t=false:=by
      unfold Ic
      cases q:es.getD t [] with
      | nil=>exact absurd q he
      | cons _ _=>rfl
     obtain⟨b,tb⟩:=Zb he
     have q0:=(g.eok t _ hm).2 b tb.mem
     have hlk:lookI bs ((b.toNat:Nat):Int)=some (t:Int):=(g.bls _ _).mpr ⟨t,_,rfl,hm,by rw [show ((b.toNat:Nat):Int)=b by omega];exact tb⟩
     have oth:∀ i:Nat,i≠b.toNat->lookI bs (i:Int)≠some (t:Int):=fun i hi q=>by
      obtain⟨i',m,h1,h2,h3⟩:=(g.bls _ _).mp q
      have:i'=t:=by omega
      subst this
      rw [hm] at h2
      cases h2
      have:=h3.one tb
      omega
     have z0:endB xs bs t k b.toNat=false:=by
      unfold endB
      rw [hlk]
      show (decide ((t:Int)<(t:Int))&&_)=false
      rw [decide_eq_false (by omega)]
      rfl
     have z1:endB xs bs (t+1) k b.toNat=lvB xs k t:=by
      unfold endB
      rw [hlk]
      show (decide ((t:Int)<((t+1:Nat):Int))&&decide ((xs.getD t []).length-1=k))=_
      rw [decide_eq_true (by omega)]
      rfl
     rw [hb,Bool.not_false,Bool.and_true]
     cases hl:lvB xs k t
     . rw [if_neg (by decide),Nat.add_zero]
       refine Fj fun i _=>?_
       by_cases c:i=b.toNat
       . rw [c,z0,z1,hl]
       . exact same i (oth i c)
     . rw [if_pos rfl]
       exact (Am8 (b:=b.toNat) (by omega) (fun i hi=>same i (oth i hi)) z0 (by rw [z1,hl])).symm
theorem Y8 (hp:Bs p) (g:Ez p xs es ss bs) (s:Dy p xs es ss) (hst:st<=xs.length):K1 xs es bs (k:Int) (st:Int)+cntP (endB xs bs st k) st+cntP (endB xs bs st (k+1)) st=cntP (lvB xs k) st:=by
 have h1:K1 xs es bs (k:Int) (st:Int)=cntP (fun i=>(lvB xs k i&&Ic es i)&&aliveB bs (st:Int) i) st:=by
  unfold K1 D3
  rw [List.filter_filter,Rr,g.le]
  have e1:cntP (fun i=>(levB xs (k:Int) i&&aliveB bs (st:Int) i)&&(es.getD i []).isEmpty) xs.length=cntP (fun i=>(lvB xs k i&&Ic es i)&&aliveB bs (st:Int) i) xs.length:=Fj fun i _=>by
   have:levB xs (k:Int) i=lvB xs k i:=by
    unfold levB lvB
    rw [Tn]
    by_cases c:(xs.getD i []).length-1=k
    . rw [decide_eq_true c,decide_eq_true (by omega)]
    . rw [decide_eq_false c,decide_eq_false (by omega)]
   rw [this]
   unfold Ic
   cases lvB xs k i<;>cases aliveB bs (st:Int) i<;>cases (es.getD i []).isEmpty<;>rfl
  rw [e1]
  refine Y1 hst fun i hi=>?_
  have:aliveB bs (st:Int) i=false:=by
   unfold aliveB
   rw [decide_eq_false (by omega)]
   rfl
  rw [this,Bool.and_false]
 have h2:cntP (endB xs bs st (k+1)) st=cntP (fun i=>(lvB xs k i&&Ic es i)&&!aliveB bs (st:Int) i) st:=Fj fun b hb=>by
  have hal:∀ z:Int,lookI bs (b:Int)=some z->aliveB bs (st:Int) b=decide ((st:Int)<=z):=fun z q=>by
   unfold aliveB
   rw [q,decide_eq_true (by omega)]
   rfl
  cases q:lookI bs (b:Int) with
  | none =>
    have a1:aliveB bs (st:Int) b=true:=by
     unfold aliveB
     rw [q,decide_eq_true (by omega)]
     rfl
    have a2:endB xs bs st (k+1) b=false:=by unfold endB;rw [q]
    rw [a1,a2,Bool.not_true,Bool.and_false]
  | some z =>
    obtain⟨i,m,rfl,hm,tb⟩:=(g.bls _ _).mp q
    have hbirth:=Bd1 g s hp hm tb
    have hbn:Ic es b=true:=by
     unfold Ic
     rw [Aj2 (i:=b) (m:=[]) (by simpa using hbirth)]
     rfl
    have hlv:=(g.eok i m hm).2 _ tb.mem
    have e:endB xs bs st (k+1) b=(decide ((i:Int)<(st:Int))&&decide ((xs.getD i []).length-1=k+1)):=by unfold endB;rw [q];rfl
    rw [e,hal _ q,hbn,Bool.and_true]
    have e3:lvB xs k b=decide ((xs.getD i []).length-1=k+1):=by
     unfold lvB
     have h5:(xs.getD b []).length-1+1=(xs.getD i []).length-1:=by simpa using hlv.2.2
     by_cases c:(xs.getD b []).length-1=k
     . rw [decide_eq_true c,decide_eq_true (by omega)]
     . rw [decide_eq_false c,decide_eq_false (by omega)]
    rw [e3,Bool.and_comm]
    congr 1
    by_cases c:(i:Int)<(st:Int)
    . rw [decide_eq_true c,decide_eq_false (by omega)];rfl
    . rw [decide_eq_false c,decide_eq_true (by omega)];rfl
 have h3:cntP (endB xs bs st k) st=cntP (fun i=>lvB xs k i&&!Ic es i) st:=by
  rw [Ak3 g st hst]
  exact (Y1 hst fun i hi=>by
   cases h:endB xs bs st k i
   . rfl
   . have:=Ak4 g h;omega).symm
 rw [h1,h2,h3,Pl (lvB xs k) (Ic es) st,Pl (fun i=>lvB xs k i&&Ic es i) (aliveB bs (st:Int)) st]
 omega
end
end Hb
namespace L2
open PySem PySem.Spec PyProof.Rows
section
variable {X:Cx}{K:W.Frag}
def A79 (K:W.Frag):V->V->Hp->VK->Prop:=fun x y H Q=>∃ p xs i v,x=.ref p/\y=.int i/\SqL K H p xs/\0<=i/\atI xs i=some v/\Q v H
theorem Aj0:PGet X (A79 X.K):=by
 intro Aa s σ H x y v u Q I rx ry h
 obtain⟨p,xs,i,z,rfl,rfl,hq,h0,he,q⟩:=h
 cases rx
 obtain⟨t,rfl⟩:=ry
 obtain⟨its,r,pl,hz⟩:=I.list hq
 obtain⟨j,h1,h2,h3,h4,h5⟩:=Y3 he
 obtain⟨w,ew,rw'⟩:=r.get h2
 have hl:=r.length
 have hn:=Vn
 have fin:EP X Aa σ Q w s:=⟨z,H,I,rw',q⟩
 have hj:i.toNat=j:=by
  rw [seqIndex_of h0 h5] at h1
  exact Option.some.inj h1
 exact wpAny_getItem_list pl.isList h0 (by omega) (by rw [hj];simpa using ew) fin
theorem l8 (hK:X.K=K:=by rfl):PGet X (A79 K):=by subst hK;exact Aj0
end
end L2
namespace Hb
open PySem L2
def RA (H:Hp) (us:List V) (l:List (List Int)):Prop:=us.length=l.length/\∀ (i:Nat) (r:List Int),l[i]?=some r->∃ b,us[i]?=some (.ref b)/\H b=some (.lst (r.map V.int))
theorem RA.same {H H':Hp}{us:List V}{l:List (List Int)} (s:Same H H') (h:RA H us l):RA H' us l :=
 ⟨h.1,fun i r e=>by obtain⟨b,h1,h2⟩:=h.2 i r e;exact ⟨b,h1,s _ _ h2⟩⟩
theorem RA.cons {H:Hp}{us:List V}{r:List Int}{l:List (List Int)} (h:RA H us (r::l)):∃ b us',us=.ref b::us'/\H b=some (.lst (r.map V.int))/\RA H us' l:=by
 obtain⟨h1,h2⟩:=h
 cases us with
 | nil=>simp at h1
 | cons u us' =>
   obtain⟨b,e1,e2⟩:=h2 0 r rfl
   cases e1
   refine⟨b,us',rfl,e2,by simpa using h1,fun i r' e=>?_⟩
   obtain⟨c,q1,q2⟩:=h2 (i+1) r' e
   exact ⟨c,q1,q2⟩
theorem RA.getV {H:Hp}{us:List V}{l:List (List Int)}{i:Nat}{v:V} (h:RA H us l) (hv:us[i]?=some v):∃ b r,v=.ref b/\l[i]?=some r/\H b=some (.lst (r.map V.int)):=by
 have hi:i<l.length:=by rw [←h.1];exact (List.getElem?_eq_some_iff.mp hv).1
 obtain⟨b,e1,e2⟩:=h.2 i _ (List.getElem?_eq_getElem hi)
 rw [hv] at e1
 cases e1
 exact ⟨b,_,rfl,List.getElem?_eq_getElem hi,e2⟩
def RN (H:Hp) (D:Addr) (us:List V) (l:List (List Int)):Prop:=us.length=l.length/\∀ (i:Nat) (r:List Int),l[i]?=some r->∃ b,us[i]?=some (.ref b)/\H b=some (.lst (r.map V.int))/\b≠D
theorem RN.nil (H:Hp) (D:Addr):RN H D [] []:=⟨rfl,fun i r h=>by simp at h⟩
theorem RN.ra {H:Hp}{D:Addr}{us:List V}{l:List (List Int)} (h:RN H D us l):RA H us l :=
 ⟨h.1,fun i r e=>by obtain⟨b,h1,h2,_⟩:=h.2 i r e;exact ⟨b,h1,h2⟩⟩
theorem RN.same {H H':Hp}{D:Addr}{us:List V}{l:List (List Int)} (s:Same H H') (h:RN H D us l):RN H' D us l :=
 ⟨h.1,fun i r e=>by obtain⟨b,h1,h2,h3⟩:=h.2 i r e;exact ⟨b,h1,s _ _ h2,h3⟩⟩
theorem RN.snoc {H:Hp}{D b:Addr}{o:HO}{us:List V}{l:List (List Int)}{r:List Int} (h:RN H D us l) (hb:H b=some (.lst (r.map V.int))) (hn:b≠D):RN (upd H D o) D (us++[.ref b]) (l++[r]):=by
 refine⟨by rw [List.length_append,List.length_append,h.1];rfl,fun i r' e=>?_⟩
 by_cases hi:i<l.length
 . rw [List.getElem?_append_left hi] at e
   obtain⟨c,e1,e2,e3⟩:=h.2 i r' e
   exact ⟨c,by rw [List.getElem?_append_left (by rw [h.1];exact hi)];exact e1,by rw [Ah e3];exact e2,e3⟩
 . have hil:i=l.length:=by
    have:=(List.getElem?_eq_some_iff.mp e).1
    rw [List.length_append] at this
    simp at this
    omega
   subst hil
   rw [List.getElem?_append_right (Nat.le_refl _),Nat.sub_self] at e
   cases e
   refine⟨b,?_,by rw [Ah hn];exact hb,hn⟩
   rw [List.getElem?_append_right (by rw [h.1];exact Nat.le_refl _),h.1,Nat.sub_self]
   rfl
def RB (n:Nat) (l:List (List Int)):Prop:=∀ r∈l,r.length=n/\∀ x∈r,-128<x/\x<128
theorem RB.clr {p:Int}{n a:Nat}{r:List Int}{l:List (List Int)} (hp:Bs p) (h98:p<98) (hr:r.length=n) (h:RB n l):RB n (l.map (clrR p r a)):=fun o ho=>by
 obtain⟨o',h1,rfl⟩:=List.mem_map.mp ho
 have h2:=(h o' h1).1
 have hp2:=hp.two
 unfold clrR
 refine⟨by rw [List.length_zipWith,h2,hr,Nat.min_self],fun x hx=>?_⟩
 obtain⟨i,hi,e⟩:=List.getElem_of_mem hx
 rw [List.getElem_zipWith] at e
 rw [←e]
 have q1:=Int.emod_nonneg (o'[i]'(by rw [List.length_zipWith] at hi;omega)*r.getD a 0-r[i]'(by rw [List.length_zipWith] at hi;omega)*o'.getD a 0) (show p≠0 by omega)
 have q2:=Int.emod_lt_of_pos (o'[i]'(by rw [List.length_zipWith] at hi;omega)*r.getD a 0-r[i]'(by rw [List.length_zipWith] at hi;omega)*o'.getD a 0) (show 0<p by omega)
 omega
theorem c9 {p:Int}{r:List Int}{l:List (List Int)}{f:Nat} (h:M4 p r=[]):Ev p (f+1) (r::l)=Ev p f l:=by
 rw [Ev]
 rw [h]
theorem c8 {p:Int}{r:List Int}{l:List (List Int)}{f a:Nat}{t:List Nat} (h:M4 p r=a::t):Ev p (f+1) (r::l)=Ev p f (l.map (clrR p r a))+1:=by
 rw [Ev]
 rw [h]
def Mq (p:Int) (r:List Int) (i:Nat):List Nat:=(List.range i).filter fun j=>decide (r.getD j 0%p≠0)
theorem Z5 (p:Int) (r:List Int):Mq p r r.length=M4 p r:=rfl
theorem Nw (p:Int) (r:List Int) (i:Nat):Mq p r (i+1)=if r.getD i 0%p=0 then Mq p r i else Mq p r i++[i]:=by
 unfold Mq
 rw [List.range_succ,List.filter_append]
 by_cases h:r.getD i 0%p=0
 . rw [if_pos h,List.filter_cons_of_neg (by simpa using h)];simp
 . rw [if_neg h,List.filter_cons_of_pos (by simpa using h)];simp
theorem Z4 (p:Int) (r:List Int) (i:Nat):(Mq p r i).length<=i:=by
 unfold Mq
 exact Nat.le_trans (List.length_filter_le ..) (by rw [List.length_range];exact Nat.le_refl _)
def rowJ (n:Nat) (q:List Int) (j:Nat):List Int:=(List.range n).map fun (i:Nat)=>oftN q (i:Int) j
def rowO (n:Nat) (q:List Int):List Int:=rowJ n q q.length
def isK (k:Int) (q:List Int):Bool:=decide (0<q.length)&&decide (levI q.length=k)
def Jb (n:Nat) (k:Int) (ys:List (List Int)):List (List Int):=(ys.filter (isK k)).map (rowO n)
theorem Eo (n:Nat) (q:List Int) (j:Nat):(rowJ n q j).length=n:=by unfold rowJ;rw [List.length_map,List.length_range]
theorem Kk {n:Nat}{q:List Int}{j i:Nat} (h:i<n):(rowJ n q j)[i]?=some (oftN q (i:Int) j):=by
 unfold rowJ
 rw [List.getElem?_map,List.getElem?_range h]
 rfl
def sgJ (j:Nat):Int:=1-2*((j:Int)%2)
theorem Az7 (j:Nat):-sgJ j=sgJ (j+1):=by unfold sgJ;omega
theorem Aq6 {n:Nat}{q:List Int}{j i:Nat} (h:i<n) (hq:q.getD j 0=(i:Int)):(rowJ n q j).set i (oftN q (i:Int) j+sgJ j)=rowJ n q (j+1):=by
 refine List.ext_getElem? fun m=>?_
 by_cases hm:m<n
 . rw [Kk hm,List.getElem?_set]
   by_cases e:i=m
   . subst e
     rw [if_pos rfl,if_pos (by rw [Eo];exact h)]
     show _=some (if q.getD j 0=(i:Int) then _ else _)
     rw [if_pos hq]
     unfold sgJ
     congr 1
     omega
   . rw [if_neg e,Kk hm]
     show _=some (if q.getD j 0=(m:Int) then _ else _)
     rw [if_neg (by rw [hq];omega)]
 . rw [List.getElem?_eq_none (by rw [List.length_set,Eo];omega),List.getElem?_eq_none (by rw [Eo];omega)]
theorem Ac0 (n:Nat) (q:List Int):rowJ n q 0=List.replicate n 0:=by
 refine List.ext_getElem? fun m=>?_
 by_cases hm:m<n
 . rw [Kk hm,List.getElem?_replicate,if_pos hm];rfl
 . rw [List.getElem?_eq_none (by rw [Eo];omega),List.getElem?_eq_none (by rw [List.length_replicate];omega)]
theorem Rl (n:Nat) (k:Int) (ys:List (List Int)) (q:List Int):Jb n k (ys++[q])=if isK k q=true then Jb n k ys++[rowO n q] else Jb n k ys:=by
 unfold Jb
 rw [List.filter_append]
 by_cases h:isK k q=true
 . rw [if_pos h,List.filter_cons_of_pos h];simp
 . rw [if_neg h,List.filter_cons_of_neg h];simp
theorem Uz (n:Nat) (k:Int) (ys:List (List Int)):(Jb n k ys).length<=ys.length:=by
 unfold Jb
 rw [List.length_map]
 exact List.length_filter_le ..
theorem Ab9 {n:Nat}{k:Int}{ys:List (List Int)} (h:∀ q∈ys,q.length<=4):RB n (Jb n k ys):=fun r hr=>by
 unfold Jb at hr
 obtain⟨q,hq,rfl⟩:=List.mem_map.mp hr
 have h4:=h q (List.mem_filter.mp hq).1
 refine⟨Eo ..,fun x hx=>?_⟩
 unfold rowO rowJ at hx
 obtain⟨i,_,rfl⟩:=List.mem_map.mp hx
 have:=Ax1 q (i:Int) q.length
 omega
theorem Ab7 {n:Nat}{q:List Int} (h:∀ f∈q,0<=f/\f<(n:Int)) (y:Int):rv (rowO n q) y=oft q y:=by
 have out:¬(0<=y/\y<(n:Int))->oft q y=0:=fun z=>by
  refine Ae5 ?_
  rw [List.any_eq_false]
  intro i hi
  have hi:=List.mem_range.mp hi
  simp only [decide_eq_true_eq]
  intro e
  rw [List.getD_eq_getElem?_getD,List.getElem?_eq_getElem hi] at e
  have:=h _ (List.getElem_mem hi)
  rw [show q[i]=y from e] at this
  exact z this
 unfold rv
 by_cases h0:0<=y
 . rw [if_pos h0]
   obtain⟨m,rfl⟩:=Int.eq_ofNat_of_zero_le h0
   rw [Int.toNat_natCast,List.getD_eq_getElem?_getD]
   by_cases hm:m<n
   . unfold rowO
     rw [Kk hm]
     rfl
   . rw [List.getElem?_eq_none (by unfold rowO;rw [Eo];omega),out (by omega)]
     rfl
 . rw [if_neg h0,out (by omega)]
theorem Nm {xs:List (List Int)} (h:Cg xs) {st i:Nat} (hi:i<st) (hst:st<=xs.length):(xs.getD i []).length<=4/\∀ f∈xs.getD i [],0<=f/\f<(st:Int):=by
 have hil:i<xs.length:=by omega
 have e:xs[i]?=some (xs.getD i []):=by rw [List.getD_eq_getElem?_getD,List.getElem?_eq_getElem hil];rfl
 have hf:=h i _ e
 refine⟨by have:=hf.cnt;omega,fun f h1=>⟨hf.low f h1,?_⟩⟩
 obtain⟨q,hq,_⟩:=hf.bel f h1
 have h2:=(List.getElem?_eq_some_iff.mp hq).1
 rw [List.length_take] at h2
 have:=hf.low f h1
 omega
theorem Si {xs:List (List Int)}{st:Nat}{q:List Int} (h:q∈xs.take st):∃ i,i<st/\i<xs.length/\q=xs.getD i []:=by
 obtain⟨i,hi,e⟩:=List.getElem_of_mem h
 rw [List.getElem_take] at e
 rw [List.length_take] at hi
 refine⟨i,by omega,by omega,?_⟩
 rw [List.getD_eq_getElem?_getD,List.getElem?_eq_getElem (by omega)]
 exact e.symm
theorem At6 {xs:List (List Int)}{st i:Nat} (h:i<st) (hst:st<=xs.length):xs.getD i []∈xs.take st:=by
 have hil:i<xs.length:=by omega
 rw [List.getD_eq_getElem?_getD,List.getElem?_eq_getElem hil]
 refine List.mem_of_getElem? (i:=i) ?_
 rw [List.getElem?_take,if_pos h,List.getElem?_eq_getElem hil]
 rfl
structure PcOk (xs:List (List Int)):Prop where
 le:xs.length<=40
 f4:∀ q∈xs,q.length<=4
 bel:∀ q∈xs,∀ f∈q,0<=f/\f<(xs.length:Int)
theorem Ad5 {xs:List (List Int)} (h:Cg xs) (h40:xs.length<=40) {st:Nat} (hst:st<=xs.length):PcOk (xs.take st):=by
 have hl:(xs.take st).length=st:=by rw [List.length_take];omega
 refine⟨by omega,fun q hq=>?_,fun q hq=>?_⟩
 . obtain⟨i,h1,_,rfl⟩:=Si hq
   exact (Nm h h1 hst).1
 . obtain⟨i,h1,_,rfl⟩:=Si hq
   rw [hl]
   exact (Nm h h1 hst).2
theorem Ai2 {k:Nat}{q:List Int}:isK (k:Int) q=true↔0<q.length/\q.length-1=k:=by
 unfold isK
 rw [Tn]
 simp
 omega
theorem Uy {xs:List (List Int)} (h:Cg xs) {st k:Nat} (hst:st<=xs.length):Rows xs st k (Jb st (k:Int) (xs.take st)) where
 len:=fun r hr=>by
  obtain⟨q,_,rfl⟩:=List.mem_map.mp hr
  exact Eo ..
 of:=fun r hr=>by
  obtain⟨q,hq,rfl⟩:=List.mem_map.mp hr
  obtain⟨h1,h2⟩:=List.mem_filter.mp hq
  obtain⟨i,h3,_,rfl⟩:=Si h1
  exact ⟨i,h3,(Ai2.mp h2).2,Ab7 (Nm h h3 hst).2⟩
 has:=fun i hi hk=>by
  by_cases h0:0<(xs.getD i []).length
  . exact .inl ⟨rowO st (xs.getD i []),List.mem_map.mpr ⟨_,List.mem_filter.mpr ⟨At6 hi hst,Ai2.mpr ⟨h0,hk⟩⟩,rfl⟩,Ab7 (Nm h hi hst).2⟩
  . refine .inr fun y=>?_
    rw [show xs.getD i []=[] from List.length_eq_zero_iff.mp (by omega)]
    rfl
def cntK (k:Int) (ys:List (List Int)):Nat:=(ys.filter fun q=>decide (levI q.length=k)).length
theorem Pm (k:Int) (ys:List (List Int)) (q:List Int):cntK k (ys++[q])=if levI q.length=k then cntK k ys+1 else cntK k ys:=by
 unfold cntK
 rw [List.filter_append]
 by_cases h:levI q.length=k
 . rw [if_pos h,List.filter_cons_of_pos (by simpa using h)];simp
 . rw [if_neg h,List.filter_cons_of_neg (by simpa using h)];simp
theorem Wc (xs:List (List Int)) (k:Nat):∀ st,st<=xs.length->cntK (k:Int) (xs.take st)=cntP (lvB xs k) st
 | 0,_=>rfl
 | st+1,h=>by
   have hil:st<xs.length:=by omega
   have ih:=Wc xs k st (by omega)
   have e:xs[st]?=some (xs.getD st []):=by rw [List.getD_eq_getElem?_getD,List.getElem?_eq_getElem hil];rfl
   rw [List.take_succ,e]
   show cntK _ (_++[xs.getD st []])=_
   rw [Pm,ih,Tn]
   show _=cntP (lvB xs k) st+(if lvB xs k st=true then 1 else 0)
   have hb:lvB xs k st=decide ((xs.getD st []).length-1=k):=rfl
   by_cases hk:(xs.getD st []).length-1=k
   . rw [if_pos (by omega),if_pos (by rw [hb];exact decide_eq_true hk)]
   . rw [if_neg (by omega),if_neg (by rw [hb];simpa using hk)];rfl
def rkK (p:Int) (k:Int) (ys:List (List Int)):Nat:=Ev p (Jb ys.length k ys).length (Jb ys.length k ys)
def dueK (p:Int) (k:Int) (ys:List (List Int)):Int:=(cntK k ys:Int)-(rkK p k ys:Int)-(rkK p (k+1) ys:Int)
theorem Ap0 {p:Int}{xs:List (List Int)}{es ss:List Ms}{bs:Ms}{st k:Nat} (hp:Bs p) (g:Ez p xs es ss bs) (s:Dy p xs es ss) (hsh:Cg xs) (hst:st<=xs.length):(K1 xs es bs (k:Int) (st:Int):Int)=dueK p (k:Int) (xs.take st):=by
 have hl:(xs.take st).length=st:=by rw [List.length_take];omega
 have h1:=U0 (k:=k) hp g s hst (Uy hsh hst) (Nat.le_refl _)
 have h2:=U0 (k:=k+1) hp g s hst (Uy hsh hst) (Nat.le_refl _)
 have h3:=Y8 (k:=k) hp g s hst
 have h4:=Wc xs k st hst
 have c1:((k+1:Nat):Int)=(k:Int)+1:=by omega
 rw [c1] at h2
 unfold dueK rkK
 rw [hl,h1,h2,h4]
 omega
def Sn (_K:W.Frag):Sp:=fun vs H Q _=>∃ (a:Addr) (us:List V) (l:List (List Int)) (n:Nat) (p:Int),vs=[.ref a,.int p]/\H a=some (.lst us)/\RA H us l/\l.length<=40/\n<=40/\RB n l/\Bs p/\p<98/\∀ H',Same H H'->Q (.int (Ev p l.length l:Nat)) H'
def Sm (K:W.Frag):Sp:=fun vs H Q _=>∃ (a:Addr) (xs:List (List Int)) (k:Int),vs=[.ref a,.int k]/\LT K H (.ref a) xs/\PcOk xs/\∀ (b:Addr) (us:List V) (H':Hp),Same H H'->H' b=some (.lst us)->RA H' us (Jb xs.length k xs)->Q (.ref b) H'
def W9 (K:W.Frag):Sp:=fun vs H Q _=>∃ (a:Addr) (xs:List (List Int)) (k p:Int),vs=[.ref a,.int k,.int p]/\LT K H (.ref a) xs/\PcOk xs/\Bs p/\p<98/\∀ H',Same H H'->Q (.int (dueK p k xs)) H'
theorem A72 {K:W.Frag}{H H1 H':Hp}{pc sh ed en a:Addr}{us:List V} (fr:FrG pc sh ed en H1 H') (hn:∀ c,W4 pc sh ed en c->H c=none) (s:Same H H1) (h:SqL K H a us):SqL K H' a us:=by
 rcases h with (h|⟨o,h⟩) | h
 . exact .inl (.inl (fr _ _ (fun w=>by rw [hn a w] at h;cases h) (s _ _ h)))
 . exact .inl (.inr ⟨o,fr _ _ (fun w=>by rw [hn a w] at h;cases h) (s _ _ h)⟩)
 . exact .inr h
theorem Am6 {g:TG}{te:TE}{D:Addr}{Q:Hp->Prop}{τ:St}{H:Hp}{K:W.Frag}{a b:Addr}{xs ys:List V}{n:Nat} (hn:n=min xs.length ys.length) (Pv:Nat->List V->St->Hp->Prop) (h0:Pv 0 [] τ H) (hl:∀ i zs τ H,i<=n->Pv i zs τ H->SqL K H a xs/\SqL K H b ys)
 (hs:∀ i x y zs τ H p,xs[i]?=some x->ys[i]?=some y->Pv i zs τ H->H p=none->g (.ref p) τ (upd H p (.tup [x,y])) fun τ2 H2=>te τ2 H2 fun y H4=>H4 D=some (.lst zs)/\zs.length<sizeLine/\Pv (i+1) (zs++[y]) τ2 (upd H4 D (.lst (zs++[y]))))
 (hd:∀ zs τ H,Pv n zs τ H->Q H):RunC (Itz K a b) g tYes te D Q τ H:=Av5 hn Pv h0 hl (fun i x y zs τ H p e1 e2 pp hp=>hs i x y zs τ H p e1 e2 pp hp) hd
end Hb
namespace Hb
open PySem L2
def top (i:Nat):Stmt:=PySem.Challenge.pw_holebook_k59_alive_by_ranks.main.body.getD i (.Pass ⟨0,0,0,0⟩)
structure Txt (K:W.Frag) (mg:Str->Option Value) (Ac:Addr):Prop where
 m_Growth:mg "Growth"=some (.ref Ac)
 cl_Growth:Cls K Ac
 na_Growth_prime:NoAttr K Ac "prime"
 na_Growth_pieces:NoAttr K Ac "pieces"
 na_Growth_sheets:NoAttr K Ac "sheets"
 na_Growth_edges:NoAttr K Ac "edges"
 na_Growth_enders:NoAttr K Ac "enders"
 x_FACE_COUNTS:∃ a,mg "FACE_COUNTS"=some (.ref a)/\∀ H,SqT K H a (([0,2,3,4]:List Int).map V.int)
 x_MOST_PIECES:∃ t,mg "MOST_PIECES"=some (.int 40 t)
 x_PRIME_BOUND:∃ t,mg "PRIME_BOUND"=some (.int 98 t)
 x_LEVELS:∃ t,mg "LEVELS"=some (.int 4 t)
 n_isinstance:mg "isinstance"=none
 n_int:mg "int"=none
 n_bool:mg "bool"=none
 n_tuple:mg "tuple"=none
 n_zip:mg "zip"=none
 n_max:mg "max"=none
 n_len:mg "len"=none
 n_all:mg "all"=none
 n_range:mg "range"=none
 n_dict:mg "dict"=none
 n_enumerate:mg "enumerate"=none
 n_list:mg "list"=none
def cutS (ns:List Int) (lo hi:Option Int):List Int:=(ns.drop (HT.sIx ns.length 0 lo)).take (HT.sIx ns.length ns.length hi-HT.sIx ns.length 0 lo)
theorem Av1 (ns:List Int) (lo hi:Option Int):cutV (ns.map V.int) lo hi=(cutS ns lo hi).map V.int:=by
 unfold cutV cutS
 rw [List.length_map,List.map_take,List.map_drop]
theorem Av2 (ns:List Int) (lo hi:Option Int):(cutS ns lo hi).length<=ns.length:=by
 unfold cutS
 rw [List.length_take,List.length_drop]
 omega
theorem Uu:Cg []:=fun k q h=>by simp at h
theorem Bf5:(["number"]:List Str).Nodup:=by decide +kernel
theorem Bb4:(["old","new","quotient"]:List Str).Nodup:=by decide +kernel
theorem Bf4:(["face","shape","level"]:List Str).Nodup:=by decide +kernel
theorem Ba1:(["place","old","number"]:List Str).Nodup:=by decide +kernel
theorem Bf3:(["number","thing"]:List Str).Nodup:=by decide +kernel
theorem Ba0:(["place","number","prime"]:List Str).Nodup:=by decide +kernel
theorem A99:(["birth","edge","self"]:List Str).Nodup:=by decide +kernel
theorem Bf2:(["pair","now"]:List Str).Nodup:=by decide +kernel
theorem Bf1:(["pair","self","k"]:List Str).Nodup:=by decide +kernel
theorem Bf0:(["_law_place","_law_pieces"]:List Str).Nodup:=by decide +kernel
theorem Bb3:(["_law_face","_law_pieces","_law_j"]:List Str).Nodup:=by decide +kernel
theorem Bb2:(["_law_face","_law_pieces","_law_faces"]:List Str).Nodup:=by decide +kernel
theorem Bb1:(["_law_face","_law_pieces","_law_level_here"]:List Str).Nodup:=by decide +kernel
theorem Bb0:(["_law_letter"]:List Str).Nodup:=by decide +kernel
theorem Ba9:(["_law_i","_law_word"]:List Str).Nodup:=by decide +kernel
theorem Ba8:(["_law_word","_law_family","_law_words"]:List Str).Nodup:=by decide +kernel
theorem Ba7:(["_law_face","_law_words"]:List Str).Nodup:=by decide +kernel
theorem Ba6:(["_law_n"]:List Str).Nodup:=by decide +kernel
theorem Ba5:(["_law_k","_law_n"]:List Str).Nodup:=by decide +kernel
theorem Ax3:(["_law_x","_law_y","_law_row","_law_at","_law_other","_law_prime_here"]:List Str).Nodup:=by decide +kernel
theorem Ax2:(["_law_at","_law_number","_law_prime_here"]:List Str).Nodup:=by decide +kernel
theorem Ba4:(["_law_one"]:List Str).Nodup:=by decide +kernel
theorem Ba3:(["_law_piece","_law_k"]:List Str).Nodup:=by decide +kernel
theorem Ba2:(["_law_k","_law_script","_law_pieces"]:List Str).Nodup:=by decide +kernel
section
variable {P:Program}{w:World}{K:W.Frag}{mg:Str->Option Value}{base:Heap}{Ac:Addr}
abbrev D5:Stmt:=top 2
theorem Xj:FnScope ["thing"] ["thing"] (Ag D5):=⟨rfl,rfl,rfl,by decide +kernel,rfl,by decide +kernel,by decide +kernel⟩
theorem Xt {f:Addr}{fd:FuncData} (F:Fun K "is_whole" "is_whole" D5 f fd) (T:Txt K mg Ac) :FnOk P w K mg base CX0 1 f fd ["thing"] (Fo K):=by
 refine F.ok Xj (fun vs H Q E h=>?_) (fun Bu A outer s H vs Q E hr h=>?_)
 . obtain⟨x,d,rfl,hx,k⟩:=h
   rfl
 . obtain⟨x,d,rfl,hx,k⟩:=h
   refine⟨_,(Aj (Av (U8 (An (Es (K:=K)) (by rfl) T.n_isinstance Bn (Ab (pv 0) (Ab (Lm (v:=.ty "int") rfl T.n_int boot_intT rfl) Af))) (Oi (Aw7 (An (Es (K:=K)) (by rfl) T.n_isinstance Bn (Ab (pv 0) (Ab (Lm (v:=.ty "bool") rfl T.n_bool R4 rfl) Af)))))))),?_⟩
   refine⟨_,rfl,_,_,d,rfl,.inl rfl,hx,_,rfl,?_⟩
   refine ite2 (fun e=>?_) (fun e=>?_)
   . refine⟨_,rfl,_,_,d,rfl,.inr (.inl rfl),hx,_,rfl,?_⟩
     have e2:En d=!isD "bool" d:=by unfold En;rw [e];rfl
     rw [e2] at k
     exact k
   . have e2:En d=false:=by unfold En;simp [e]
     rw [e2] at k
     exact k
abbrev Bj:Stmt:=top 4
theorem Lc:FnScope ["one","other","last","now","quotient","rest"] ["one","other"] (Ag Bj):=⟨rfl,rfl,rfl,by decide +kernel,rfl,by decide +kernel,by decide +kernel⟩
theorem Bf:(["one","other","last","now","quotient","rest"]:List Str).Nodup:=by decide +kernel
theorem Lp {f:Addr}{fd:FuncData} (F:Fun K "shared_divisor" "shared_divisor" Bj f fd) (T:Txt K mg Ac) :FnOk P w K mg base CX0 1 f fd ["one","other"] (Xa K):=by
 refine F.ok Lc (fun vs H Q E h=>?_) (fun Bu A outer s H vs Q E hr h=>?_)
 . obtain⟨n,p,rfl,hp,hp98,hn,k⟩:=h
   rfl
 . obtain⟨n,p,rfl,hp,hp98,hn,k⟩:=h
   refine⟨_,(Ae (As (i:=2) Bf (by rfl) (by first | exact Or.inl rfl | exact Or.inr rfl) (Ck (Ab (pv 0) (Ab Ai (Ab Ai Af)))))
    (Ae (As (i:=3) Bf (by rfl) (by first | exact Or.inl rfl | exact Or.inr rfl) (Ck (Ab (pv 1) (Ab Ai (Ab Ai Af)))))
    (Ae (S2 PassesOwn.never (Ao Ta (Ba (A7 (K:=K)) (pv 3) Ai (fun _ _=>rfl)) Ai (Ay _)) (Ae (As (i:=4) Bf (by rfl) (by first | exact Or.inl rfl | exact Or.inr rfl) (Az Fv (Ba (A7 (K:=K)) (pv 2) Ai (fun _ _=>rfl)) (Ba (A7 (K:=K)) (pv 3) Ai (fun _ _=>rfl))))
    (Ae (As (i:=5) Bf (by rfl) (by first | exact Or.inl rfl | exact Or.inr rfl) (Dn (Dk (K:=K)) (by rfl) T.n_tuple Dg (Ab (Cn (N':=["old","new","quotient"]) (cap:=[none,none,some 4]) (by rfl) (by kernel_rfl) (A10 (K:=K) (by rfl) T.n_zip (Ab (pv 2) (Ab (pv 3) Af))) (fun _ _ _ _=>(Hn (K:=K) (n:=2) (by rfl) (Bt (Aq (i:=0) Bb4 (by rfl) (by first | exact Or.inl rfl | exact Or.inr rfl)) (Bt (Aq (i:=1) Bb4 (by rfl) (by first | exact Or.inl rfl | exact Or.inr rfl)) Hh)))) (fun _ _ _ _=>Dd) (fun _ _ _ _=>(Az Gf (pv 0) (Az op_mulX (pv 2) (pv 1))))) Af)))
    (Ae (As (i:=2) Bf (by rfl) (by first | exact Or.inl rfl | exact Or.inr rfl) (pv 3))
    (Aj (As (i:=3) Bf (by rfl) (by first | exact Or.inl rfl | exact Or.inr rfl) (pv 5)))))))
    (Ae (Bi (Ao Na (Ba (A7 (K:=K)) (pv 2) Ai (fun _ _=>rfl)) Ai (Ay _)) (Aj (Av (Dn (Dk (K:=K)) (by rfl) T.n_tuple Dg (Ab (Cn (N':=["number"]) (cap:=[none]) (by rfl) (by kernel_rfl) (Lz (K:=K) (pv 2)) (fun _ _ _ _=>(Aq (i:=0) Bf5 (by rfl) (by first | exact Or.inl rfl | exact Or.inr rfl))) (fun _ _ _ _=>Dd) (fun _ _ _ _=>(Ad3 Uo (pv 0)))) Af)))) Ax)
    (Aj (Av (pv 2))))))),?_⟩
   have hp2:=hp.two
   refine⟨_,rfl,A4 (by simp),fun L0 hL0=>?_⟩
   have s0:Same H (upd H L0 (.tup [.int n,.int 1,.int 0])):=Same.new hL0
   refine⟨_,rfl,A4 (by simp),fun N0 hN0=>?_⟩
   have s1:Same (upd H L0 (.tup [.int n,.int 1,.int 0])) (upd (upd H L0 (.tup [.int n,.int 1,.int 0])) N0 (.tup [.int p,.int 0,.int 1])):=Same.new hN0
   refine Ar (fun σ' H'=>σ'=[some (.int n),some (.int p),some (.ref L0),some (.ref N0),none,none]/\H'=upd (upd H L0 (.tup [.int n,.int 1,.int 0])) N0 (.tup [.int p,.int 0,.int 1])) ?_ fun key0=>key0 _ _ ⟨rfl,rfl⟩
   rintro _ _ ⟨rfl,rfl⟩
   refine Ar (fun σ' H'=>∃ (L N:Addr) (x y:Int) (o4 o5:Option V),σ'=[some (.int n),some (.int p),some (.ref L),some (.ref N),o4,o5]/\Same H H'/\SqT K H' L [.int 1,.int x,.int y]/\p∣1-x*n) ?_ fun key=>?_
   rotate_left
   . refine⟨fun m σ G=>∃ (L N:Addr) (a x y b u v:Int) (o4 o5:Option V),σ=[some (.int n),some (.int p),some (.ref L),some (.ref N),o4,o5]/\Same H G/\SqT K G L [.int a,.int x,.int y]/\SqT K G N [.int b,.int u,.int v]/\Eu n p a x b u/\((b=p/\u=0/\v=1)\/(0<=b/\b<a/\a<=p))/\m=b.toNat,⟨_,L0,N0,n,1,0,p,0,1,none,none,rfl,s0.trans s1,.of (s1 _ _ Ad),.of Ad,Eu.start n p,.inl ⟨rfl,rfl,rfl⟩,rfl⟩,?_⟩
     rintro m σ G ⟨L,N,a,x,y,b,u,v,o4,o5,rfl,s2,hL,hN,hE,hst,rfl⟩
     refine⟨_,rfl,N,_,_,_,rfl,rfl,hN,rfl,rfl,_,rfl,?_⟩
     refine ite2 (fun h1=>?_) (fun h1=>?_)
     . have hb0:¬b=0:=by simpa using h1
       have hbp:0<b/\b<=p:=by omega
       have hq:IntMulOk (a / b) u/\IntMulOk (a / b) v:=by
        rcases hst with ⟨_,e1,e2⟩|⟨e0,e1,e2⟩
        . subst e1 e2
          exact ⟨Ag3 (by decide) (by decide),Ag3 (by decide) (by decide)⟩
        . have q0:0<=a / b:=Int.ediv_nonneg (by omega) (by omega)
          have q1:a / b<=a:=Int.ediv_le_self _ (by omega)
          exact ⟨Ko (by omega) (by omega),Ko (by omega) (by omega)⟩
       have hr:a-a / b*b=a%b:=by rw [Int.emod_def,Int.mul_comm]
       have hr0:0<=a%b:=Int.emod_nonneg _ (by omega)
       have hr1:a%b<b:=Int.emod_lt_of_pos _ (by omega)
       refine⟨fun σ' G'=>∃ (L N:Addr) (a' x y b' u v:Int) (o4 o5:Option V),σ'=[some (.int n),some (.int p),some (.ref L),some (.ref N),o4,o5]/\Same H G'/\SqT K G' L [.int a',.int x,.int y]/\SqT K G' N [.int b',.int u,.int v]/\Eu n p a' x b' u/\(0<=b'/\b'<a'/\a'<=p)/\b'<b,?_,?_⟩
       . rintro σ' G' ⟨L',N',a',x',y',b',u',v',o4',o5',rfl,q1,q2,q3,q4,q5,q6⟩
         exact ⟨b'.toNat,by omega,L',N',a',x',y',b',u',v',o4',o5',rfl,q1,q2,q3,q4,.inr q5,rfl⟩
       refine⟨_,rfl,L,_,_,_,rfl,rfl,hL,rfl,_,rfl,N,_,_,_,rfl,rfl,hN,rfl,_,_,rfl,rfl,⟨by omega,by omega⟩,?_⟩
       refine⟨_,rfl,_,rfl,L,N,rfl,⟨_,hL⟩,⟨_,hN⟩,fun D hD=>?_⟩
       have gv:∀ (i:Nat) (e f:V),([.int a,.int x,.int y]:List V)[i]?=some e->([.int b,.int u,.int v]:List V)[i]?=some f->∃ e' f':Int,e=.int e'/\f=.int f'/\IntMulOk (a / b) f'/\i<3 ∧
        ([.int (a-a / b*b),.int (x-a / b*u),.int (y-a / b*v)]:List V)[i]?=some (.int (e'-a / b*f')):=by
        intro i e f he hf
        match i,he,hf with
        | 0,he,hf=>cases he;cases hf;exact ⟨a,b,rfl,rfl,Ag3 (by omega) (by omega),by decide,rfl⟩
        | 1,he,hf=>cases he;cases hf;exact ⟨x,u,rfl,rfl,hq.1,by decide,rfl⟩
        | 2,he,hf=>cases he;cases hf;exact ⟨y,v,rfl,rfl,hq.2,by decide,rfl⟩
        | i+3,he,hf=>simp at he
       refine v5 (K:=K) (a:=L) (b:=N) (xs:=[.int a,.int x,.int y]) (ys:=[.int b,.int u,.int v]) (n:=3) ⟨rfl,rfl⟩ (fun i zs τ G1=>Same G G1/\G1 D=some (.lst zs)/\zs=([.int (a-a / b*b),.int (x-a / b*u),.int (y-a / b*v)]:List V).take i/\∃ o1 o2,τ=[o1,o2,some (.int (a / b))])
        ⟨Same.new hD,Ad,rfl,none,none,rfl⟩ (fun i zs τ G1 _ ⟨s3,_⟩=>⟨s3.seqT hL,s3.seqT hN⟩) ?_ ?_
       . rintro i e f zs τ G1 pr he hf ⟨s3,hD3,hzs,o1,o2,rfl⟩ hpr
         obtain⟨e',f',rfl,rfl,hok,hi3,hnext⟩:=gv i e f he hf
         have sp:Same G1 (upd G1 pr (.tup [.int e',.int f'])):=Same.new hpr
         refine⟨pr,_,rfl,.of Ad,rfl,_,_,rfl,_,_,rfl,rfl,?_⟩
         refine⟨_,rfl,_,rfl,_,rfl,_,_,rfl,rfl,hok,_,_,rfl,rfl,?_⟩
         refine⟨sp _ _ hD3,Cc (by rw [hzs,List.length_take];omega),(s3.trans sp).turn hD,Ad,?_,_,_,rfl⟩
         rw [List.take_succ,hnext,hzs]
         rfl
       . rintro zs τ G1 ⟨s3,hD3,hzs,_⟩
         refine⟨D,_,rfl,.inl ⟨.of hD3,fun T1 hT1=>?_⟩⟩
         have s4:Same G1 (upd G1 T1 (.tup zs)):=Same.new hT1
         have hzs':zs=[.int (a-a / b*b),.int (x-a / b*u),.int (y-a / b*v)]:=hzs
         have hT2:SqT K (upd G1 T1 (.tup zs)) T1 [.int (a-a / b*b),.int (x-a / b*u),.int (y-a / b*v)]:=by rw [←hzs'];exact .of Ad
         refine⟨_,rfl,_,rfl,N,T1,b,u,v,a-a / b*b,x-a / b*u,y-a / b*v,_,_,rfl,(s2.trans s3).trans s4,(s3.trans s4).seqT hN,hT2,hE.step (a / b),?_,?_⟩
         . rw [hr];exact ⟨hr0,hr1,hbp.2⟩
         . rw [hr];exact hr1
     . have hb0:b=0:=by simpa using h1
       subst hb0
       have ha:0<a:=by omega
       have e1:=hE.last hp hn ha
       subst e1
       exact key _ _ ⟨L,N,x,y,o4,o5,rfl,s2,hL,hE.ha⟩
   rintro _ G ⟨L,N,x,y,o4,o5,rfl,s2,hL,hd⟩
   refine⟨_,rfl,L,_,_,_,rfl,rfl,hL,rfl,_,_,rfl,rfl,_,rfl,?_⟩
   refine ifN (by simp) ?_
   exact ⟨_,rfl,k L x y G s2 hL hd⟩
abbrev D4:Stmt:=top 7
theorem Xi:FnScope ["piece"] ["piece"] (Ag D4):=⟨rfl,rfl,rfl,by decide +kernel,rfl,by decide +kernel,by decide +kernel⟩
theorem Xs {f:Addr}{fd:FuncData} (F:Fun K "level_of" "level_of" D4 f fd) (T:Txt K mg Ac) :FnOk P w K mg base CX0 1 f fd ["piece"] (Bg K):=by
 refine F.ok Xi (fun vs H Q E h=>?_) (fun Bu A outer s H vs Q E hr h=>?_)
 . obtain⟨x,ds,rfl,hx,k⟩:=h
   rfl
 . obtain⟨x,ds,rfl,hx,k⟩:=h
   refine⟨_,(Aj (Av (An (Wj (by rfl)) (by rfl) T.n_max Id (Ab (Az Gf (An (Ak (K:=K)) (by rfl) T.n_len PySem.boot_len (Ab (pv 0) Af)) Ai) (Ab Ai Af))))),?_⟩
   obtain⟨p,us,e,hq,hl⟩:∃ (p:Addr) (us:List V),x=.ref p/\(SqL K H p us\/SqT K H p us)/\us.length=ds.length:=by
    rcases hx with ⟨p,us,e,hq,r⟩|⟨p,us,e,hq,r⟩
    . exact ⟨p,us,e,.inl hq,r.length⟩
    . exact ⟨p,us,e,.inr hq,r.length⟩
   subst e
   refine⟨_,rfl,p,us,rfl,hq,_,_,rfl,rfl,_,_,rfl,?_⟩
   rw [hl]
   exact k
abbrev Ci:Stmt:=top 10
theorem Qe:FnScope ["shape","faces","j","i"] ["shape","faces"] (Ag Ci):=⟨rfl,rfl,rfl,by decide +kernel,rfl,by decide +kernel,by decide +kernel⟩
theorem Jm:(["shape","faces","j","i"]:List Str).Nodup:=by decide +kernel
theorem Qm {f:Addr}{fd:FuncData} (F:Fun K "faces_agree" "faces_agree" Ci f fd) (T:Txt K mg Ac) :FnOk P w K mg base CX0 1 f fd ["shape","faces"] (Et K):=by
 refine F.ok Qe (fun vs H Q E h=>?_) (fun Bu A outer s H vs Q E hr h=>?_)
 . obtain⟨a,v,xs,p,rfl,hL,hv,hp4,hf,k⟩:=h
   rfl
 . obtain⟨a,v,xs,p,rfl,hL,hv,hp4,hf,k⟩:=h
   refine⟨_,(Ae (Ce PassesOwn.never rfl (B4 (by rfl) T.n_range (Ab (An (Ak (K:=K)) (by rfl) T.n_len PySem.boot_len (Ab (pv 1) Af)) Af)) (Aq (i:=2) Jm (by rfl) (by first | exact Or.inl rfl | exact Or.inr rfl)) (Aj (Ce PassesOwn.never rfl (B4 (by rfl) T.n_range (Ab (pv 2) Af)) (Aq (i:=3) Jm (by rfl) (by first | exact Or.inl rfl | exact Or.inr rfl)) (Aj (Bi (Ao Ta (Ba (A7 (K:=K)) (Ba (A3 (K:=K)) (pv 0) (Ba (A7 (K:=K)) (pv 1) (pv 2) (fun _ _=>rfl)) (fun _ _=>rfl)) (pv 3) (fun _ _=>rfl)) (Ba (A7 (K:=K)) (Ba (A3 (K:=K)) (pv 0) (Ba (A7 (K:=K)) (pv 1) (pv 3) (fun _ _=>rfl)) (fun _ _=>rfl)) (Az Gf (pv 2) Ai) (fun _ _=>rfl)) (Ay _)) (Aj (Av J0)) Ax)))))
    (Aj (Av J0))),?_⟩
   obtain⟨pa,rfl,hq⟩:=hv.sq
   have hpl:(p.map V.int).length=p.length:=List.length_map ..
   refine⟨_,rfl,pa,_,rfl,.inr hq,_,rfl,by omega,by omega,?_⟩
   rw [hpl]
   refine B6 (lo:=0) (n:=((p.length:Nat):Int).toNat) (fun j σ H2=>H=H2/\(∃ o2 o3,σ=[some (.ref a),some (.ref pa),o2,o3])/\∀ j' i',j'<j->i'<j'->Kb xs p j' i'=true)
    ⟨rfl,⟨none,none,rfl⟩,fun j' i' h=>absurd h (by omega)⟩ ?_ ?_
   . rintro j σ H2 hj ⟨rfl,⟨o2,o3,rfl⟩,hall⟩
     have hj':j<p.length:=by omega
     refine⟨_,rfl,_,rfl,by omega,by omega,?_⟩
     refine B6 (lo:=0) (n:=((0:Int)+(j:Int)).toNat) (fun i σ H2=>H=H2/\(∃ o3,σ=[some (.ref a),some (.ref pa),some (.int (0+j)),o3])/\∀ i',i'<i->Kb xs p j i'=true)
      ⟨rfl,⟨_,rfl⟩,fun i' h=>absurd h (by omega)⟩ ?_ ?_
     . rintro i σ H2 hi ⟨rfl,⟨o3,rfl⟩,hall2⟩
       have hij:i<j:=by omega
       have mj:p.getD j 0∈p:=by rw [List.getD_eq_getElem?_getD,List.getElem?_eq_getElem hj'];exact List.getElem_mem _
       have mi:p.getD i 0∈p:=by rw [List.getD_eq_getElem?_getD,List.getElem?_eq_getElem (by omega)];exact List.getElem_mem _
       obtain⟨j0,j1,j2⟩:=hf _ mj
       obtain⟨i0,i1,i2⟩:=hf _ mi
       obtain⟨_,z,hq1,at1⟩:=TI.get (i:=(0:Int)+(j:Int)) hv (by omega) (by omega)
       cases z
       rw [show ((0:Int)+(j:Int)).toNat=j by omega] at at1
       obtain⟨_,z,hq2,at2⟩:=TI.get (i:=(0:Int)+(i:Int)) hv (by omega) (by omega)
       cases z
       rw [show ((0:Int)+(i:Int)).toNat=i by omega] at at2
       obtain⟨us1,v1,hu1,av1,tv1⟩:=LT.get hL j0 j1
       obtain⟨us2,v2,hu2,av2,tv2⟩:=LT.get hL i0 i1
       obtain⟨b1,e1,hb1,ab1⟩:=TI.get (i:=(0:Int)+(i:Int)) tv1 (by omega) (by omega)
       obtain⟨b2,e2,hb2,ab2⟩:=TI.get (i:=(0:Int)+(j:Int)-1) tv2 (by omega) (by omega)
       subst e1 e2
       rw [show ((0:Int)+(i:Int)).toNat=i by omega] at ab1
       rw [show ((0:Int)+(j:Int)-1).toNat=j-1 by omega] at ab2
       refine⟨_,rfl,_,rfl,_,rfl,pa,_,_,_,rfl,rfl,hq1,at1,a,us1,_,_,rfl,rfl,hu1,av1,_,rfl,b1,_,_,_,rfl,rfl,hb1,ab1,?_⟩
       refine⟨_,rfl,_,rfl,_,rfl,pa,_,_,_,rfl,rfl,hq2,at2,a,us2,_,_,rfl,rfl,hu2,av2,_,rfl,_,_,rfl,rfl,b2,_,_,_,rfl,rfl,hb2,ab2,?_⟩
       refine⟨rfl,_,rfl,?_⟩
       by_cases hag:(xs.getD (p.getD j 0).toNat []).getD i 0=(xs.getD (p.getD i 0).toNat []).getD (j-1) 0
       . refine ifN (eqI hag) ?_
         refine⟨rfl,⟨_,rfl⟩,fun i' h=>?_⟩
         by_cases hz:i'=i
         . subst hz;unfold Kb;exact decide_eq_true hag
         . exact hall2 i' (by omega)
       . refine ifP (neI hag) ?_
         have e2:Ek xs p=false:=by
          cases q:Ek xs p with
          | false=>rfl
          | true =>
            unfold Ek at q
            rw [List.all_eq_true] at q
            have q2:=q j (List.mem_range.mpr hj')
            rw [List.all_eq_true] at q2
            have q3:=q2 i (List.mem_range.mpr hij)
            exact absurd (of_decide_eq_true q3) hag
         rw [e2] at k
         exact k
     . rintro σ H2 ⟨rfl,⟨o3,rfl⟩,hall2⟩
       refine⟨rfl,⟨_,_,rfl⟩,fun j' i' h1 h2=>?_⟩
       by_cases hz:j'=j
       . subst hz;exact hall2 i' (by omega)
       . exact hall j' i' (by omega) h2
   . rintro σ H2 ⟨rfl,⟨o2,o3,rfl⟩,hall⟩
     have e2:Ek xs p=true:=by
      unfold Ek
      rw [List.all_eq_true]
      intro j hj
      rw [List.all_eq_true]
      intro i hi
      have:=List.mem_range.mp hj
      exact hall j i (by omega) (List.mem_range.mp hi)
     rw [e2] at k
     exact k
abbrev Fp:Stmt:=top 13
theorem Ab1:FnScope ["chain","place","number","total"] ["chain","place","number"] (Ag Fp):=⟨rfl,rfl,rfl,by decide +kernel,rfl,by decide +kernel,by decide +kernel⟩
theorem Ag0:(["chain","place","number","total"]:List Str).Nodup:=by decide +kernel
theorem Ad8 {f:Addr}{fd:FuncData} (F:Fun K "add_at" "add_at" Fp f fd) (T:Txt K mg Ac) :FnOk P w K mg base CX0 1 f fd ["chain","place","number"] (Gx K):=by
 refine F.ok Ab1 (fun vs H Q E h=>?_) (fun Bu A outer s H vs Q E hr h=>?_)
 . obtain⟨a,ms,k,n,rfl,ha,hl,kq⟩:=h
   rfl
 . obtain⟨a,ms,k,n,rfl,ha,hl,kq⟩:=h
   have hu8:(A.deeper (PyProof.Rows.envOfC "add_at" (Ag Fp) s.heap.objs.size f Bu)).units+8<cLine:=by have:=hr.units;omega
   refine⟨_,(Ae (As (i:=3) Ag0 (by rfl) (by first | exact Or.inl rfl | exact Or.inr rfl) (Az Dw (Ar7 (u1 hu8) (pv 0) (pv 1) Ai ⟨by rfl,by rfl,by rfl,by rfl⟩) (pv 2)))
    (Aj (Bi (Ao Do (pv 3) Ai (Ay _)) (Aj (B9 (Ar6 (pv 0) (pv 1) U7 ⟨by rfl,by rfl,by rfl,by rfl⟩))) (Aj (Ac3 (u1 hu8) (pv 0) (pv 1) (pv 3) (by rfl)))))),?_⟩
   refine⟨_,rfl,a,rfl,.inl ⟨_,.inl ha⟩,_,rfl,_,A50 (.inl ha),_,rfl,getI ms k,n,A57 ms k,rfl,?_⟩
   refine⟨_,rfl,rfl,_,rfl,?_⟩
   refine ite2 (fun h1=>?_) (fun h1=>?_)
   . have e:getI ms k+n=0:=by simpa using h1
     unfold addI at kq
     rw [if_pos e] at kq
     refine⟨_,rfl,a,rfl,.inl ⟨_,.inl ha⟩,_,rfl,cK ms,.inl k,ha,rfl,fun v hv=>?_,fun hn=>?_⟩
     . rw [A58]
       exact kq
     . rw [R3] at hn
       have hn':lookI ms k=none:=by simpa using hn
       have e2:Pb ms k=ms:=by
        unfold Pb
        rw [List.filter_eq_self]
        intro p hp
        have:¬p.1=k:=fun z=>by
         have h3:(ms.any fun p=>decide (p.1=k))=true:=List.any_eq_true.mpr ⟨p,hp,by simpa using z⟩
         rw [Ao2] at h3
         obtain⟨p',hp',e'⟩:=List.mem_map.mp h3
         rw [←e'] at hn'
         have:∀ (ns:Ms),p'∈ns->lookI ns p'.1≠none:=by
          intro ns
          induction ns with
          | nil=>intro z;cases z
          | cons q ns ih =>
            intro hq
            rw [Bm]
            split
            . exact fun z=>by cases z
            . rename_i hne
              rcases List.mem_cons.mp hq with rfl | hq
              . exact absurd rfl hne
              . exact ih hq
         exact this ms hp' hn'
        simpa using this
       rw [e2,Aw2 ha] at kq
       exact kq
   . have e:¬getI ms k+n=0:=by simpa using h1
     unfold addI at kq
     rw [if_neg e] at kq
     exact ⟨_,rfl,_,rfl,_,rfl,a,_,rfl,Ak5 ha hl,kq⟩
abbrev Lf:Stmt:=top 14
theorem Aq3:FnScope ["number","chain"] ["number","chain"] (Ag Lf):=⟨rfl,rfl,rfl,by decide +kernel,rfl,by decide +kernel,by decide +kernel⟩
theorem As5 {f:Addr}{fd:FuncData} (F:Fun K "times" "times" Lf f fd) (T:Txt K mg Ac) :FnOk P w K mg base CX0 1 f fd ["number","chain"] (Sl K):=by
 refine F.ok Aq3 (fun vs H Q E h=>?_) (fun Bu A outer s H vs Q E hr h=>?_)
 . obtain⟨n,a,ms,rfl,ha,hm,hok,k⟩:=h
   rfl
 . obtain⟨n,a,ms,rfl,ha,hm,hok,k⟩:=h
   refine⟨_,(Ae (Bi (Ao Do (pv 0) Ai (Ay _)) (Aj (Av S9)) Ax)
    (Aj (Av (Dn (Rz (by rfl)) (by rfl) T.n_dict Mj (Ab (Aw8 (Cn (N':=["place","old","number"]) (cap:=[none,none,some 0]) (by rfl) (by kernel_rfl) (S6 (pv 1)) (fun _ _ _ _=>(Hn (K:=K) (n:=2) (by rfl) (Bt (Aq (i:=0) Ba1 (by rfl) (by first | exact Or.inl rfl | exact Or.inr rfl)) (Bt (Aq (i:=1) Ba1 (by rfl) (by first | exact Or.inl rfl | exact Or.inr rfl)) Hh)))) (fun _ _ _ _=>Dd) (fun _ _ _ _=>(Ck (Ab (pv 0) (Ab (Az op_mulX (pv 2) (pv 1)) Af)))))) Af))))),?_⟩
   refine⟨_,rfl,rfl,_,rfl,?_⟩
   refine ite2 (fun h1=>?_) (fun h1=>?_)
   . have e:n=0:=by simpa using h1
     intro D hD
     refine k D _ hD (Same.new hD) ?_
     rw [Ad]
     unfold A5
     rw [if_pos e]
     rfl
   have e:¬n=0:=by simpa using h1
   refine .inr ⟨a,cK ms,ha,fun hnd o=>?_⟩
   refine⟨_,rfl,a,o,cK ms,rfl,Ad,fun D hD=>?_⟩
   obtain⟨hD0,nDa⟩:=Zn hD
   refine Rp (d:=a) (o:=o) (kvs:=cK ms) (fun i zs τ H1=>∃ ts:List Addr,zs=ts.map V.ref/\ts.length=i/\(∀ (j:Nat) t,ts[j]?=some t->∃ p:Int × Int,ms[j]?=some p/\H1 t=some (.tup [.int p.1,.int (n*p.2)])/\t≠D)/\H1 a=some (.frz o (.dK (cK ms)))/\H1 D=some (.lst zs)/\(∀ c q,c≠a->H c=some q->H1 c=some q)/\∃ o1 o2,τ=[o1,o2,some (.int n)])
    ⟨[],rfl,rfl,(fun j t z=>by simp at z),?_,Ad,?_,none,none,rfl⟩ (fun i zs τ H1 _ ⟨_,_,_,_,e,_⟩=>e) ?_ ?_
   . rw [Ah nDa.symm];exact Ad
   . intro c q n1 e2
     rw [Ah (Ap e2 hD0),Ah n1]
     exact e2
   . rintro i kk x zs τ H1 p hx ⟨ts,rfl,htl,hts,ha1,hD1,hk1,o1,o2,rfl⟩ hp
     obtain⟨q,hq,rfl,rfl⟩:=An8 hx
     have hlt:i<ms.length:=(List.getElem?_eq_some_iff.mp hq).1
     have sp:Same H1 (upd H1 p (.tup [.int q.1,.int q.2])):=Same.new hp
     refine⟨p,_,rfl,.of Ad,rfl,_,_,rfl,_,_,rfl,rfl,?_⟩
     refine⟨_,rfl,_,rfl,_,rfl,_,_,rfl,rfl,hok q (List.mem_of_getElem? hq),A4 (by simp),fun t ht=>?_⟩
     have st:=sp.trans (Same.new (o:=.tup [.int q.1,.int (n*q.2)]) ht)
     have ntD:t≠D:=(Ap (sp _ _ hD1) ht).symm
     refine⟨st _ _ hD1,Cc (by rw [List.length_map];omega),ts++[t],by simp,by simp [htl],fun j t' e2=>?_,?_,Ad,fun c r n1 e2=>?_,_,_,rfl⟩
     . rw [List.getElem?_append] at e2
       split at e2
       . obtain⟨p',h1',h2',h3'⟩:=hts j t' e2
         exact ⟨p',h1',by rw [Ah h3'];exact st _ _ h2',h3'⟩
       . rename_i hj
         have hj0:j-ts.length=0:=by
          cases hz:j-ts.length with
          | zero=>rfl
          | succ m=>rw [hz] at e2;simp at e2
         rw [hj0] at e2
         have et:t=t':=by simpa using e2
         subst et
         refine⟨q,by rw [show j=i by omega];exact hq,?_,ntD⟩
         rw [Ah ntD]
         exact Ad
     . rw [Ah nDa.symm];exact st _ _ ha1
     . have:=hk1 c r n1 e2
       rw [Ah (fun z=>by rw [z,hD0] at e2;cases e2)]
       exact st _ _ this
   . rintro zs τ H1 ⟨ts,rfl,htl,hts,ha1,hD1,hk1,_⟩
     rw [Mw] at htl
     refine⟨ha1,D,ts,cK (ms.map fun p=>(p.1,n*p.2)),rfl,(by rw [Ah nDa];exact hD1),(by rw [Mw,List.length_map];exact htl),fun i t e2=>?_,fun E hE=>?_⟩
     . obtain⟨p,h1',h2',_⟩:=hts i t e2
       refine⟨(.inl p.1,.int (n*p.2)),?_,?_⟩
       . unfold cK
         rw [List.getElem?_map,List.getElem?_map,h1']
         rfl
       . have nta:t≠a:=Fw h2' ha1 (fun z=>by cases z)
         rw [Ah nta]
         exact h2'
     . have s1:Same H (upd H1 a (.dK (cK ms))):=fun c q e2=>by
        by_cases z:c=a
        . subst z
          rw [ha] at e2
          cases e2
          exact Ad
        . rw [Ah z];exact hk1 c q z e2
       refine k E _ (s1.free hE) (s1.trans (Same.new hE)) ?_
       rw [Ad]
       have hnd':nd ms:=Tk.mp hnd
       rw [Hm _ [] (by rw [List.nil_append];exact Tk.mpr (Iq hnd' n))]
       unfold A5
       rw [if_neg e,List.nil_append]
abbrev Cy:Stmt:=top 25
theorem Sy:FnScope ["pieces"] ["pieces"] (Ag Cy):=⟨rfl,rfl,rfl,by decide +kernel,rfl,by decide +kernel,by decide +kernel⟩
theorem Tb {f:Addr}{fd:FuncData} (F:Fun K "check_size" "check_size" Cy f fd) (T:Txt K mg Ac) :FnOk P w K mg base CX0 1 f fd ["pieces"] (So K):=by
 refine F.ok Sy (fun vs H Q E h=>?_) (fun Bu A outer s H vs Q E hr h=>?_)
 . obtain⟨a,us,rfl,hS,h40,k⟩:=h
   rfl
 . obtain⟨a,us,rfl,hS,h40,k⟩:=h
   obtain⟨t_MOST_PIECES,c_MOST_PIECES⟩:=T.x_MOST_PIECES
   refine⟨_,(Aj (Bi (Ao Xr (An (Ak (K:=K)) (by rfl) T.n_len PySem.boot_len (Ab (pv 0) Af)) (S8 (v:=.int 40) (by rfl) c_MOST_PIECES ⟨_,rfl⟩) (Ay _)) (Aj Kl) Ax)),?_⟩
   refine⟨_,rfl,a,us,rfl,.inl hS,_,_,rfl,rfl,_,rfl,?_⟩
   refine ifN (by simp;omega) ?_
   exact k
abbrev E5:Stmt:=top 33
theorem b7:FnScope ["chain","prime"] ["chain","prime"] (Ag E5):=⟨rfl,rfl,rfl,by decide +kernel,rfl,by decide +kernel,by decide +kernel⟩
theorem f7 {f:Addr}{fd:FuncData} (F:Fun K "counted" "counted" E5 f fd) (T:Txt K mg Ac) :FnOk P w K mg base CX0 1 f fd ["chain","prime"] (Ij K):=by
 refine F.ok b7 (fun vs H Q E h=>?_) (fun Bu A outer s H vs Q E hr h=>?_)
 . obtain⟨a,ms,p,rfl,ha,hm,hnd0,hp,k⟩:=h
   rfl
 . obtain⟨a,ms,p,rfl,ha,hm,hnd0,hp,k⟩:=h
   refine⟨_,(Aj (Av (Dn (Rz (by rfl)) (by rfl) T.n_dict Mj (Ab (Aw8 (Cn (N':=["place","number","prime"]) (cap:=[none,none,some 1]) (by rfl) (by kernel_rfl) (S6 (pv 0)) (fun _ _ _ _=>(Hn (K:=K) (n:=2) (by rfl) (Bt (Aq (i:=0) Ba0 (by rfl) (by first | exact Or.inl rfl | exact Or.inr rfl)) (Bt (Aq (i:=1) Ba0 (by rfl) (by first | exact Or.inl rfl | exact Or.inr rfl)) Hh)))) (fun _ _ _ _=>(D9 (Ao Ta (Az Bh (pv 1) (pv 2)) Ai (Ay _)))) (fun _ _ _ _=>(Ck (Ab (pv 0) (Ab (Az Bh (pv 1) (pv 2)) Af)))))) Af)))),?_⟩
   refine .inr ⟨a,cK ms,ha,fun hnd o=>?_⟩
   refine⟨_,rfl,a,o,cK ms,rfl,Ad,fun D hD=>?_⟩
   obtain⟨hD0,nDa⟩:=Zn hD
   refine Rp (d:=a) (o:=o) (kvs:=cK ms) (fun i zs τ H1=>∃ ts:List Addr,zs=ts.map V.ref/\ts.length=(modI p (ms.take i)).length/\(∀ (j:Nat) t,ts[j]?=some t->∃ q:Int × Int,(modI p (ms.take i))[j]?=some q/\H1 t=some (.tup [.int q.1,.int q.2])/\t≠D)/\H1 a=some (.frz o (.dK (cK ms)))/\H1 D=some (.lst zs)/\(∀ c q,c≠a->H c=some q->H1 c=some q)/\∃ o1 o2,τ=[o1,o2,some (.int p)])
    ⟨[],rfl,rfl,(fun j t z=>by simp at z),?_,Ad,?_,none,none,rfl⟩ (fun i zs τ H1 _ ⟨_,_,_,_,e,_⟩=>e) ?_ ?_
   . rw [Ah nDa.symm];exact Ad
   . intro c q n1 e2
     rw [Ah (Ap e2 hD0),Ah n1]
     exact e2
   . rintro i kk x zs τ H1 pr hx ⟨ts,rfl,htl,hts,ha1,hD1,hk1,o1,o2,rfl⟩ hpr
     obtain⟨q,hq,rfl,rfl⟩:=An8 hx
     have hlt:i<ms.length:=(List.getElem?_eq_some_iff.mp hq).1
     have mt:=mod_take (p:=p) hq
     have ml:(modI p (ms.take i)).length<=1000:=Nat.le_trans (A32 ..) (by rw [List.length_take];omega)
     have sp:Same H1 (upd H1 pr (.tup [.int q.1,.int q.2])):=Same.new hpr
     refine⟨pr,_,rfl,.of Ad,rfl,_,_,rfl,_,_,rfl,rfl,?_⟩
     refine⟨_,rfl,_,rfl,_,_,rfl,rfl,hp,rfl,_,rfl,?_⟩
     refine ite2 (fun h1=>?_) (fun h1=>?_)
     . have e:¬q.2%p=0:=by simpa using h1
       rw [if_neg e] at mt
       refine⟨_,rfl,_,rfl,_,rfl,_,_,rfl,rfl,hp,A4 (by simp),fun t ht=>?_⟩
       have st:=sp.trans (Same.new (o:=.tup [.int q.1,.int (q.2%p)]) ht)
       have ntD:t≠D:=(Ap (sp _ _ hD1) ht).symm
       refine⟨st _ _ hD1,Cc (by rw [List.length_map];omega),ts++[t],by simp,by rw [mt];simp [htl],fun j t' e2=>?_,?_,Ad,fun c r n1 e2=>?_,_,_,rfl⟩
       . rcases C6 e2 with ⟨hj,e2⟩|⟨hj,rfl⟩
         . obtain⟨p',h1',h2',h3'⟩:=hts j t' e2
           exact ⟨p',by rw [mt,List.getElem?_append_left (by omega)];exact h1',by rw [Ah h3'];exact st _ _ h2',h3'⟩
         . refine⟨(q.1,q.2%p),by rw [mt,hj,htl];simp,?_,ntD⟩
           rw [Ah ntD]
           exact Ad
       . rw [Ah nDa.symm];exact st _ _ ha1
       . have:=hk1 c r n1 e2
         rw [Ah (fun z=>by rw [z,hD0] at e2;cases e2)]
         exact st _ _ this
     . have e:q.2%p=0:=by simpa using h1
       rw [if_pos e] at mt
       rw [←mt] at htl hts
       refine⟨ts,rfl,htl,fun j t e2=>?_,sp _ _ ha1,sp _ _ hD1,fun c r n1 e2=>sp _ _ (hk1 c r n1 e2),_,_,rfl⟩
       obtain⟨p',h1',h2',h3'⟩:=hts j t e2
       exact ⟨p',h1',sp _ _ h2',h3'⟩
   . rintro zs τ H1 ⟨ts,rfl,htl,hts,ha1,hD1,hk1,_⟩
     rw [Mw,List.take_length] at htl hts
     refine⟨ha1,D,ts,cK (modI p ms),rfl,(by rw [Ah nDa];exact hD1),(by rw [Mw];exact htl),fun i t e2=>?_,fun E hE=>?_⟩
     . obtain⟨q,h1',h2',_⟩:=hts i t e2
       refine⟨(.inl q.1,.int q.2),?_,?_⟩
       . unfold cK
         rw [List.getElem?_map,h1']
         rfl
       . have nta:t≠a:=Fw h2' ha1 (fun z=>by cases z)
         rw [Ah nta]
         exact h2'
     . have s1:Same H (upd H1 a (.dK (cK ms))):=fun c q e2=>by
        by_cases z:c=a
        . subst z
          rw [ha] at e2
          cases e2
          exact Ad
        . rw [Ah z];exact hk1 c q z e2
       refine k E _ (s1.free hE) (s1.trans (Same.new hE)) ?_
       rw [Ad,Hm _ [] (by rw [List.nil_append];exact Tk.mpr (Ax6 hnd0)),List.nil_append]
abbrev Bq:Stmt:=Oz (top 35) 6
theorem Oa:FnScope ["self"] ["self"] (Ag Bq):=⟨rfl,rfl,rfl,by decide +kernel,rfl,by decide +kernel,by decide +kernel⟩
theorem Ol {f:Addr}{fd:FuncData} (F:Fun K "pairs" "Growth.pairs" Bq f fd) (T:Txt K mg Ac) :FnOk P w K mg base CX0 1 f fd ["self"] (N5 K Ac):=by
 refine F.ok Oa (fun vs H Q E h=>?_) (fun Bu A outer s H vs Q E hr h=>?_)
 . obtain⟨g,pc,sh,ed,en,p,xs,es,ss,bs,rfl,x,k⟩:=h
   rfl
 . obtain⟨g,pc,sh,ed,en,p,xs,es,ss,bs,rfl,x,k⟩:=h
   have hu8:(A.deeper (PyProof.Rows.envOfC "Growth.pairs" (Ag Bq) s.heap.objs.size f Bu)).units+8<cLine:=by have:=hr.units;omega
   refine⟨_,(Aj (Av (Cn (N':=["birth","edge","self"]) (cap:=[none,none,some 0]) (by rfl) (by kernel_rfl) (Ad2 (K:=K) (by rfl) T.n_enumerate (Ab (By (K:=K) (pv 0)) Af)) (fun _ _ _ _=>(Hn (K:=K) (n:=2) (by rfl) (Bt (Aq (i:=0) A99 (by rfl) (by first | exact Or.inl rfl | exact Or.inr rfl)) (Bt (Aq (i:=1) A99 (by rfl) (by first | exact Or.inl rfl | exact Or.inr rfl)) Hh)))) (fun _ _ _ _=>(D9 (Ao Do (An Pu (by rfl) T.n_len PySem.boot_len (Ab (pv 1) Af)) Ai (Ay _)))) (fun _ _ _ _=>(Ck (Ab (pv 0) (Ab (Ar8 (u1 hu8) (By (K:=K) (pv 2)) (pv 0) ⟨by rfl,by rfl,by rfl,by rfl⟩) Af))))))),?_⟩
   obtain⟨dx,fs,hg,l1,l2,l3,l4,l5,lm⟩:=x.ob
   obtain⟨ds,hed,dl,dg⟩:=x.eds.ex
   have le40:es.length<=40:=by rw [x.gw.le];exact x.gw.n40
   refine⟨_,rfl,g,Ac,dx,fs,_,rfl,hg,T.cl_Growth,T.na_Growth_edges,l4,ed,rfl,⟨_,.of hed⟩,fun D hD=>?_⟩
   refine Wa (K:=K) (a:=ed) (xs:=ds.map V.ref) (fun i ys τ G=>i<=es.length/\Same H G/\G D=some (.lst ys)/\Reps K G ys (Jk es bs i)/\∃ o1 o2,τ=[o1,o2,some (.ref g)])
    ⟨Nat.zero_le _,Same.new hD,Ad,rfl,none,none,rfl⟩ (fun i ys τ G _ ⟨_,g1,_⟩=>.of (g1 _ _ hed)) ?_ ?_
   . rintro i y ys τ G pr hy ⟨hi,g1,hDG,ry,o1,o2,rfl⟩ hp
     have hid:i<ds.length:=by have:=(List.getElem?_eq_some_iff.mp hy).1;simpa using this
     have hie:i<es.length:=by omega
     have hem:es[i]?=some (es.getD i []):=Py hie
     have hdi:ds[i]?=some ds[i]:=List.getElem?_eq_getElem hid
     obtain⟨hde,nde⟩:=dg i _ _ hdi hem
     have hyv:y=.ref ds[i]:=by
      rw [List.getElem?_map,hdi] at hy
      exact (Option.some.inj hy).symm
     subst hyv
     have yl:ys.length<=i:=by have:=ry.length;rw [this];exact f6 ..
     have sp:=Same.new (o:=.tup [.int (i:Int),.ref ds[i]]) hp
     have g2:=g1.trans sp
     refine⟨pr,_,rfl,.of Ad,rfl,_,_,rfl,_,_,rfl,rfl,?_⟩
     generalize upd G pr (.tup [.int (i:Int),.ref ds[i]])=G1 at sp g2 ⊢
     have hDG1:=sp _ _ hDG
     refine⟨_,rfl,_,cK (es.getD i []),rfl,g2 _ _ hde,rfl,_,rfl,?_⟩
     rw [Mw]
     have bs_:=v9 es i
     refine ite2 (fun h1=>?_) (fun h1=>?_)
     . have h2:es.getD i []=[]:=by
        have:((es.getD i []).length:Int)=0:=by simpa using h1
        exact List.length_eq_zero_iff.mp (by omega)
       rw [if_pos h2] at bs_
       refine⟨_,rfl,_,rfl,g,Ac,dx,fs,_,rfl,g2 _ _ hg,T.cl_Growth,T.na_Growth_enders,l5,en,rfl,.inl ⟨_,.inl (g2 _ _ x.ens)⟩,_,rfl,(lookI bs (i:Int)).map V.int,.inl ⟨cK bs,.inl (i:Int),.inl (g2 _ _ x.ens),rfl,(R3 _ _).symm⟩,?_⟩
       rw [A44]
       refine⟨A4 (by simp),fun t ht=>?_⟩
       have st:=Same.new (o:=.tup [.int (i:Int),endV bs (i:Int)]) ht
       have et:upd G1 t (.tup [.int (i:Int),endV bs (i:Int)]) t=some (.tup [.int (i:Int),endV bs (i:Int)]):=Ad
       generalize upd G1 t (.tup [.int (i:Int),endV bs (i:Int)])=G2 at st et ⊢
       have hDG2:=st _ _ hDG1
       refine⟨hDG2,Cc (by omega),by omega,(g2.trans st).turn hD,Ad,?_,_,_,rfl⟩
       have e:Jk es bs (i+1)=Jk es bs i++[Lo bs i]:=by unfold Jk;rw [bs_,List.map_append];rfl
       rw [e]
       refine Reps.t (Mp.lst hDG2) ?_ (Reps.append (Reps.same (sp.trans st) ry) ⟨_,_,rfl,⟨t,_,rfl,.of et,⟨_,_,rfl,rfl,⟨_,_,rfl,A02 _ _,rfl⟩⟩⟩,rfl⟩)
       have:=Ln bs (D3 es i++[i])
       rw [List.map_append] at this
       exact this
     . have h2:¬es.getD i []=[]:=fun z=>h1 (by rw [z];rfl)
       rw [if_neg h2] at bs_
       refine⟨by omega,g2,hDG1,?_,_,_,rfl⟩
       have e:Jk es bs (i+1)=Jk es bs i:=by unfold Jk;rw [bs_]
       rw [e]
       exact Reps.same sp ry
   . rintro ys τ G ⟨hi,g1,hDG,ry,_⟩
     rw [List.length_map,dl] at ry
     exact k D ys G hD g1 hDG ry
abbrev D7:Stmt:=top 36
theorem Xl:FnScope ["pair","stage"] ["pair","stage"] (Ag D7):=⟨rfl,rfl,rfl,by decide +kernel,rfl,by decide +kernel,by decide +kernel⟩
theorem Xv {f:Addr}{fd:FuncData} (F:Fun K "is_alive" "is_alive" D7 f fd) (T:Txt K mg Ac) :FnOk P w K mg base CX0 1 f fd ["pair","stage"] (N2 K):=by
 refine F.ok Xl (fun vs H Q E h=>?_) (fun Bu A outer s H vs Q E hr h=>?_)
 . obtain⟨t,bs,j,st,rfl,ht,k⟩:=h
   rfl
 . obtain⟨t,bs,j,st,rfl,ht,k⟩:=h
   refine⟨_,(Aj (Av (U8 (Lk Na (Ba (A7 (K:=K)) (pv 0) Ai (fun _ _=>rfl)) (pv 1) (Ay _)) (Oi (A89 (Lk Ax0 (Ba (A7 (K:=K)) (pv 0) Ai (fun _ _=>rfl)) U7 (Ay _)) (Oi (Lk A93 (Ba (A7 (K:=K)) (pv 0) Ai (fun _ _=>rfl)) (pv 1) (Ay _)))))))),?_⟩
   refine⟨_,rfl,t,_,_,_,rfl,rfl,ht,at0 _ _,_,rfl,_,_,rfl,rfl,_,rfl,?_⟩
   unfold aliveB at k
   refine ite2 (fun h=>?_) (fun h=>?_)
   rotate_left
   . rw [Bool.eq_false_iff.mpr h] at k
     simpa using k
   rw [h] at k
   refine⟨_,rfl,t,_,_,_,rfl,rfl,ht,at1 _ _ _,rfl,_,rfl,?_⟩
   unfold endV at ht ⊢
   cases hl:lookI bs (j:Int) with
   | none =>
     rw [hl] at k
     refine ite2 (fun h2=>?_) (fun h2=>absurd (by simp) h2)
     exact k
   | some e =>
     rw [hl] at k ht
     refine ite2 (fun h2=>absurd h2 (by simp)) (fun h2=>?_)
     refine⟨_,rfl,t,_,_,_,rfl,rfl,ht,at1 _ _ _,_,rfl,_,_,rfl,rfl,?_⟩
     exact k
abbrev E6:Stmt:=top 38
theorem b8:FnScope ["_law_found"] ["_law_found"] (Ag E6):=⟨rfl,rfl,rfl,by decide +kernel,rfl,by decide +kernel,by decide +kernel⟩
theorem f8 {f:Addr}{fd:FuncData} (F:Fun K "_law_whole" "_law_whole" E6 f fd) (T:Txt K mg Ac) :FnOk P w K mg base CX0 1 f fd ["_law_found"] (Ik K):=by
 refine F.ok b8 (fun vs H Q E h=>?_) (fun Bu A outer s H vs Q E hr h=>?_)
 . obtain⟨x,d,rfl,hx,k⟩:=h
   rfl
 . obtain⟨x,d,rfl,hx,k⟩:=h
   refine⟨_,(Aj (Av (U8 (An (Es (K:=K)) (by rfl) T.n_isinstance Bn (Ab (pv 0) (Ab (Lm (v:=.ty "int") rfl T.n_int boot_intT rfl) Af))) (Oi (Aw7 (An (Es (K:=K)) (by rfl) T.n_isinstance Bn (Ab (pv 0) (Ab (Lm (v:=.ty "bool") rfl T.n_bool R4 rfl) Af)))))))),?_⟩
   refine⟨_,rfl,_,_,d,rfl,.inl rfl,hx,_,rfl,?_⟩
   refine ite2 (fun e=>?_) (fun e=>?_)
   . refine⟨_,rfl,_,_,d,rfl,.inr (.inl rfl),hx,_,rfl,?_⟩
     have e2:En d=!isD "bool" d:=by unfold En;rw [e];rfl
     rw [e2] at k
     exact k
   . have e2:En d=false:=by unfold En;simp [e]
     rw [e2] at k
     exact k
abbrev Dc:Stmt:=top 39
theorem Ux:FnScope ["_law_script","_law_k"] ["_law_script","_law_k"] (Ag Dc):=⟨rfl,rfl,rfl,by decide +kernel,rfl,by decide +kernel,by decide +kernel⟩
theorem Vb {f:Addr}{fd:FuncData} (F:Fun K "_law_cell_at" "_law_cell_at" Dc f fd) (T:Txt K mg Ac) :FnOk P w K mg base CX0 1 f fd ["_law_script","_law_k"] (Gz K):=by
 refine F.ok Ux (fun vs H Q E h=>?_) (fun Bu A outer s H vs Q E hr h=>?_)
 . obtain⟨a,ns,k,rfl,hS,h0,hl,kq⟩:=h
   rfl
 . obtain⟨a,ns,k,rfl,hS,h0,hl,kq⟩:=h
   refine⟨_,(Ae (Bi (Ao Na (pv 1) (An (Ak (K:=K)) (by rfl) T.n_len PySem.boot_len (Ab (pv 0) Af)) (Ay _)) (Aj (Av (Ba (A3 (K:=K)) (pv 0) (pv 1) (fun _ _=>rfl)))) Ax)
    (Aj (Av Ai))),?_⟩
   refine⟨_,rfl,_,rfl,a,_,rfl,.inl hS,_,_,rfl,rfl,_,rfl,?_⟩
   refine ite2 (fun h1=>?_) (fun h1=>?_)
   . have h2:k<(ns.length:Int):=by simpa using h1
     have e:atI (ns.map V.int) k=some (.int (Po ns k)):=by
      obtain⟨j,rfl⟩:=Int.eq_ofNat_of_zero_le h0
      refine Co ?_
      have hj:j<ns.length:=by omega
      rw [List.getElem?_map,List.getElem?_eq_getElem hj]
      simp [Po,hj]
     exact ⟨_,rfl,_,rfl,a,_,k,_,rfl,rfl,hS,e,kq⟩
   . have h2:¬k<(ns.length:Int):=by simpa using h1
     have e:Po ns k=0:=by
      unfold Po
      have:ns.length<=k.toNat:=by omega
      simp [this]
     rw [e] at kq
     exact kq
abbrev E9:Stmt:=top 40
theorem c6:FnScope ["_law_piece"] ["_law_piece"] (Ag E9):=⟨rfl,rfl,rfl,by decide +kernel,rfl,by decide +kernel,by decide +kernel⟩
theorem g6 {f:Addr}{fd:FuncData} (F:Fun K "_law_level" "_law_level" E9 f fd) (T:Txt K mg Ac) :FnOk P w K mg base CX0 1 f fd ["_law_piece"] (Bg K):=by
 refine F.ok c6 (fun vs H Q E h=>?_) (fun Bu A outer s H vs Q E hr h=>?_)
 . obtain⟨x,ds,rfl,hx,k⟩:=h
   rfl
 . obtain⟨x,ds,rfl,hx,k⟩:=h
   refine⟨_,(Aj (Av (An (Wj (by rfl)) (by rfl) T.n_max Id (Ab Ai (Ab (Az Gf (An (Ak (K:=K)) (by rfl) T.n_len PySem.boot_len (Ab (pv 0) Af)) Ai) Af))))),?_⟩
   obtain⟨p,us,e,hq,hl⟩:∃ (p:Addr) (us:List V),x=.ref p/\(SqL K H p us\/SqT K H p us)/\us.length=ds.length:=by
    rcases hx with ⟨p,us,e,hq,r⟩|⟨p,us,e,hq,r⟩
    . exact ⟨p,us,e,.inl hq,r.length⟩
    . exact ⟨p,us,e,.inr hq,r.length⟩
   subst e
   refine⟨_,rfl,p,us,rfl,hq,_,_,rfl,rfl,_,_,rfl,?_⟩
   rw [hl]
   rw [show (if ((ds.length:Nat):Int)-1 > 0 then ((ds.length:Nat):Int)-1 else 0)=levI ds.length by unfold levI;split<;>split<;>omega]
   exact k
abbrev E8:Stmt:=top 41
theorem c5:FnScope ["_law_pieces","_law_faces","_law_face","_law_i"] ["_law_pieces","_law_faces","_law_face"] (Ag E8):=⟨rfl,rfl,rfl,by decide +kernel,rfl,by decide +kernel,by decide +kernel⟩
theorem j7:(["_law_pieces","_law_faces","_law_face","_law_i"]:List Str).Nodup:=by decide +kernel
theorem g5 {f:Addr}{fd:FuncData} (F:Fun K "_law_meets" "_law_meets" E8 f fd) (T:Txt K mg Ac) :FnOk P w K mg base CX0 1 f fd ["_law_pieces","_law_faces","_law_face"] (Kh K):=by
 refine F.ok c5 (fun vs H Q E h=>?_) (fun Bu A outer s H vs Q E hr h=>?_)
 . obtain⟨a,v,xs,fs,f0,rfl,hL,hv,f1,f2,hg,hf4,hcase,k⟩:=h
   rfl
 . obtain⟨a,v,xs,fs,f0,rfl,hL,hv,f1,f2,hg,hf4,hcase,k⟩:=h
   refine⟨_,(Ae (Bi (Ao Do (An (Ak (K:=K)) (by rfl) T.n_len PySem.boot_len (Ab (Ba (A3 (K:=K)) (pv 0) (pv 2) (fun _ _=>rfl)) Af)) Ai (Ay _)) (Aj (Av J0)) Ax)
    (Ae (Ce PassesOwn.never rfl (B4 (by rfl) T.n_range (Ab (An (Ak (K:=K)) (by rfl) T.n_len PySem.boot_len (Ab (pv 1) Af)) Af)) (Aq (i:=3) j7 (by rfl) (by first | exact Or.inl rfl | exact Or.inr rfl)) (Aj (Bi (Ao Ta (Ba (A7 (K:=K)) (Ba (A3 (K:=K)) (pv 0) (pv 2) (fun _ _=>rfl)) (pv 3) (fun _ _=>rfl)) (Ba (A7 (K:=K)) (Ba (A3 (K:=K)) (pv 0) (Ba (A7 (K:=K)) (pv 1) (pv 3) (fun _ _=>rfl)) (fun _ _=>rfl)) (Az Gf (An (Ak (K:=K)) (by rfl) T.n_len PySem.boot_len (Ab (pv 1) Af)) Ai) (fun _ _=>rfl)) (Ay _)) (Aj (Av J0)) Ax)))
    (Aj (Av J0)))),?_⟩
   obtain⟨xu,vx,hxq,hvx,tvx⟩:=LT.get hL f1 f2
   obtain⟨ax,rfl,sqx⟩:=TI.sq tvx
   obtain⟨af,rfl,sqf⟩:=TI.sq hv
   refine⟨_,rfl,_,rfl,a,xu,_,_,rfl,rfl,hxq,hvx,ax,_,rfl,.inr sqx,rfl,_,rfl,?_⟩
   rw [List.length_map]
   refine ite2 (fun h1=>?_) (fun h1=>?_)
   . have hz:(xs.getD f0.toNat []).length=0:=by
      have:((xs.getD f0.toNat []).length:Int)=0:=by simpa using h1
      omega
     have e:meetsB xs fs f0=true:=by unfold meetsB;rw [decide_eq_true hz];rfl
     rw [e] at k
     exact k
   have hne:¬(xs.getD f0.toNat []).length=0:=fun z=>h1 (by rw [z];rfl)
   obtain⟨c1,c2⟩:=hcase.resolve_left hne
   have em:meetsB xs fs f0=(List.range fs.length).all fun i=>decide ((xs.getD f0.toNat []).getD i 0=(xs.getD (fs.getD i 0).toNat []).getD (fs.length-1) 0):=by unfold meetsB;rw [decide_eq_false hne];rfl
   refine⟨_,rfl,af,_,rfl,.inr sqf,_,rfl,by rw [List.length_map];omega,by rw [List.length_map];omega,?_⟩
   rw [List.length_map]
   refine B6 (lo:=0) (n:=fs.length) (fun i σ G=>∃ o3,σ=[some (.ref a),some (.ref af),some (.int f0),o3]/\H=G/\∀ i',i'<i->(xs.getD f0.toNat []).getD i' 0=(xs.getD (fs.getD i' 0).toNat []).getD (fs.length-1) 0) ⟨_,rfl,rfl,fun i' h=>absurd h (by omega)⟩ ?_ ?_
   . rintro i σ G hi ⟨o3,rfl,rfl,hall⟩
     rw [show (0:Int)+(i:Int)=(i:Int) by omega]
     have hgm:=Cu (d:=0) hi
     obtain⟨g0,g1⟩:=hg _ hgm
     have c3:=c2 _ hgm
     have hatf:atI (fs.map V.int) (i:Int)=some (.int (fs.getD i 0)):=by
      have:=My (sp:=fs) (x:=(i:Int)) (by omega) (by omega)
      rwa [Int.toNat_natCast] at this
     have hatx:atI ((xs.getD f0.toNat []).map V.int) (i:Int)=some (.int ((xs.getD f0.toNat []).getD i 0)):=by
      have:=My (sp:=xs.getD f0.toNat []) (x:=(i:Int)) (by omega) (by omega)
      rwa [Int.toNat_natCast] at this
     have hatg:atI ((xs.getD (fs.getD i 0).toNat []).map V.int) ((fs.length:Int)-1)=some (.int ((xs.getD (fs.getD i 0).toNat []).getD (fs.length-1) 0)):=by
      have:=My (sp:=xs.getD (fs.getD i 0).toNat []) (x:=(fs.length:Int)-1) (by omega) (by omega)
      rwa [show ((fs.length:Int)-1).toNat=fs.length-1 by omega] at this
     obtain⟨gu,vg,hgq,hvg,tvg⟩:=LT.get hL g0 g1
     obtain⟨ag,rfl,sqg⟩:=TI.sq tvg
     refine⟨_,rfl,_,rfl,a,xu,_,_,rfl,rfl,hxq,hvx,_,rfl,ax,_,_,_,rfl,rfl,sqx,hatx,_,rfl,_,rfl,_,rfl,af,_,_,_,rfl,rfl,sqf,hatf,a,gu,_,_,rfl,rfl,hgq,hvg,_,rfl,af,_,rfl,.inr sqf,_,_,rfl,rfl,ag,_,_,_,rfl,rfl,sqg,(by rw [List.length_map];exact hatg),rfl,_,rfl,?_⟩
     by_cases he:(xs.getD f0.toNat []).getD i 0=(xs.getD (fs.getD i 0).toNat []).getD (fs.length-1) 0
     . refine ifN (eqI he) ?_
       refine⟨_,rfl,rfl,fun i' hi'=>?_⟩
       by_cases z:i'=i
       . subst z;exact he
       . exact hall i' (by omega)
     . refine ifP (neI he) ?_
       have e:meetsB xs fs f0=false:=by
        rw [em,List.all_eq_false]
        exact ⟨i,List.mem_range.mpr hi,by simpa using he⟩
       rw [e] at k
       exact k
   . rintro σ G ⟨o3,rfl,rfl,hall⟩
     have e:meetsB xs fs f0=true:=by
      rw [em,List.all_eq_true]
      exact fun i hi=>decide_eq_true (hall i (List.mem_range.mp hi))
     rw [e] at k
     exact k
abbrev Io:Stmt:=top 43
theorem Ab4:FnScope ["_law_cell","_law_j","_law_many","_law_mixed"] ["_law_cell","_law_j","_law_many"] (Ag Io):=⟨rfl,rfl,rfl,by decide +kernel,rfl,by decide +kernel,by decide +kernel⟩
theorem Ag2:(["_law_cell","_law_j","_law_many","_law_mixed"]:List Str).Nodup:=by decide +kernel
theorem Ae1 {f:Addr}{fd:FuncData} (F:Fun K "_law_pick" "_law_pick" Io f fd) (T:Txt K mg Ac) :FnOk P w K mg base CX0 1 f fd ["_law_cell","_law_j","_law_many"] (Ki K):=by
 refine F.ok Ab4 (fun vs H Q E h=>?_) (fun Bu A outer s H vs Q E hr h=>?_)
 . obtain⟨c,j,m,rfl,hm,k⟩:=h
   rfl
 . obtain⟨c,j,m,rfl,hm,k⟩:=h
   refine⟨_,(Ae (As (i:=3) Ag2 (by rfl) (by first | exact Or.inl rfl | exact Or.inr rfl) (Az op_mulX (Az Dw (Az Bh (pv 0) Ai) Ai) (Ba (A7 (K:=K)) (Ck (Ab Ai (Ab Ai (Ab Ai (Ab Ai Af))))) (Az Bh (pv 1) Ai) (fun _ _=>rfl))))
    (Aj (Av (Az Bh (Az Bh (pv 3) (Ba (A7 (K:=K)) (Ck (Ab Ai (Ab Ai (Ab Ai (Ab Ai Af))))) (Az Bh (pv 1) Ai) (fun _ _=>rfl))) (pv 2))))),?_⟩
   have p4:(0:Int)<4:=by decide
   have c0:=Int.emod_nonneg c (show (1000003:Int)≠0 by decide)
   have c1:=Int.emod_lt_of_pos c (show (0:Int)<1000003 by decide)
   have j0:=Int.emod_nonneg j (show (4:Int)≠0 by decide)
   have j1:=Int.emod_lt_of_pos j p4
   have four:∀ a b c d:Int,0<a->0<b->0<c->0<d->a<100000->b<100000->c<100000->d<100000->∃ x:Int,atI [V.int a,V.int b,V.int c,V.int d] (j%4)=some (.int x)/\0<x/\x<100000:=fun a b c d a0 b0 c0 d0 a1 b1 c1 d1=>by
    rcases (show j%4=0\/j%4=1\/j%4=2\/j%4=3 by omega) with e | e | e | e<;>rw [e]
    . exact ⟨a,rfl,a0,a1⟩
    . exact ⟨b,rfl,b0,b1⟩
    . exact ⟨c,rfl,c0,c1⟩
    . exact ⟨d,rfl,d0,d1⟩
   refine Ar (fun σ' H'=>∃ x:Int,σ'=[some (.int c),some (.int j),some (.int m),some (.int x)]/\Same H H') ?_ fun key=>?_
   rotate_left
   . refine⟨_,rfl,_,_,rfl,rfl,(by show (0:Int)<1000003;decide),_,_,rfl,rfl,A4 (by simp),fun T1 hT1=>?_⟩
     obtain⟨x,hx,x0,x1⟩:=four 48271 69621 16807 39373 (by decide) (by decide) (by decide) (by decide) (by decide) (by decide) (by decide) (by decide)
     refine⟨_,rfl,_,_,rfl,rfl,p4,T1,_,_,_,rfl,rfl,.of Ad,hx,_,_,rfl,rfl,Ko (by omega) (by omega),?_⟩
     exact key _ _ ⟨_,rfl,Same.new hT1⟩
   rintro _ H1 ⟨x,rfl,s1⟩
   refine⟨_,rfl,A4 (by simp),fun T1 hT1=>?_⟩
   obtain⟨y,hy,y0,y1⟩:=four 65537 50021 99991 32749 (by decide) (by decide) (by decide) (by decide) (by decide) (by decide) (by decide) (by decide)
   refine⟨_,rfl,_,_,rfl,rfl,p4,T1,_,_,_,rfl,rfl,.of Ad,hy,_,_,rfl,rfl,y0,_,rfl,_,_,rfl,rfl,hm,?_⟩
   exact k _ _ (s1.trans (Same.new hT1)) (Int.emod_nonneg _ (by omega)) (Int.emod_lt_of_pos _ hm)
abbrev Cz:Stmt:=top 46
theorem S0:FnScope ["_law_word","_law_family","_law_size","_law_faces","_law_i"] ["_law_word","_law_family"] (Ag Cz):=⟨rfl,rfl,rfl,by decide +kernel,rfl,by decide +kernel,by decide +kernel⟩
theorem Fx:(["_law_word","_law_family","_law_size","_law_faces","_law_i"]:List Str).Nodup:=by decide +kernel
theorem Td {f:Addr}{fd:FuncData} (F:Fun K "_law_faces_by" "_law_faces_by" Cz f fd) (T:Txt K mg Ac) :FnOk P w K mg base CX0 1 f fd ["_law_word","_law_family"] (Dz K):=by
 refine F.ok S0 (fun vs H Q E h=>?_) (fun Bu A outer s H vs Q E hr h=>?_)
 . obtain⟨v,w,fam,rfl,hv,hw,k⟩:=h
   rfl
 . obtain⟨v,w,fam,rfl,hv,hw,k⟩:=h
   refine⟨_,(Ae (As (i:=2) Fx (by rfl) (by first | exact Or.inl rfl | exact Or.inr rfl) (An (Ak (K:=K)) (by rfl) T.n_len PySem.boot_len (Ab (pv 0) Af)))
    (Ae (Bi (Ao Do (pv 1) Ai (Ay _)) (Ae (Bi (Ao Na (pv 2) Ai (Ay _)) (Aj (Av (Dv Af))) Ax)
    (Aj (Av (Cn (N':=["_law_i","_law_word"]) (cap:=[none,some 0]) (by rfl) (by kernel_rfl) (B4 (by rfl) T.n_range (Ab (pv 2) Af)) (fun _ _ _ _=>(Aq (i:=0) Ba9 (by rfl) (by first | exact Or.inl rfl | exact Or.inr rfl))) (fun _ _ _ _=>Dd) (fun _ _ _ _=>(Az (Kr (K:=K)) (Di (F1 (K:=K)) (pv 1) Ft (Eb (pv 0))) (Di (F1 (K:=K)) (pv 1) (Eb (Az Dw (pv 0) Ai)) Ft))))))) Ax)
    (Ae (Bi (Ao Do (pv 2) Ai (Ay _)) (Aj (Av (Dv Af))) Ax)
    (Ae (Bi (Ao Na (pv 1) Ai (Ay _)) (Ae (Bi (Ao Do (pv 2) Ai (Ay _)) (Aj (Av (Dv (Ab (Ck Af) (Ab (Ck Af) Af))))) Ax)
    (Aj (Av (Cn (N':=["_law_letter"]) (cap:=[none]) (by rfl) (by kernel_rfl) (Lz (K:=K) (pv 0)) (fun _ _ _ _=>(Aq (i:=0) Bb0 (by rfl) (by first | exact Or.inl rfl | exact Or.inr rfl))) (fun _ _ _ _=>Dd) (fun _ _ _ _=>(Ck (Ab (pv 0) Af))))))) Ax)
    (Ae (As (i:=3) Fx (by rfl) (by first | exact Or.inl rfl | exact Or.inr rfl) (Dv (Ab (Di (F1 (K:=K)) (pv 0) (Eb Ai) Ft) Af)))
    (Ae (Ce PassesOwn.never rfl (B4 (by rfl) T.n_range (Ab (Az Gf (pv 2) Ai) Af)) (Aq (i:=4) Fx (by rfl) (by first | exact Or.inl rfl | exact Or.inr rfl)) (Aj (B9 (Gj (K:=K) PySem.F.plainAttrs_list PySem.F.slot_list_append PySem.F.type_list_append B5 (pv 3) (Ab (Az (Kr (K:=K)) (Az (Kr (K:=K)) (Di (F1 (K:=K)) (pv 0) Ft (Eb (pv 4))) (Ck (Ab (Az Bh (Az Dw (Ba (A7 (K:=K)) (pv 0) (pv 4) (fun _ _=>rfl)) (Ba (A7 (K:=K)) (pv 0) (Az Dw (pv 4) Ai) (fun _ _=>rfl))) (pv 1)) Af))) (Di (F1 (K:=K)) (pv 0) (Eb (Az Dw (pv 4) Ai)) Ft)) Af)))))
    (Ae (B9 (Gj (K:=K) PySem.F.plainAttrs_list PySem.F.slot_list_append PySem.F.type_list_append B5 (pv 3) (Ab (Di (F1 (K:=K)) (pv 0) Ft (Eb (Az Gf (pv 2) Ai))) Af)))
    (Aj (Av (pv 3)))))))))),?_⟩
   obtain⟨aw,rfl,hq⟩:=hv.sq
   have hlen:(w.map V.int).length=w.length:=List.length_map ..
   have hl4:w.length<=4:=by rcases hw with z | z | z<;>omega
   refine⟨_,rfl,aw,_,rfl,.inr hq,?_⟩
   rw [hlen]
   refine⟨_,rfl,rfl,_,rfl,?_⟩
   refine ite2 (fun h1=>?_) (fun h1=>?_)
   . have hf:fam=0:=by simpa using h1
     subst hf
     refine⟨_,rfl,_,_,rfl,rfl,_,rfl,?_⟩
     refine ite2 (fun h2=>?_) (fun h2=>?_)
     . have h3:w.length<2:=by have:(w.length:Int)<2:=by simpa using h2
                              omega
       refine⟨Nat.zero_le _,fun p hp=>?_⟩
       refine k p [] _ hp (Same.new hp) Ad ?_
       have e:Al w 0=[]:=by unfold Al;rw [if_pos rfl,if_pos h3]
       rw [e]
       rfl
     . have h3:¬w.length<2:=by have:¬(w.length:Int)<2:=by simpa using h2
                               omega
       have e:Al w 0=(List.range w.length).map fun i=>w.take i++w.drop (i+1):=by unfold Al;rw [if_pos rfl,if_neg h3]
       rw [e] at k
       refine⟨_,rfl,_,rfl,by omega,by omega,fun D hD=>?_⟩
       refine J9 (fun i ys τ H1=>i<=w.length/\Same H H1/\H1 D=some (.lst ys)/\Reps K H1 ys (((List.range i).map fun i=>w.take i++w.drop (i+1)).map tI)/\∃ o,τ=[o,some (.ref aw)])
        ⟨Nat.zero_le _,Same.new hD,Ad,rfl,none,rfl⟩ ?_ ?_
       . rintro i ys τ H1 hi ⟨hi1,s1,hD1,r1,o,rfl⟩
         have hi2:i<w.length:=by simpa using hi
         have hq1:SqT K H1 aw (w.map V.int):=s1.seqT hq
         refine⟨_,rfl,_,rfl,_,rfl,aw,_,rfl,hq1,?_,fun p1 H2 s2 q2=>?_⟩
         . rw [hlen];rintro ⟨_,z⟩
           rw [show ((0:Int)+(i:Int))=((i:Nat):Int) by omega,HT.sIx_nat] at z
           omega
         refine⟨_,rfl,_,rfl,_,_,rfl,rfl,_,rfl,aw,_,rfl,s2.seqT hq1,?_,fun p2 H3 s3 q3=>?_⟩
         . rw [hlen];rintro ⟨z,_⟩
           rw [show ((0:Int)+(i:Int)+1)=((i+1:Nat):Int) by omega,HT.sIx_nat] at z
           omega
         rw [show ((0:Int)+(i:Int))=((i:Nat):Int) by omega,Kv] at q2
         rw [show ((0:Int)+(i:Int)+1)=((i+1:Nat):Int) by omega,Nr] at q3
         refine⟨p1,p2,_,_,rfl,rfl,s3.seqT q2,q3,?_,fun p H4 s4 q4=>?_⟩
         . refine A4 ?_
           simp only [List.length_take,List.length_drop,List.length_map]
           omega
         have s14:Same H1 H4:=(s2.trans s3).trans s4
         have hD4:H4 D=some (.lst ys):=s14 _ _ hD1
         have t4:TI K H4 (.ref p) (w.take i++w.drop (i+1)):=by
          refine TI.mk ?_
          rw [List.map_append,List.map_take,List.map_drop]
          exact q4
         have r4:Reps K H4 ys (((List.range i).map fun i=>w.take i++w.drop (i+1)).map tI):=Reps.same s14 r1
         have hyl:ys.length=i:=by have:=r1.length;simpa using this
         refine⟨hD4,Cc (by omega),by omega,(s1.trans s14).turn hD,Ad,?_,_,rfl⟩
         rw [List.range_succ,List.map_append]
         exact Fs hD4 r4 t4
       . rintro ys τ H1 ⟨_,s1,hD1,r1,_⟩
         rw [show ((w.length:Int)).toNat=w.length by omega] at r1
         exact k D ys H1 hD s1 hD1 r1
   . have hf:¬fam=0:=by simpa using h1
     refine⟨_,rfl,rfl,_,rfl,?_⟩
     refine ite2 (fun h2=>?_) (fun h2=>?_)
     . have h3:w.length=0:=by simpa using h2
       refine⟨Nat.zero_le _,fun p hp=>?_⟩
       refine k p [] _ hp (Same.new hp) Ad ?_
       have e:Al w fam=[]:=by unfold Al;rw [if_neg hf,if_pos h3]
       rw [e]
       rfl
     have h3:¬w.length=0:=by simpa using h2
     refine⟨_,rfl,_,_,rfl,rfl,_,rfl,?_⟩
     refine ite2 (fun h4=>?_) (fun h4=>?_)
     . have h5:fam<0:=by simpa using h4
       refine⟨_,rfl,rfl,_,rfl,?_⟩
       refine ite2 (fun h6=>?_) (fun h6=>?_)
       . have h7:w.length=1:=by
          have:(w.length:Int)=1:=by simpa using h6
          omega
         have e:Al w fam=[[],[]]:=by unfold Al;rw [if_neg hf,if_neg h3,if_pos h5,if_pos h7]
         rw [e] at k
         refine⟨Nat.zero_le _,fun p1 hp1=>⟨Nat.zero_le _,fun p2 hp2=>⟨A4 (by simp),fun p hp=>?_⟩⟩⟩
         have s1:Same H (upd H p1 (.tup [])):=Same.new hp1
         have s2:Same (upd H p1 (.tup [])) (upd (upd H p1 (.tup [])) p2 (.tup [])):=Same.new hp2
         have s3:Same (upd (upd H p1 (.tup [])) p2 (.tup [])) (upd (upd (upd H p1 (.tup [])) p2 (.tup [])) p (.lst [.ref p1,.ref p2])):=Same.new hp
         have hp0:H p=none:=(s1.trans s2).free hp
         refine k p _ _ hp0 ((s1.trans s2).trans s3) Ad ?_
         have t1:TI K _ (.ref p1) []:=TI.mk (.of (s3 _ _ (s2 _ _ Ad)))
         have t2:TI K _ (.ref p2) []:=TI.mk (.of (s3 _ _ Ad))
         exact ⟨_,_,rfl,t1,_,_,rfl,t2,rfl⟩
       . have h7:¬w.length=1:=by
          have:¬(w.length:Int)=1:=by simpa using h6
          omega
         have e:Al w fam=w.map fun l=>[l]:=by unfold Al;rw [if_neg hf,if_neg h3,if_pos h5,if_neg h7]
         rw [e] at k
         refine⟨_,rfl,aw,rfl,⟨_,hq⟩,fun D hD=>?_⟩
         refine Pk (xs:=w.map V.int) (fun i ys τ H1=>i<=w.length/\Same H H1/\H1 D=some (.lst ys)/\Reps K H1 ys (((w.take i).map fun l=>[l]).map tI)/\∃ o,τ=[o])
          ⟨Nat.zero_le _,Same.new hD,Ad,rfl,none,rfl⟩ (fun i ys τ H1 _ ⟨_,s1,_⟩=>s1.seqT hq) ?_ ?_
         . rintro i x ys τ H1 hx ⟨hi1,s1,hD1,r1,o,rfl⟩
           have hi2:i<w.length:=by have:=(List.getElem?_eq_some_iff.mp hx).1;simpa using this
           have hx2:x=.int w[i]:=by
            rw [List.getElem?_map,List.getElem?_eq_getElem hi2] at hx
            simpa using hx.symm
           subst hx2
           refine⟨_,rfl,A4 (by simp),fun p hp=>?_⟩
           have s2:Same H1 (upd H1 p (.tup [.int w[i]])):=Same.new hp
           have hD4:=s2 _ _ hD1
           have t4:TI K (upd H1 p (.tup [.int w[i]])) (.ref p) [w[i]]:=TI.mk (.of Ad)
           have r4:=Reps.same s2 r1
           have hyl:ys.length=i:=by have:=r1.length;simp at this;omega
           refine⟨hD4,Cc (by omega),by omega,(s1.trans s2).turn hD,Ad,?_,_,rfl⟩
           have e2:(w.take (i+1)).map (fun l=>[l])=(w.take i).map (fun l=>[l])++[[w[i]]]:=by
            rw [List.take_succ,List.getElem?_eq_getElem hi2,List.map_append]
            rfl
           rw [e2]
           exact Fs hD4 r4 t4
         . rintro ys τ H1 ⟨_,s1,hD1,r1,_⟩
           rw [hlen,List.take_length] at r1
           exact k D ys H1 hD s1 hD1 r1
     have h5:¬fam<0:=by simpa using h4
     have hpos:0<fam:=by omega
     have e:Al w fam=w.drop 1::((List.range (w.length-1)).map fun i=>w.take i++[(w.getD i 0+w.getD (i+1) 0)%fam]++w.drop (i+2))++[w.take (w.length-1)]:=by
      unfold Al;rw [if_neg hf,if_neg h3,if_neg h5]
     rw [e] at k
     refine⟨_,rfl,_,rfl,aw,_,rfl,hq,?_,fun p1 H1 s1 q1=>⟨A4 (by simp),fun D hD=>?_⟩⟩
     . rw [hlen];rintro ⟨z,_⟩
       rw [show (1:Int)=((1:Nat):Int) by omega,HT.sIx_nat] at z
       omega
     rw [show (1:Int)=((1:Nat):Int) by omega,Nr] at q1
     have hD0:H D=none:=s1.free hD
     have s2:Same H1 (upd H1 D (.lst [.ref p1])):=Same.new hD
     have t1:TI K (upd H1 D (.lst [.ref p1])) (.ref p1) (w.drop 1):=by
      refine TI.mk ?_
      rw [List.map_drop]
      exact s2.seqT q1
     have hn:((w.length:Int)-1).toNat=w.length-1:=by omega
     refine⟨_,rfl,_,_,rfl,rfl,_,rfl,by omega,by omega,B6 (lo:=0) (n:=((w.length:Int)-1).toNat)
      (fun i σ H2=>∃ (ys:List V) (o:Option V),σ=[some (.ref aw),some (.int fam),some (.int w.length),some (.ref D),o]/\Same H H2/\H2 D=some (.lst ys) ∧
        Reps K H2 ys ((w.drop 1::((List.range i).map fun i=>w.take i++[(w.getD i 0+w.getD (i+1) 0)%fam]++w.drop (i+2))).map tI))
      ⟨_,none,rfl,s1.trans s2,Ad,⟨_,_,rfl,t1,rfl⟩⟩ ?_ ?_⟩
     . rintro i σ H2 hi ⟨ys,o,rfl,sH,hD2,r2⟩
       rw [hn] at hi
       have hq2:SqT K H2 aw (w.map V.int):=sH.seqT hq
       have c0:((0:Int)+(i:Int))=((i:Nat):Int):=by omega
       have c1:((0:Int)+(i:Int)+1)=((i+1:Nat):Int):=by omega
       have c2:((0:Int)+(i:Int)+2)=((i+2:Nat):Int):=by omega
       have at0:atI (w.map V.int) ((0:Int)+(i:Int))=some (.int (w.getD i 0)):=by
        rw [c0]
        refine Co ?_
        rw [List.getElem?_map,List.getElem?_eq_getElem (by omega)]
        simp [show i<w.length by omega]
       have at1:atI (w.map V.int) ((0:Int)+(i:Int)+1)=some (.int (w.getD (i+1) 0)):=by
        rw [c1]
        refine Co ?_
        rw [List.getElem?_map,List.getElem?_eq_getElem (by omega)]
        simp [show i+1<w.length by omega]
       refine⟨_,rfl,.inl ⟨rfl,_,SqL.of hD2⟩,?_⟩
       refine⟨_,rfl,_,rfl,_,rfl,aw,_,rfl,hq2,?_,fun pa Ha sa qa=>?_⟩
       . rw [hlen];rintro ⟨_,z⟩
         rw [c0,HT.sIx_nat] at z
         omega
       rw [c0,Kv] at qa
       refine⟨_,rfl,_,rfl,aw,_,_,_,rfl,rfl,sa.seqT hq2,at0,_,rfl,_,rfl,_,_,rfl,rfl,aw,_,_,_,rfl,rfl,sa.seqT hq2,at1,_,_,rfl,rfl,_,rfl,_,_,rfl,rfl,hpos,A4 (by simp),fun pb hb=>?_⟩
       have sb:Same Ha (upd Ha pb (.tup [.int ((w.getD i 0+w.getD (i+1) 0)%fam)])):=Same.new hb
       refine⟨pa,pb,_,_,rfl,rfl,sb.seqT qa,.of Ad,A4 (by simp;omega),fun pc Hc sc qc=>?_⟩
       have sac:=(sa.trans sb).trans sc
       refine⟨_,rfl,_,rfl,_,_,rfl,rfl,_,rfl,aw,_,rfl,sac.seqT hq2,?_,fun pd Hd sd qd=>?_⟩
       . rw [hlen];rintro ⟨z,_⟩
         rw [c2,HT.sIx_nat] at z
         omega
       rw [c2,Nr] at qd
       refine⟨pc,pd,_,_,rfl,rfl,sd.seqT qc,qd,A4 (by simp;omega),fun pe He se qe=>?_⟩
       have sall:=(sac.trans sd).trans se
       have hDe:=sall _ _ hD2
       have te:TI K He (.ref pe) (w.take i++[(w.getD i 0+w.getD (i+1) 0)%fam]++w.drop (i+2)):=by
        refine TI.mk ?_
        simp only [List.map_append,List.map_take,List.map_drop,List.map_cons,List.map_nil]
        exact qe
       have hyl:ys.length=i+1:=by have:=r2.length;simpa using this
       refine⟨D,_,_,rfl,rfl,hDe,Cc (by omega),?_⟩
       refine⟨_,_,rfl,(sH.trans sall).turn hD0,Ad,?_⟩
       have e3:(w.drop 1::((List.range (i+1)).map fun i=>w.take i++[(w.getD i 0+w.getD (i+1) 0)%fam]++w.drop (i+2))) =
        (w.drop 1::((List.range i).map fun i=>w.take i++[(w.getD i 0+w.getD (i+1) 0)%fam]++w.drop (i+2)))++[w.take i++[(w.getD i 0+w.getD (i+1) 0)%fam]++w.drop (i+2)]:=by
        rw [List.range_succ,List.map_append]
        rfl
       rw [e3]
       exact Fs hDe (Reps.same sall r2) te
     . rintro σ H2 ⟨ys,o,rfl,sH,hD2,r2⟩
       rw [hn] at r2
       have hq2:SqT K H2 aw (w.map V.int):=sH.seqT hq
       have c1:((w.length:Int)-1)=((w.length-1:Nat):Int):=by omega
       refine⟨_,rfl,.inl ⟨rfl,_,SqL.of hD2⟩,_,rfl,_,rfl,_,_,rfl,rfl,_,rfl,aw,_,rfl,hq2,?_,fun pa Ha sa qa=>?_⟩
       . rw [hlen];rintro ⟨_,z⟩
         rw [c1,HT.sIx_nat] at z
         omega
       rw [c1,Kv] at qa
       have hDa:=sa _ _ hD2
       have ta:TI K Ha (.ref pa) (w.take (w.length-1)):=by
        refine TI.mk ?_
        rw [List.map_take]
        exact qa
       have hyl:ys.length=w.length:=by have:=r2.length;simp at this;omega
       refine⟨D,_,_,rfl,rfl,hDa,Cc (by omega),?_⟩
       refine⟨_,rfl,?_⟩
       exact k D _ _ hD0 ((sH.trans sa).turn hD0) Ad (Fs hDa (Reps.same sa r2) ta)
abbrev Db:Stmt:=top 47
theorem Uw:FnScope ["_law_cell","_law_family","_law_letters","_law_size","_law_base","_law_word","_law_k"] ["_law_cell","_law_family","_law_letters"] (Ag Db):=⟨rfl,rfl,rfl,by decide +kernel,rfl,by decide +kernel,by decide +kernel⟩
theorem A9:(["_law_cell","_law_family","_law_letters","_law_size","_law_base","_law_word","_law_k"]:List Str).Nodup:=by decide +kernel
theorem Va {f:Addr}{fd:FuncData} (F:Fun K "_law_word_by" "_law_word_by" Db f fd) (T:Txt K mg Ac) :FnOk P w K mg base CX0 1 f fd ["_law_cell","_law_family","_law_letters"] (Gy K):=by
 refine F.ok Uw (fun vs H Q E h=>?_) (fun Bu A outer s H vs Q E hr h=>?_)
 . obtain⟨c,fam,letters,rfl,hl0,hl1,hf,k⟩:=h
   rfl
 . obtain⟨c,fam,letters,rfl,hl0,hl1,hf,k⟩:=h
   refine⟨_,(Ae (As (i:=0) A9 (by rfl) (by first | exact Or.inl rfl | exact Or.inr rfl) (Az Bh (pv 0) Ai))
    (Ae (As (i:=3) A9 (by rfl) (by first | exact Or.inl rfl | exact Or.inr rfl) (Az Bh (pv 0) Ai))
    (Ae (As (i:=4) A9 (by rfl) (by first | exact Or.inl rfl | exact Or.inr rfl) (pv 2))
    (Ae (Bi (Ao Do (pv 1) Ai (Ay _)) (Aj (As (i:=3) A9 (by rfl) (by first | exact Or.inl rfl | exact Or.inr rfl) (Az Dw (pv 3) Ai))) Ax)
    (Ae (Bi (PW.pt (Of (Ao Na (pv 1) Ai (Ay _)) (Jx (Ao Ta (pv 3) Ai (Ay _))))) (Aj (As (i:=3) A9 (by rfl) (by first | exact Or.inl rfl | exact Or.inr rfl) Ai)) Ax)
    (Ae (Bi (Ao Xr (pv 1) Ai (Ay _)) (Aj (As (i:=4) A9 (by rfl) (by first | exact Or.inl rfl | exact Or.inr rfl) (pv 1))) Ax)
    (Ae (As (i:=0) A9 (by rfl) (by first | exact Or.inl rfl | exact Or.inr rfl) (Az Fv (pv 0) Ai))
    (Ae (As (i:=5) A9 (by rfl) (by first | exact Or.inl rfl | exact Or.inr rfl) (Ck Af))
    (Ae (Ce PassesOwn.never rfl (B4 (by rfl) T.n_range (Ab (pv 3) Af)) (Aq (i:=6) A9 (by rfl) (by first | exact Or.inl rfl | exact Or.inr rfl)) (Ae (As (i:=5) A9 (by rfl) (by first | exact Or.inl rfl | exact Or.inr rfl) (Az (Kr (K:=K)) (pv 5) (Ck (Ab (Az Bh (pv 0) (pv 4)) Af))))
    (Aj (As (i:=0) A9 (by rfl) (by first | exact Or.inl rfl | exact Or.inr rfl) (Az Fv (pv 0) (pv 4))))))
    (Aj (Av (pv 5)))))))))))),?_⟩
   have m1:0<=c%1000000%4:=Int.emod_nonneg _ (by decide)
   have m2:c%1000000%4<4:=Int.emod_lt_of_pos _ (by decide)
   refine⟨_,rfl,_,_,rfl,rfl,(by show (0:Int)<1000000;decide),?_⟩
   refine⟨_,rfl,_,_,rfl,rfl,(by show (0:Int)<4;decide),?_⟩
   refine⟨_,rfl,?_⟩
   have fork:(fam=0)\/(fam<0/\c%1000000%4=1)\/(fam<0/\¬c%1000000%4=1)\/0<fam:=by omega
   have nofam:¬fam=0->¬(decide (V.int fam=V.int 0)=true):=fun z q=>z (by simpa using q)
   have isfam:fam=0->decide (V.int fam=V.int 0)=true:=fun z=>by simp [z]
   have hb0:0<letters:=hl0
   have hb1:letters<1073741824:=by omega
   rcases fork with hz|⟨hz,h1⟩|⟨hz,h1⟩ | hz
   . refine⟨_,rfl,rfl,_,rfl,?_⟩
     refine ifP (isfam hz) ?_
     refine⟨_,rfl,_,_,rfl,rfl,?_⟩
     refine⟨_,rfl,_,_,rfl,rfl,_,rfl,?_⟩
     refine ifN (by simp;omega) ?_
     refine ifN (by simp) ?_
     refine⟨_,rfl,_,_,rfl,rfl,_,rfl,?_⟩
     refine ifN (by simp;omega) ?_
     have hW:∀ w:List Int,w.length=(c%1000000%4+1).toNat->Word fam w:=fun w e=>.inl ⟨hz,by omega,by omega⟩
     refine⟨_,rfl,_,_,rfl,rfl,⟨by decide,by decide⟩,Nat.zero_le _,fun p0 hp0=>?_⟩
     refine⟨_,rfl,_,rfl,by omega,by omega,?_⟩
     refine B6 (lo:=0) (n:=(c%1000000%4+1:Int).toNat)
      (fun i σ H2=>∃ (c':Int) (v:V) (o:Option V) (w:List Int),σ=[some (.int c'),some (.int fam),some (.int letters),some (.int (c%1000000%4+1)),some (.int letters),some v,o]/\Same H H2/\TI K H2 v w/\w.length=i)
      ⟨_,_,none,[],rfl,Same.new hp0,TI.mk (.of Ad),rfl⟩ ?_ ?_
     . rintro i σ H2 hi ⟨c',v,o,w,rfl,s2,tv,hwl⟩
       obtain⟨a,rfl,hqa⟩:=tv.sq
       refine⟨_,rfl,_,rfl,_,rfl,_,_,rfl,rfl,hb0,A4 (by simp),fun pt hpt=>?_⟩
       have s3:Same H2 (upd H2 pt (.tup [.int (c'%letters)])):=Same.new hpt
       refine⟨a,pt,_,_,rfl,rfl,s3.seqT hqa,.of Ad,A4 (by simp;omega),fun p3 H3 s4 q3=>?_⟩
       refine⟨_,rfl,_,rfl,_,_,rfl,rfl,⟨hb0,hb1⟩,?_⟩
       refine⟨_,_,_,w++[c'%letters],rfl,(s2.trans s3).trans s4,TI.mk ?_,by simp [hwl]⟩
       rw [List.map_append]
       exact q3
     . rintro σ H2 ⟨c',v,o,w,rfl,s2,tv,hwl⟩
       exact ⟨_,rfl,k v H2 w s2 tv (hW w hwl)⟩
   . refine⟨_,rfl,rfl,_,rfl,?_⟩
     refine ifN (nofam (by omega)) ?_
     refine⟨_,rfl,_,_,rfl,rfl,_,rfl,?_⟩
     refine ifP (by simp;omega) ?_
     refine⟨_,rfl,rfl,_,rfl,?_⟩
     refine ifN (eqI h1) ?_
     refine⟨_,rfl,_,_,rfl,rfl,_,rfl,?_⟩
     refine ifN (by simp;omega) ?_
     have hW:∀ w:List Int,w.length=(c%1000000%4).toNat->Word fam w:=fun w e=>.inr (.inl ⟨hz,by omega⟩)
     refine⟨_,rfl,_,_,rfl,rfl,⟨by decide,by decide⟩,Nat.zero_le _,fun p0 hp0=>?_⟩
     refine⟨_,rfl,_,rfl,by omega,by omega,?_⟩
     refine B6 (lo:=0) (n:=(c%1000000%4:Int).toNat)
      (fun i σ H2=>∃ (c':Int) (v:V) (o:Option V) (w:List Int),σ=[some (.int c'),some (.int fam),some (.int letters),some (.int (c%1000000%4)),some (.int letters),some v,o]/\Same H H2/\TI K H2 v w/\w.length=i)
      ⟨_,_,none,[],rfl,Same.new hp0,TI.mk (.of Ad),rfl⟩ ?_ ?_
     . rintro i σ H2 hi ⟨c',v,o,w,rfl,s2,tv,hwl⟩
       obtain⟨a,rfl,hqa⟩:=tv.sq
       refine⟨_,rfl,_,rfl,_,rfl,_,_,rfl,rfl,hb0,A4 (by simp),fun pt hpt=>?_⟩
       have s3:Same H2 (upd H2 pt (.tup [.int (c'%letters)])):=Same.new hpt
       refine⟨a,pt,_,_,rfl,rfl,s3.seqT hqa,.of Ad,A4 (by simp;omega),fun p3 H3 s4 q3=>?_⟩
       refine⟨_,rfl,_,rfl,_,_,rfl,rfl,⟨hb0,hb1⟩,?_⟩
       refine⟨_,_,_,w++[c'%letters],rfl,(s2.trans s3).trans s4,TI.mk ?_,by simp [hwl]⟩
       rw [List.map_append]
       exact q3
     . rintro σ H2 ⟨c',v,o,w,rfl,s2,tv,hwl⟩
       exact ⟨_,rfl,k v H2 w s2 tv (hW w hwl)⟩
   . refine⟨_,rfl,rfl,_,rfl,?_⟩
     refine ifN (nofam (by omega)) ?_
     refine⟨_,rfl,_,_,rfl,rfl,_,rfl,?_⟩
     refine ifP (by simp;omega) ?_
     refine⟨_,rfl,rfl,_,rfl,?_⟩
     refine ifP (neI h1) ?_
     refine⟨_,rfl,_,_,rfl,rfl,_,rfl,?_⟩
     refine ifN (by simp;omega) ?_
     have hW:∀ w:List Int,w.length=(3:Int).toNat->Word fam w:=fun w e=>.inr (.inl ⟨hz,.inr (.inr e)⟩)
     refine⟨_,rfl,_,_,rfl,rfl,⟨by decide,by decide⟩,Nat.zero_le _,fun p0 hp0=>?_⟩
     refine⟨_,rfl,_,rfl,by omega,by omega,?_⟩
     refine B6 (lo:=0) (n:=(3:Int).toNat)
      (fun i σ H2=>∃ (c':Int) (v:V) (o:Option V) (w:List Int),σ=[some (.int c'),some (.int fam),some (.int letters),some (.int (3)),some (.int letters),some v,o]/\Same H H2/\TI K H2 v w/\w.length=i)
      ⟨_,_,none,[],rfl,Same.new hp0,TI.mk (.of Ad),rfl⟩ ?_ ?_
     . rintro i σ H2 hi ⟨c',v,o,w,rfl,s2,tv,hwl⟩
       obtain⟨a,rfl,hqa⟩:=tv.sq
       refine⟨_,rfl,_,rfl,_,rfl,_,_,rfl,rfl,hb0,A4 (by simp),fun pt hpt=>?_⟩
       have s3:Same H2 (upd H2 pt (.tup [.int (c'%letters)])):=Same.new hpt
       refine⟨a,pt,_,_,rfl,rfl,s3.seqT hqa,.of Ad,A4 (by simp;omega),fun p3 H3 s4 q3=>?_⟩
       refine⟨_,rfl,_,rfl,_,_,rfl,rfl,⟨hb0,hb1⟩,?_⟩
       refine⟨_,_,_,w++[c'%letters],rfl,(s2.trans s3).trans s4,TI.mk ?_,by simp [hwl]⟩
       rw [List.map_append]
       exact q3
     . rintro σ H2 ⟨c',v,o,w,rfl,s2,tv,hwl⟩
       exact ⟨_,rfl,k v H2 w s2 tv (hW w hwl)⟩
   . refine⟨_,rfl,rfl,_,rfl,?_⟩
     refine ifN (nofam (by omega)) ?_
     refine⟨_,rfl,_,_,rfl,rfl,_,rfl,?_⟩
     refine ifN (by simp;omega) ?_
     refine ifN (by simp) ?_
     refine⟨_,rfl,_,_,rfl,rfl,_,rfl,?_⟩
     refine ifP (by simp;omega) ?_
     refine⟨_,rfl,?_⟩
     have hW:∀ w:List Int,w.length=(c%1000000%4).toNat->Word fam w:=fun w e=>.inr (.inr ⟨hz,by omega⟩)
     have hb0:0<fam:=hz
     have hb1:fam<1073741824:=by omega
     refine⟨_,rfl,_,_,rfl,rfl,⟨by decide,by decide⟩,Nat.zero_le _,fun p0 hp0=>?_⟩
     refine⟨_,rfl,_,rfl,by omega,by omega,?_⟩
     refine B6 (lo:=0) (n:=(c%1000000%4:Int).toNat)
      (fun i σ H2=>∃ (c':Int) (v:V) (o:Option V) (w:List Int),σ=[some (.int c'),some (.int fam),some (.int letters),some (.int (c%1000000%4)),some (.int fam),some v,o]/\Same H H2/\TI K H2 v w/\w.length=i)
      ⟨_,_,none,[],rfl,Same.new hp0,TI.mk (.of Ad),rfl⟩ ?_ ?_
     . rintro i σ H2 hi ⟨c',v,o,w,rfl,s2,tv,hwl⟩
       obtain⟨a,rfl,hqa⟩:=tv.sq
       refine⟨_,rfl,_,rfl,_,rfl,_,_,rfl,rfl,hb0,A4 (by simp),fun pt hpt=>?_⟩
       have s3:Same H2 (upd H2 pt (.tup [.int (c'%fam)])):=Same.new hpt
       refine⟨a,pt,_,_,rfl,rfl,s3.seqT hqa,.of Ad,A4 (by simp;omega),fun p3 H3 s4 q3=>?_⟩
       refine⟨_,rfl,_,rfl,_,_,rfl,rfl,⟨hb0,hb1⟩,?_⟩
       refine⟨_,_,_,w++[c'%fam],rfl,(s2.trans s3).trans s4,TI.mk ?_,by simp [hwl]⟩
       rw [List.map_append]
       exact q3
     . rintro σ H2 ⟨c',v,o,w,rfl,s2,tv,hwl⟩
       exact ⟨_,rfl,k v H2 w s2 tv (hW w hwl)⟩
abbrev E7:Stmt:=top 51
theorem b9:FnScope ["_law_cell","_law_primes"] ["_law_cell"] (Ag E7):=⟨rfl,rfl,rfl,by decide +kernel,rfl,by decide +kernel,by decide +kernel⟩
theorem j6:(["_law_cell","_law_primes"]:List Str).Nodup:=by decide +kernel
theorem f9 {f:Addr}{fd:FuncData} (F:Fun K "_law_prime" "_law_prime" E7 f fd) (T:Txt K mg Ac) :FnOk P w K mg base CX0 1 f fd ["_law_cell"] (Jv K):=by
 refine F.ok b9 (fun vs H Q E h=>?_) (fun Bu A outer s H vs Q E hr h=>?_)
 . obtain⟨c,rfl,k⟩:=h
   rfl
 . obtain⟨c,rfl,k⟩:=h
   refine⟨_,(Ae (Aq8 (N':=["_law_n"]) (cap:=[none]) (xc:="_law_n") (i:=1) j6 (by rfl) (by first | exact Or.inl rfl | exact Or.inr rfl) (by rfl) (by kernel_rfl) (fun _ _=>rfl) (fun _=>rfl) (Km (by rfl) T.n_range (Ab Ai (Ab Ai Af))) (fun _ _ _ _ _=>(Aq (i:=0) Ba6 (by rfl) (by first | exact Or.inl rfl | exact Or.inr rfl))) (fun _ _ _ _ _=>(D9 (Ao Do (An (Ak (K:=K)) (by rfl) T.n_len PySem.boot_len (Ab (Cn (N':=["_law_k","_law_n"]) (cap:=[none,some 0]) (by rfl) (by kernel_rfl) (Km (by rfl) T.n_range (Ab Ai (Ab (pv 0) Af))) (fun _ _ _ _=>(Aq (i:=0) Ba5 (by rfl) (by first | exact Or.inl rfl | exact Or.inr rfl))) (fun _ _ _ _=>(D9 (Ao Do (Az Bh (pv 1) (pv 0)) Ai (Ay _)))) (fun _ _ _ _=>(pv 0))) Af)) Ai (Ay _)))) (fun _ _ _ _ _=>(pv 0)))
    (Ae (Bi (Ao Do (Az Bh (pv 0) Ai) Ai (Ay _)) (Aj (Av (Ba (A3 (K:=K)) (pv 1) (Az Bh (Az Fv (pv 0) Ai) Ai) (fun _ _=>rfl)))) Ax)
    (Aj (Av (Ba (A3 (K:=K)) (pv 1) (Az Bh (Az Fv (pv 0) Ai) Ai) (fun _ _=>rfl)))))),?_⟩
   refine Ar (fun σ' H'=>∃ (P:Addr),σ'=[some (.int c),some (.ref P)]/\Same H H'/\H' P=some (.lst ((prs 96).map V.int))) ?_ fun key=>?_
   rotate_left
   . refine⟨_,_,rfl,⟨by decide,by decide,by decide,by decide⟩,fun D hD=>?_⟩
     refine Fi (fun i ys τ H1=>i<=96/\Same H H1/\H1 D=some (.lst ys)/\ys=(prs i).map V.int/\∃ o,τ=[o])
      ⟨Nat.zero_le _,Same.new hD,Ad,rfl,none,rfl⟩ ?_ ?_
     . rintro i ys τ H1 hi ⟨_,s1,hD1,hys,o,rfl⟩
       have hi96:i<96:=hi
       refine⟨_,rfl,_,_,rfl,⟨by decide,by decide,by omega,by omega⟩,fun D2 hD2=>?_⟩
       refine Fi (fun j zs τ' H2=>j<=i/\Same H1 H2/\H2 D2=some (.lst zs)/\zs=(dvs (2+(i:Int)) j).map V.int/\∃ o,τ'=[o,some (.int (2+(i:Int)))])
        ⟨Nat.zero_le _,Same.new hD2,Ad,rfl,none,rfl⟩ ?_ ?_
       . rintro j zs τ' H2 hj ⟨_,s2,hD22,hzs,o',rfl⟩
         have hji:j<i:=by omega
         refine⟨_,rfl,_,rfl,_,_,rfl,rfl,(by show (0:Int)<2+(j:Int);omega),rfl,_,rfl,?_⟩
         have zl:zs.length<=j:=by rw [hzs,List.length_map];exact A49 ..
         refine ite2 (fun h1=>?_) (fun h1=>?_)
         . have h2:(2+(i:Int))%(2+(j:Int))=0:=by simpa using h1
           refine⟨_,rfl,hD22,Cc (by omega),by omega,s2.turn hD2,Ad,?_,_,rfl⟩
           rw [Zo,if_pos h2,List.map_append,hzs]
           rfl
         . have h2:¬(2+(i:Int))%(2+(j:Int))=0:=by simpa using h1
           refine⟨by omega,s2,hD22,?_,_,rfl⟩
           rw [Zo,if_neg h2]
           exact hzs
       . rintro zs τ' H2 ⟨_,s2,hD22,hzs,_⟩
         refine⟨D2,zs,rfl,.inl (.of hD22),rfl,_,rfl,?_⟩
         have hD3:=s2 _ _ hD1
         have yl:ys.length<=i:=by rw [hys,List.length_map];exact A06 ..
         have hz:(zs.length=0)↔isP (2+(i:Int))=true:=by
          rw [←Au7,hzs,List.length_map,show (2+(i:Int)-2).toNat=i by omega]
         refine ite2 (fun h1=>?_) (fun h1=>?_)
         . have h2:zs.length=0:=by
            have:(zs.length:Int)=0:=by simpa using h1
            omega
           refine⟨_,rfl,hD3,Cc (by omega),by omega,(s1.trans s2).turn hD,Ad,?_,_,rfl⟩
           rw [Zf,if_pos (hz.mp h2),List.map_append,hys]
           rfl
         . have h2:¬zs.length=0:=by
            intro z
            apply h1
            simp [z]
           refine⟨by omega,s1.trans s2,hD3,?_,_,rfl⟩
           rw [Zf,if_neg (fun z=>h2 (hz.mpr z))]
           exact hys
     . rintro ys τ H1 ⟨_,s1,hD1,hys,_⟩
       refine key _ _ ⟨D,rfl,s1,?_⟩
       rw [hD1,hys]
       rfl
   rintro _ H1 ⟨P,rfl,s1,hP⟩
   have at25:∀ x:Int,0<=x->x<25->∃ p:Int,atI ((prs 96).map V.int) x=some (.int p)/\p∈prs 96:=fun x c0 c1=>by
    obtain⟨j,rfl⟩:=Int.eq_ofNat_of_zero_le c0
    have hj25:j<(prs 96).length:=by rw [A84];omega
    refine⟨(prs 96)[j],?_,List.getElem_mem hj25⟩
    exact Co (j:=j) (by rw [List.getElem?_map,List.getElem?_eq_getElem hj25];rfl)
   have fin:∀ p:Int,p∈prs 96->Q (.int p) H1:=fun p hp=>by
    obtain⟨hpr,hp98⟩:=A05 hp
    exact k p H1 s1 hpr hp98
   refine⟨_,rfl,_,_,rfl,rfl,(by show (0:Int)<2;decide),rfl,_,rfl,?_⟩
   refine ite2 (fun _=>?_) (fun _=>?_)
   . obtain⟨p,hat,hp⟩:=at25 (c / 2%4) (Int.emod_nonneg _ (by decide)) (by have:=Int.emod_lt_of_pos (c / 2) (show (0:Int)<4 by decide);omega)
     exact ⟨_,rfl,_,rfl,_,_,rfl,rfl,⟨by decide,by decide⟩,_,_,rfl,rfl,(by show (0:Int)<4;decide),P,_,_,_,rfl,rfl,.of hP,hat,fin p hp⟩
   . obtain⟨p,hat,hp⟩:=at25 (c / 2%25) (Int.emod_nonneg _ (by decide)) (Int.emod_lt_of_pos (c / 2) (show (0:Int)<25 by decide))
     exact ⟨_,rfl,_,rfl,_,_,rfl,rfl,⟨by decide,by decide⟩,_,_,rfl,rfl,(by show (0:Int)<25;decide),P,_,_,_,rfl,rfl,.of hP,hat,fin p hp⟩
abbrev Im:Stmt:=top 52
theorem Ab3:FnScope ["_law_rows","_law_prime_here","_law_left","_law_many","_law_row","_law_spots","_law_at","_law_clear","_law_other"] ["_law_rows","_law_prime_here"] (Ag Im):=⟨rfl,rfl,rfl,by decide +kernel,rfl,by decide +kernel,by decide +kernel⟩
theorem Cp:(["_law_rows","_law_prime_here","_law_left","_law_many","_law_row","_law_spots","_law_at","_law_clear","_law_other"]:List Str).Nodup:=by decide +kernel
theorem Ae0 {f:Addr}{fd:FuncData} (F:Fun K "_law_rank" "_law_rank" Im f fd) (T:Txt K mg Ac) :FnOk P w K mg base CX0 1 f fd ["_law_rows","_law_prime_here"] (Sn K):=by
 refine F.ok Ab3 (fun vs H Q E h=>?_) (fun Bu A outer s H vs Q E hr h=>?_)
 . obtain⟨a,us,l,n,p,rfl,hA,hR,hl,hn,hb,hp,hp98,k⟩:=h
   rfl
 . obtain⟨a,us,l,n,p,rfl,hA,hR,hl,hn,hb,hp,hp98,k⟩:=h
   refine⟨_,(Ae (As (i:=2) Cp (by rfl) (by first | exact Or.inl rfl | exact Or.inr rfl) (pv 0))
    (Ae (As (i:=3) Cp (by rfl) (by first | exact Or.inl rfl | exact Or.inr rfl) Ai)
    (Ae (S2 PassesOwn.never (Ao Xr (An (Ak (K:=K)) (by rfl) T.n_len PySem.boot_len (Ab (pv 2) Af)) Ai (Ay _)) (Ae (As (i:=4) Cp (by rfl) (by first | exact Or.inl rfl | exact Or.inr rfl) (Ba (A3 (K:=K)) (pv 2) Ai (fun _ _=>rfl)))
    (Ae (As (i:=2) Cp (by rfl) (by first | exact Or.inl rfl | exact Or.inr rfl) (Di (To (K:=K)) (pv 2) (Eb Ai) Ft))
    (Ae (Jy (N':=["_law_at","_law_number","_law_prime_here"]) (cap:=[none,none,some 1]) (i:=5) Cp (by rfl) (by first | exact Or.inl rfl | exact Or.inr rfl) (by rfl) (by kernel_rfl) (Ad2 (K:=K) (by rfl) T.n_enumerate (Ab (pv 4) Af)) (fun _ _ _ _=>(Hn (K:=K) (n:=2) (by rfl) (Bt (Aq (i:=0) Ax2 (by rfl) (by first | exact Or.inl rfl | exact Or.inr rfl)) (Bt (Aq (i:=1) Ax2 (by rfl) (by first | exact Or.inl rfl | exact Or.inr rfl)) Hh)))) (fun _ _ _ _=>(D9 (Ao Ta (Az Bh (pv 1) (pv 2)) Ai (Ay _)))) (fun _ _ _ _=>(pv 0)))
    (Aj (Bi (Ao Xr (An (Ak (K:=K)) (by rfl) T.n_len PySem.boot_len (Ab (pv 5) Af)) Ai (Ay _)) (Ae (A83 (i:=3) Cp (by rfl) (by first | exact Or.inl rfl | exact Or.inr rfl) Ai Ay1)
    (Ae (As (i:=6) Cp (by rfl) (by first | exact Or.inl rfl | exact Or.inr rfl) (Ba (A3 (K:=K)) (pv 5) Ai (fun _ _=>rfl)))
    (Ae (As (i:=7) Cp (by rfl) (by first | exact Or.inl rfl | exact Or.inr rfl) (Dv Af))
    (Ae (Ce PassesOwn.never rfl (Bo (K:=K) (pv 2)) (Aq (i:=8) Cp (by rfl) (by first | exact Or.inl rfl | exact Or.inr rfl)) (Aj (B9 (Gj (K:=K) PySem.F.plainAttrs_list PySem.F.slot_list_append PySem.F.type_list_append B5 (pv 7) (Ab (Cn (N':=["_law_x","_law_y","_law_row","_law_at","_law_other","_law_prime_here"]) (cap:=[none,none,some 4,some 6,some 8,some 1]) (by rfl) (by kernel_rfl) (A85 (K:=K) (by rfl) T.n_zip (Ab (pv 8) (Ab (pv 4) Af))) (fun _ _ _ _=>(Hn (K:=K) (n:=2) (by rfl) (Bt (Aq (i:=0) Ax3 (by rfl) (by first | exact Or.inl rfl | exact Or.inr rfl)) (Bt (Aq (i:=1) Ax3 (by rfl) (by first | exact Or.inl rfl | exact Or.inr rfl)) Hh)))) (fun _ _ _ _=>Dd) (fun _ _ _ _=>(Az Bh (Az Gf (Az op_mulX (pv 0) (Ba (A3 (K:=K)) (pv 2) (pv 3) (fun _ _=>rfl))) (Az op_mulX (pv 1) (Ba (A3 (K:=K)) (pv 4) (pv 3) (fun _ _=>rfl)))) (pv 5)))) Af)))))
    (Aj (As (i:=2) Cp (by rfl) (by first | exact Or.inl rfl | exact Or.inr rfl) (pv 7))))))) Ax))))))
    (Aj (Av (pv 3)))))),?_⟩
   have hp2:=hp.two
   refine W6 [some (.ref a),some (.int p),some (.ref a),none,none,none,none,none,none] H (fun _ h=>⟨_,rfl,h⟩) ?_
   refine W6 [some (.ref a),some (.int p),some (.ref a),some (.int 0),none,none,none,none,none] H (fun _ h=>h) ?_
   refine Ar (fun σ' H'=>∃ (o2 o4 o5 o6 o7 o8:Option V),σ'=[some (.ref a),some (.int p),o2,some (.int (Ev p l.length l:Nat)),o4,o5,o6,o7,o8]/\Same H H') ?_ fun key=>?_
   rotate_left
   . refine⟨fun m σ G=>∃ (A:Addr) (ws:List V) (ls:List (List Int)) (many:Nat) (o4 o5 o6 o7 o8:Option V),σ=[some (.ref a),some (.int p),some (.ref A),some (.int (many:Nat)),o4,o5,o6,o7,o8]/\Same H G/\G A=some (.lst ws)/\RA G ws ls/\ls.length<=40/\RB n ls/\many+Ev p ls.length ls=Ev p l.length l/\m=ls.length,⟨_,a,us,l,0,none,none,none,none,none,rfl,Same.refl H,hA,hR,hl,hb,Nat.zero_add _,rfl⟩,?_⟩
     rintro m σ G ⟨A,ws,ls,many,o4,o5,o6,o7,o8,rfl,s1,hA1,hR1,hl1,hb1,hm1,rfl⟩
     refine⟨_,rfl,A,ws,rfl,.inl (.of hA1),_,_,rfl,rfl,_,rfl,?_⟩
     refine ite2 (fun h1=>?_) (fun h1=>?_)
     rotate_left
     . have h0:ls=[]:=by
        have:=hR1.1
        refine List.length_eq_zero_iff.mp ?_
        simp at h1
        rw [h1] at this
        exact this.symm
       subst h0
       have hm2:many=Ev p l.length l:=by simpa [Ev] using hm1
       rw [hm2]
       exact key _ _ ⟨_,_,_,_,_,_,rfl,s1⟩
     cases ls with
     | nil =>
       exfalso
       have:=hR1.1
       rw [List.length_nil] at this
       rw [this] at h1
       simp at h1
     | cons r ls =>
     obtain⟨b,ws',rfl,hrow,hR2⟩:=hR1.cons
     have hrl:=(hb1 r (List.mem_cons_self ..)).1
     have hrb:=(hb1 r (List.mem_cons_self ..)).2
     have hb2:RB n ls:=fun o ho=>hb1 o (List.mem_cons_of_mem _ ho)
     have hl2:ls.length+1<=40:=hl1
     refine⟨fun σ' G'=>∃ (A:Addr) (ws:List V) (ls':List (List Int)) (many:Nat) (o4 o5 o6 o7 o8:Option V),σ'=[some (.ref a),some (.int p),some (.ref A),some (.int (many:Nat)),o4,o5,o6,o7,o8]/\Same H G'/\G' A=some (.lst ws)/\RA G' ws ls'/\RB n ls'/\many+Ev p ls'.length ls'=Ev p l.length l/\ls'.length=ls.length,?_,?_⟩
     . rintro σ' G' ⟨A',ws1,ls',many',q4,q5,q6,q7,q8,rfl,e1,e2,e3,e4,e5,e6⟩
       exact ⟨ls'.length,by rw [e6];exact Nat.lt_succ_self _,A',ws1,ls',many',q4,q5,q6,q7,q8,rfl,e1,e2,e3,by omega,e4,e5,rfl⟩
     refine⟨_,rfl,A,_,_,_,rfl,rfl,.of hA1,Co (j:=0) rfl,?_⟩
     refine⟨_,rfl,_,rfl,A,_,rfl,.of hA1,fun C hC=>?_⟩
     have hcut:cutV (V.ref b::ws') (some 1) none=ws':=by
      rw [show (1:Int)=((1:Nat):Int) from rfl,Nr];rfl
     rw [hcut]
     have s2:Same G (upd G C (.lst ws')):=Same.new hC
     have hC2:upd G C (.lst ws') C=some (.lst ws'):=Ad
     generalize upd G C (.lst ws')=G2 at s2 hC2 ⊢
     have hrow2:=s2 _ _ hrow
     have hR3:=hR2.same s2
     refine Ar (fun σ' H'=>σ'=[some (.ref a),some (.int p),some (.ref C),some (.int (many:Nat)),some (.ref b),o5,o6,o7,o8]/\G2=H') ?_ fun key0=>key0 _ _ ⟨rfl,rfl⟩
     rintro _ _ ⟨rfl,rfl⟩
     refine Ar (fun σ' H'=>∃ Sp:Addr,σ'=[some (.ref a),some (.int p),some (.ref C),some (.int (many:Nat)),some (.ref b),some (.ref Sp),o6,o7,o8]/\Same G2 H'/\H' Sp=some (.lst ((M4 p r).map fun (j:Nat)=>V.int (j:Int)))) ?_ fun key2=>?_
     rotate_left
     . refine⟨_,rfl,b,rfl,⟨_,.of hrow2⟩,fun D hD=>?_⟩
       refine Wa (K:=K) (a:=b) (xs:=r.map V.int) (fun i ys τ G3=>i<=r.length/\Same G2 G3/\G3 D=some (.lst ys)/\ys=(Mq p r i).map (fun (j:Nat)=>V.int (j:Int))/\∃ o1 o2,τ=[o1,o2,some (.int p)])
        ⟨Nat.zero_le _,Same.new hD,Ad,rfl,none,none,rfl⟩ (fun i ys τ G3 _ ⟨_,s3,_⟩=>.of (s3 _ _ hrow2)) ?_ ?_
       . rintro i v ys τ G3 pr hv ⟨hi,s3,hD3,hys,o1,o2,rfl⟩ hpr
         have hir:i<r.length:=by have:=(List.getElem?_eq_some_iff.mp hv).1;rwa [List.length_map] at this
         have ev:v=.int (r.getD i 0):=by
          rw [List.getElem?_map,List.getElem?_eq_getElem hir] at hv
          rw [List.getD_eq_getElem?_getD,List.getElem?_eq_getElem hir]
          exact (Option.some.inj hv).symm
         subst ev
         have sp:Same G3 (upd G3 pr (.tup [.int i,.int (r.getD i 0)])):=Same.new hpr
         have hDp:=sp _ _ hD3
         have yl:ys.length<=i:=by rw [hys,List.length_map];exact Z4 ..
         refine⟨pr,_,rfl,.of Ad,rfl,_,_,rfl,_,_,rfl,rfl,?_⟩
         refine⟨_,rfl,_,rfl,_,_,rfl,rfl,(by show (0:Int)<p;omega),rfl,_,rfl,?_⟩
         refine ite2 (fun h2=>?_) (fun h2=>?_)
         . have h3:¬r.getD i 0%p=0:=by simpa using h2
           refine⟨_,rfl,hDp,Cc (by omega),hir,(s3.trans sp).turn hD,Ad,?_,_,_,rfl⟩
           rw [Nw,if_neg h3,List.map_append,hys]
           rfl
         . have h3:r.getD i 0%p=0:=by simpa using h2
           refine⟨hir,s3.trans sp,hDp,?_,_,_,rfl⟩
           rw [Nw,if_pos h3]
           exact hys
       . rintro ys τ G3 ⟨_,s3,hD3,hys,_⟩
         rw [List.length_map,Z5] at hys
         exact key2 _ _ ⟨D,rfl,s3,by rw [hD3,hys]⟩
     rintro _ G3 ⟨Sp,rfl,s3,hSp⟩
     have hC3:=s3 _ _ hC2
     have hrow3:=s3 _ _ hrow2
     have hR4:=hR3.same s3
     have s13:=(s1.trans s2).trans s3
     refine⟨_,rfl,Sp,_,rfl,.inl (.of hSp),_,_,rfl,rfl,_,rfl,?_⟩
     refine ite2 (fun h2=>?_) (fun h2=>?_)
     rotate_left
     . have hs0:M4 p r=[]:=by
        refine List.length_eq_zero_iff.mp ?_
        simpa using h2
       refine⟨C,ws',ls,many,_,_,_,_,_,rfl,s13,hC3,hR4,hb2,?_,rfl⟩
       rw [←hm1]
       exact congrArg _ (c9 hs0).symm
     obtain⟨at0,tl,hs1⟩:∃ at0 tl,M4 p r=at0::tl:=by
      cases hs:M4 p r with
      | nil=>rw [hs] at h2;simp at h2
      | cons x y=>exact ⟨x,y,rfl⟩
     obtain⟨hat,_⟩:=Ri hs1
     rw [hs1] at hSp
     refine Ar (fun σ' H'=>σ'=[some (.ref a),some (.int p),some (.ref C),some (.int ((many+1:Nat):Int)),some (.ref b),some (.ref Sp),o6,o7,o8]/\G3=H') ?_ fun key3=>?_
     rotate_left
     . refine⟨_,rfl,_,_,rfl,rfl,?_⟩
       exact key3 _ _ ⟨rfl,rfl⟩
     rintro _ _ ⟨rfl,rfl⟩
     refine Ar (fun σ' H'=>σ'=[some (.ref a),some (.int p),some (.ref C),some (.int ((many+1:Nat):Int)),some (.ref b),some (.ref Sp),some (.int (at0:Int)),o7,o8]/\G3=H') ?_ fun key3=>?_
     rotate_left
     . exact ⟨_,rfl,Sp,_,_,_,rfl,rfl,.of hSp,Co (j:=0) rfl,key3 _ _ ⟨rfl,rfl⟩⟩
     rintro _ _ ⟨rfl,rfl⟩
     refine Ar (fun σ' H'=>∃ Cl:Addr,σ'=[some (.ref a),some (.int p),some (.ref C),some (.int ((many+1:Nat):Int)),some (.ref b),some (.ref Sp),some (.int (at0:Int)),some (.ref Cl),o8]/\Same G3 H'/\G3 Cl=none/\H' Cl=some (.lst [])) ?_ fun key3=>?_
     rotate_left
     . exact ⟨A4 (by simp),fun Cl hCl=>key3 _ _ ⟨Cl,rfl,Same.new hCl,hCl,Ad⟩⟩
     rintro _ G4 ⟨Cl,rfl,s4,nCl,hCl⟩
     refine Ar (fun σ' H'=>∃ (o8:Option V) (ys:List V),σ'=[some (.ref a),some (.int p),some (.ref C),some (.int ((many+1:Nat):Int)),some (.ref b),some (.ref Sp),some (.int (at0:Int)),some (.ref Cl),o8]/\Same G3 H'/\H' Cl=some (.lst ys)/\RN H' Cl ys (ls.map (clrR p r at0))) ?_ fun key3=>?_
     rotate_left
     . refine⟨_,rfl,C,rfl,⟨_,.of (s4 _ _ hC3)⟩,?_⟩
       refine for_list (K:=K) (a:=C) (xs:=ws') (fun i σ G5=>∃ (o8:Option V) (ys:List V),σ=[some (.ref a),some (.int p),some (.ref C),some (.int ((many+1:Nat):Int)),some (.ref b),some (.ref Sp),some (.int (at0:Int)),some (.ref Cl),o8]/\Same G3 G5/\G5 Cl=some (.lst ys)/\RN G5 Cl ys ((ls.take i).map (clrR p r at0)))
        ⟨_,[],rfl,s4,hCl,RN.nil _ _⟩ (fun i σ G5 _ ⟨_,_,_,s5,_⟩=>.of (s5 _ _ hC3)) ?_ ?_
       . rintro i v σ G5 hv ⟨o8,ys,rfl,s5,hCl5,hN5⟩
         obtain⟨bo,ro,rfl,hro,hbo⟩:=hR4.getV hv
         have hil:=(List.getElem?_eq_some_iff.mp hro).1
         have hro1:=hb2 ro (List.mem_of_getElem? hro)
         have hbo5:=s5 _ _ hbo
         have hrow5:=s5 _ _ hrow3
         refine⟨_,rfl,.inl ⟨rfl,_,.of hCl5⟩,?_⟩
         have atI_o:∀ q:List Int,q.length=n->atI (q.map V.int) (at0:Int)=some (.int (q.getD at0 0)):=fun q hq=>by
          refine Co ?_
          rw [List.getElem?_map,List.getElem?_eq_getElem (by omega),List.getD_eq_getElem?_getD,List.getElem?_eq_getElem (by omega)]
          rfl
         have inb:∀ (q:List Int) (i:Nat),(∀ x∈q,-128<x/\x<128)->-128<q.getD i 0/\q.getD i 0<128:=fun q i h=>by
          rw [List.getD_eq_getElem?_getD]
          cases e:q[i]? with
          | none=>exact ⟨by decide,by decide⟩
          | some x=>exact h x (List.mem_of_getElem? e)
         refine⟨_,rfl,_,rfl,bo,b,rfl,⟨_,.of hbo5⟩,⟨_,.of hrow5⟩,fun E hE=>?_⟩
         refine Am6 (K:=K) (a:=bo) (b:=b) (xs:=ro.map V.int) (ys:=r.map V.int) (n:=n) (by rw [List.length_map,List.length_map,hro1.1,hrl,Nat.min_self]) (fun c zs τ G6=>Same G5 G6/\G6 E=some (.lst zs)/\zs=((clrR p r at0 ro).take c).map V.int/\∃ o1 o2,τ=[o1,o2,some (.ref b),some (.int (at0:Int)),some (.ref bo),some (.int p)])
          ⟨Same.new hE,Ad,rfl,none,none,rfl⟩ (fun c zs τ G6 _ ⟨s6,_⟩=>⟨.of (s6 _ _ hbo5),.of (s6 _ _ hrow5)⟩) ?_ ?_
         . rintro c x y zs τ G6 pr hx hy ⟨s6,hE6,rfl,o1,o2,rfl⟩ hpr
           rw [List.getElem?_map] at hx hy
           obtain⟨x1,hx1,rfl⟩:=Option.map_eq_some_iff.mp hx
           obtain⟨y1,hy1,rfl⟩:=Option.map_eq_some_iff.mp hy
           have sp:Same G6 (upd G6 pr (.tup [.int x1,.int y1])):=Same.new hpr
           have bx:=hro1.2 x1 (List.mem_of_getElem? hx1)
           have by1:=hrb y1 (List.mem_of_getElem? hy1)
           have hcn:c<n:=by rw [←hro1.1];exact (List.getElem?_eq_some_iff.mp hx1).1
           refine⟨pr,_,rfl,.of Ad,rfl,_,_,rfl,_,_,rfl,rfl,?_⟩
           refine⟨_,rfl,_,rfl,_,rfl,b,_,_,_,rfl,rfl,.of (sp _ _ (s6 _ _ hrow5)),atI_o r hrl,_,_,rfl,rfl,Ko (by omega) (by omega),?_⟩
           refine⟨_,rfl,_,rfl,_,rfl,bo,_,_,_,rfl,rfl,.of (sp _ _ (s6 _ _ hbo5)),atI_o ro hro1.1,_,_,rfl,rfl,Ko (by omega) (by omega),?_⟩
           refine⟨_,_,rfl,rfl,_,rfl,_,_,rfl,rfl,(by show (0:Int)<p;omega),?_⟩
           refine⟨sp _ _ hE6,Cc (by rw [List.length_map,List.length_take];omega),(s6.trans sp).turn hE,Ad,?_,_,_,rfl⟩
           have e:(clrR p r at0 ro)[c]?=some ((x1*r.getD at0 0-y1*ro.getD at0 0)%p):=by
            unfold clrR
            rw [List.getElem?_zipWith,hx1,hy1]
           rw [List.take_succ,e,List.map_append]
           rfl
         . rintro zs τ G6 ⟨s6,hE6,rfl,_⟩
           have hcl:(clrR p r at0 ro).length=n:=by unfold clrR;rw [List.length_zipWith,hro1.1,hrl,Nat.min_self]
           rw [←hcl,List.take_length] at hE6
           have hCl6:=s6 _ _ hCl5
           refine⟨Cl,_,_,rfl,rfl,hCl6,Cc (by rw [hN5.1,List.length_map,List.length_take];omega),_,_,rfl,(s5.trans s6).turn nCl,Ad,?_⟩
           have tk:ls.take (i+1)=ls.take i++[ro]:=by rw [List.take_succ,hro];rfl
           rw [tk,List.map_append]
           refine (hN5.same s6).snoc hE6 ?_
           intro z
           rw [z,hCl5] at hE
           cases hE
       . rintro σ G5 ⟨o8,ys,rfl,s5,hCl5,hN5⟩
         rw [hR4.1,List.take_length] at hN5
         exact key3 _ _ ⟨o8,ys,rfl,s5,hCl5,hN5⟩
     rintro _ G5 ⟨o8',ys,rfl,s5,hCl5,hN5⟩
     refine⟨_,rfl,Cl,ys,ls.map (clrR p r at0),many+1,_,_,_,_,_,rfl,s13.trans s5,hCl5,hN5.ra,hb2.clr hp hp98 hrl,?_,by rw [List.length_map]⟩
     have e:=c8 (l:=ls) (f:=ls.length) hs1
     rw [←hm1,List.length_map]
     show _=many+Ev p (ls.length+1) (r::ls)
     rw [e]
     omega
   rintro _ G ⟨o2,o4,o5,o6,o7,o8,rfl,s1⟩
   exact ⟨_,rfl,k G s1⟩
abbrev Bk:Stmt:=top 3
theorem Ld:FnScope ["thing","bound"] ["thing","bound"] (Ag Bk):=⟨rfl,rfl,rfl,by decide +kernel,rfl,by decide +kernel,by decide +kernel⟩
theorem Lq {f:Addr}{fd:FuncData} (F:Fun K "is_whole_below" "is_whole_below" Bk f fd) (T:Txt K mg Ac) (L5:Has P w K mg base "is_whole" ["thing"] 1 (Fo K)):FnOk P w K mg base CX0 2 f fd ["thing","bound"] (Be K):=by
 refine F.ok Ld (fun vs H Q E h=>?_) (fun Bu A outer s H vs Q E hr h=>?_)
 . obtain⟨x,d,b,rfl,hx,k⟩:=h
   rfl
 . obtain⟨x,d,b,rfl,hx,k⟩:=h
   refine⟨_,(Aj (Av (U8 (Am L5 hr (by rfl) (Ab (pv 0) Af)) (Oi (Ar9 A91 Na Ai (pv 0) (pv 1)))))),?_⟩
   refine⟨_,rfl,x,d,rfl,hx,_,rfl,?_⟩
   refine ite2 (fun e=>?_) (fun e=>?_)
   . obtain⟨i,rfl⟩:=Rh e
     cases (show x=.int i from hx)
     refine⟨_,rfl,_,_,rfl,rfl,_,rfl,?_⟩
     refine ite2 (fun e1=>?_) (fun e1=>?_)
     . refine⟨_,rfl,_,_,rfl,rfl,?_⟩
       have e2:Mx (.int i) b=decide (i<b):=by show (decide (0<=i)&&decide (i<b))=_;rw [e1];rfl
       rw [e2] at k
       exact k
     . have e2:Mx (.int i) b=false:=by show (decide (0<=i)&&decide (i<b))=_;simp at e1;simp;omega
       rw [e2] at k
       exact k
   . have e2:Mx d b=false:=by
      cases d<;>first | rfl | (exfalso;exact e rfl)
     rw [e2] at k
     exact k
abbrev Rk:Stmt:=top 12
theorem Az9:FnScope ["one","other","told","place","number"] ["one","other"] (Ag Rk):=⟨rfl,rfl,rfl,by decide +kernel,rfl,by decide +kernel,by decide +kernel⟩
theorem X4:(["one","other","told","place","number"]:List Str).Nodup:=by decide +kernel
theorem A20 {f:Addr}{fd:FuncData} (F:Fun K "plus" "plus" Rk f fd) (T:Txt K mg Ac) (Ix:Has P w K mg base "add_at" ["chain","place","number"] 1 (Gx K)):FnOk P w K mg base CX0 2 f fd ["one","other"] (W8 K):=by
 refine F.ok Az9 (fun vs H Q E h=>?_) (fun Bu A outer s H vs Q E hr h=>?_)
 . obtain⟨a,b,ms,ns,rfl,ha,hb,hm,hn,k⟩:=h
   rfl
 . obtain⟨a,b,ms,ns,rfl,ha,hb,hm,hn,k⟩:=h
   refine⟨_,(Ae (As (i:=2) X4 (by rfl) (by first | exact Or.inl rfl | exact Or.inr rfl) (Dn v7 (by rfl) T.n_dict Mj (Ab (pv 0) Af)))
    (Ae (A81 (Ce PassesOwn.never rfl (S6 (pv 1)) (Hn (K:=K) (n:=2) (by rfl) (Bt (Aq (i:=3) X4 (by rfl) (by first | exact Or.inl rfl | exact Or.inr rfl)) (Bt (Aq (i:=4) X4 (by rfl) (by first | exact Or.inl rfl | exact Or.inr rfl)) Hh))) (Aj (B9 (Am Ix hr (by rfl) (Ab (pv 2) (Ab (pv 3) (Ab (pv 4) Af))))))))
    (Aj (Av (pv 2))))),?_⟩
   refine⟨_,rfl,a,cK ms,rfl,ha,fun D hD=>?_⟩
   have nDb:b≠D:=Ap hb hD
   refine .inr ⟨b,cK ns,(by rw [Ah nDb];exact hb),fun hnd o=>?_⟩
   refine⟨_,rfl,b,o,cK ns,rfl,Ad,?_⟩
   refine Aj6 (d:=b) (o:=o) (kvs:=cK ns) (fun i σ H1=>∃ o1 o2,σ=[some (.ref a),some (.ref b),some (.ref D),o1,o2]/\H1 b=some (.frz o (.dK (cK ns)))/\H1 D=some (.dK (cK (De ms (ns.take i))))/\(∀ c q,c≠b->c≠D->H c=some q->H1 c=some q))
    ⟨none,none,rfl,Ad,?_,?_⟩ (fun i σ H1 _ ⟨_,_,_,e,_⟩=>e) ?_ ?_
   . rw [Ah nDb.symm,Ad]
     rfl
   . intro c q n1 n2 e
     rw [Ah n1,Ah n2]
     exact e
   . rintro i kk x σ H1 p hx ⟨o1,o2,rfl,hb1,hD1,hk1⟩ hp
     obtain⟨q,hq,rfl,rfl⟩:=An8 hx
     have npb:b≠p:=Ap hb1 hp
     have npD:D≠p:=Ap hD1 hp
     have hlt:i<ns.length:=(List.getElem?_eq_some_iff.mp hq).1
     refine⟨p,_,rfl,.of Ad,rfl,_,_,rfl,_,_,rfl,rfl,?_⟩
     refine⟨_,rfl,_,rfl,_,rfl,D,De ms (ns.take i),q.1,q.2,rfl,(by rw [Ah npD];exact hD1),?_,?_⟩
     . have:=Nn (ns.take i) ms
       rw [List.length_take] at this
       omega
     . refine⟨_,_,rfl,?_,?_,fun c r n1 n2 e=>?_⟩
       . rw [Ah nDb,Ah npb];exact hb1
       . rw [Ad,Ad1 hq]
       . rw [Ah n2,Ah (Ap (hk1 c r n1 n2 e) hp)]
         exact hk1 c r n1 n2 e
   . rintro σ H1 ⟨o1,o2,rfl,hb1,hD1,hk1⟩
     rw [Mw,List.take_length] at hD1
     refine⟨hb1,_,rfl,k D _ hD (fun c q e=>?_) (by rw [Ah nDb.symm];exact hD1)⟩
     by_cases z:c=b
     . subst z
       rw [hb] at e
       cases e
       exact Ad
     . rw [Ah z]
       exact hk1 c q z (Ap e hD) e
abbrev Da:Stmt:=top 28
theorem Uv:FnScope ["chain","faces","number","i","face"] ["chain","faces","number"] (Ag Da):=⟨rfl,rfl,rfl,by decide +kernel,rfl,by decide +kernel,by decide +kernel⟩
theorem Mr:(["chain","faces","number","i","face"]:List Str).Nodup:=by decide +kernel
theorem U9 {f:Addr}{fd:FuncData} (F:Fun K "add_faces" "add_faces" Da f fd) (T:Txt K mg Ac) (Ix:Has P w K mg base "add_at" ["chain","place","number"] 1 (Gx K)):FnOk P w K mg base CX0 2 f fd ["chain","faces","number"] (Gw K):=by
 refine F.ok Uv (fun vs H Q E h=>?_) (fun Bu A outer s H vs Q E hr h=>?_)
 . obtain⟨a,v,ms,fs,n,rfl,ha,hv,hm,kq⟩:=h
   rfl
 . obtain⟨a,v,ms,fs,n,rfl,ha,hv,hm,kq⟩:=h
   refine⟨_,(Aj (Ce PassesOwn.never rfl (Ar3 (K:=K) (by rfl) T.n_enumerate (Ab (pv 1) Af)) (Hn (K:=K) (n:=2) (by rfl) (Bt (Aq (i:=3) Mr (by rfl) (by first | exact Or.inl rfl | exact Or.inr rfl)) (Bt (Aq (i:=4) Mr (by rfl) (by first | exact Or.inl rfl | exact Or.inr rfl)) Hh))) (Aj (B9 (Am Ix hr (by rfl) (Ab (pv 0) (Ab (pv 4) (Ab (Zg (Ao Do (Az Bh (pv 3) Ai) Ai (Ay _)) (pv 2) (Ad3 Uo (pv 2))) Af)))))))),?_⟩
   obtain⟨af,rfl,sq⟩:=TI.sq hv
   refine⟨_,rfl,af,rfl,⟨_,sq⟩,Aj7 (K:=K) (a:=af) (xs:=fs.map V.int) (fun i σ H1=>∃ o1 o2,σ=[some (.ref a),some (.ref af),some (.int n),o1,o2]/\Ww a H H1/\H1 a=some (.dK (cK (K2 ms fs n i))))
    ⟨none,none,rfl,fun _ _ _ e=>e,ha⟩ (fun i σ H1 _ ⟨_,_,_,s1,_⟩=>SqT.x s1 ha sq) ?_ ?_⟩
   . rintro i x σ H1 p hx ⟨o1,o2,rfl,s1,ha1⟩ hp
     have hi:i<fs.length:=by have:=(List.getElem?_eq_some_iff.mp hx).1;simpa using this
     have hxv:x=.int (fs.getD i 0):=by
      rw [List.getElem?_map,List.getElem?_eq_getElem hi] at hx
      rw [List.getD_eq_getElem?_getD,List.getElem?_eq_getElem hi]
      simpa using hx.symm
     subst hxv
     have sp:Same H1 (upd H1 p (.tup [.int i,.int (fs.getD i 0)])):=Same.new hp
     have ha2:=sp _ _ ha1
     have hl:=Vo ms fs n i
     refine⟨p,_,rfl,.of Ad,rfl,_,_,rfl,_,_,rfl,rfl,?_⟩
     have fin:∀ m,m=sgn n i->Gx K [.ref a,.int (fs.getD i 0),.int m] (upd H1 p (.tup [.int i,.int (fs.getD i 0)])) (fun v H'=>∃ o1 o2,([some (.ref a),some (.ref af),some (.int n),some (.int (i:Int)),some (.int (fs.getD i 0))]:St)=[some (.ref a),some (.ref af),some (.int n),o1,o2]/\Ww a H H'/\H' a=some (.dK (cK (K2 ms fs n (i+1))))) E0:=by
      intro m hm2
      subst hm2
      refine⟨a,K2 ms fs n i,_,_,rfl,ha2,by omega,_,_,rfl,fun c q n1 e=>?_,Ad⟩
      rw [Ah n1]
      exact sp _ _ (s1 c q n1 e)
     refine⟨_,rfl,_,rfl,_,rfl,_,_,rfl,rfl,(by show (0:Int)<2;decide),rfl,_,rfl,?_⟩
     refine ite2 (fun h1=>?_) (fun h1=>?_)
     . have h2:(i:Int)%2=0:=by simpa using h1
       exact ⟨_,rfl,fin n (by unfold sgn;rw [if_pos h2])⟩
     . have h2:¬(i:Int)%2=0:=by simpa using h1
       exact ⟨_,rfl,_,rfl,fin (-n) (by unfold sgn;rw [if_neg h2])⟩
   . rintro σ H1 ⟨o1,o2,rfl,s1,ha1⟩
     rw [List.length_map] at ha1
     exact kq H1 s1 ha1
abbrev Ch:Stmt:=top 32
theorem Qd:FnScope ["number","prime"] ["number","prime"] (Ag Ch):=⟨rfl,rfl,rfl,by decide +kernel,rfl,by decide +kernel,by decide +kernel⟩
theorem Ql {f:Addr}{fd:FuncData} (F:Fun K "turned_over" "turned_over" Ch f fd) (T:Txt K mg Ac) (Dq:Has P w K mg base "shared_divisor" ["one","other"] 1 (Xa K)):FnOk P w K mg base CX0 2 f fd ["number","prime"] (Sq K):=by
 refine F.ok Qd (fun vs H Q E h=>?_) (fun Bu A outer s H vs Q E hr h=>?_)
 . obtain⟨n,p,rfl,hp,hp98,hn,k⟩:=h
   rfl
 . obtain⟨n,p,rfl,hp,hp98,hn,k⟩:=h
   refine⟨_,(Aj (Av (Az Bh (Ba (A7 (K:=K)) (Am Dq hr (by rfl) (Ab (pv 0) (Ab (pv 1) Af))) Ai (fun _ _=>rfl)) (pv 1)))),?_⟩
   have hp2:=hp.two
   refine⟨_,rfl,_,rfl,n,p,rfl,hp,hp98,hn,fun L x y H' s' hL hd=>?_⟩
   refine⟨L,_,_,_,rfl,rfl,hL,rfl,_,rfl,_,_,rfl,rfl,(by show (0:Int)<p;omega),?_⟩
   obtain⟨q1,q2,q3⟩:=As3 hp2 hd
   exact k _ H' s' q1 q2 q3
abbrev Fq:Stmt:=top 42
theorem Ab6:FnScope ["_law_pieces","_law_thing","_law_face","_law_j"] ["_law_pieces","_law_thing"] (Ag Fq):=⟨rfl,rfl,rfl,by decide +kernel,rfl,by decide +kernel,by decide +kernel⟩
theorem Vj:(["_law_pieces","_law_thing","_law_face","_law_j"]:List Str).Nodup:=by decide +kernel
theorem Ae3 {f:Addr}{fd:FuncData} (F:Fun K "_law_fits" "_law_fits" Fq f fd) (T:Txt K mg Ac) (Bz:Has P w K mg base "_law_level" ["_law_piece"] 1 (Bg K)) (Fg:Has P w K mg base "_law_meets" ["_law_pieces","_law_faces","_law_face"] 1 (Kh K)) (Ff:Has P w K mg base "_law_whole" ["_law_found"] 1 (Ik K)):FnOk P w K mg base CX0 2 f fd ["_law_pieces","_law_thing"] (Nz K):=by
 refine F.ok Ab6 (fun vs H Q E h=>?_) (fun Bu A outer s H vs Q E hr h=>?_)
 . obtain⟨a,th,e,xs,rfl,hL,hCn,hxl,hd,k⟩:=h
   rfl
 . obtain⟨a,th,e,xs,rfl,hL,hCn,hxl,hd,k⟩:=h
   have hu8:(A.deeper (PyProof.Rows.envOfC "_law_fits" (Ag Fq) s.heap.objs.size f Bu)).units+8<cLine:=by have:=hr.units;omega
   refine⟨_,(Ae (Bi (PW.pt (d3 (Hf (Ea (An (Wm (K:=K)) (by rfl) T.n_isinstance Bn (Ab (pv 1) (Ab (Lm (v:=.ty "tuple") rfl T.n_tuple Dg rfl) Af))))) (U2 (Ao (Fe (K:=K) hu8) (An (Ak (K:=K)) (by rfl) T.n_len PySem.boot_len (Ab (pv 1) Af)) (Ck (Ab Ai (Ab Ai (Ab Ai (Ab Ai Af))))) rfl)))) (Aj (Av J0)) Ax)
    (Ae (Ce PassesOwn.never rfl (Lz (K:=K) (pv 1)) (Aq (i:=2) Vj (by rfl) (by first | exact Or.inl rfl | exact Or.inr rfl)) (Ae (Bi (PW.pt (d3 (Hf (Ea (Am Ff hr (by rfl) (Ab (pv 2) Af)))) (d3 (Ao Na (pv 2) Ai (Ay _)) (U2 (Ao A93 (pv 2) (An (Ak (K:=K)) (by rfl) T.n_len PySem.boot_len (Ab (pv 0) Af)) (Ay _)))))) (Aj (Av J0)) Ax)
    (Aj (Bi (Ao Ta (Az Dw (Am Bz hr (by rfl) (Ab (Ba (A3 (K:=K)) (pv 0) (pv 2) (fun _ _=>rfl)) Af)) Ai) (Am Bz hr (by rfl) (Ab (pv 1) Af)) (Ay _)) (Aj (Av J0)) Ax))))
    (Ae (Ce PassesOwn.never rfl (B4 (by rfl) T.n_range (Ab (An (Ak (K:=K)) (by rfl) T.n_len PySem.boot_len (Ab (pv 1) Af)) Af)) (Aq (i:=3) Vj (by rfl) (by first | exact Or.inl rfl | exact Or.inr rfl)) (Aj (Bi (Hf (Ea (Am Fg hr (by rfl) (Ab (pv 0) (Ab (Di (F1 (K:=K)) (pv 1) Ft (Eb (pv 3))) (Ab (Ba (A7 (K:=K)) (pv 1) (pv 3) (fun _ _=>rfl)) Af)))))) (Aj (Av J0)) Ax)))
    (Aj (Av J0))))),?_⟩
   refine⟨_,rfl,th,"tuple",.one e,rfl,.inr (.inr (.inr (.inl rfl))),hd,_,rfl,?_⟩
   cases e with
   | nul=>exact k H (Same.refl H)
   | d d =>
     have hd:Rep K H th d:=hd
     have k:∀ H',Same H H'->Q (.bl (Em xs d)) H':=k
     cases d with
     | non=>exact k H (Same.refl H)
     | bl b=>exact k H (Same.refl H)
     | int i=>exact k H (Same.refl H)
     | str z=>exact k H (Same.refl H)
     | lst es=>exact k H (Same.refl H)
     | tup ds =>
       obtain⟨pa,us,rfl,hq0,r0⟩:=id hd
       have ul:us.length=ds.length:=r0.length
       refine ifN (by simp [isT,isE,isD]) ?_
       refine⟨_,rfl,pa,us,rfl,.inr hq0,A4 (by simp),fun C hC=>?_⟩
       have sC:Same H (upd H C (.tup [.int 0,.int 2,.int 3,.int 4])):=Same.new hC
       refine⟨.int (us.length:Int),nums [0,2,3,4],rfl,.inr ⟨C,_,rfl,.of Ad,Fb.mpr rfl⟩,(by rw [Ku];decide),_,rfl,?_⟩
       rw [ul]
       have cnt:(!(nums [0,2,3,4]).any fun e=>eqD e (.int (ds.length:Int)))=!cntB ds.length:=by
        have:(nums [0,2,3,4]).any (fun e=>eqD e (.int (ds.length:Int)))=cntB ds.length:=by
         simp only [nums,List.map_cons,List.map_nil,List.any_cons,List.any_nil,eqD,cntB]
         rw [Bool.eq_iff_iff]
         simp only [Bool.or_eq_true,beq_iff_eq,Bool.or_false]
         omega
        rw [this]
       have k1:=k _ sC
       by_cases hc:cntB ds.length=true
       rotate_left
       . have hc':cntB ds.length=false:=by simpa using hc
         refine ifP (by rw [if_pos rfl,cnt,hc'];rfl) ?_
         have e2:Em xs (.tup ds)=false:=by rw [Cq];simp [hc']
         rw [e2] at k1
         exact k1
       refine ifN (by rw [if_pos rfl,cnt,hc];simp) ?_
       have hn4:ds.length<=4:=(Y2 hc).1
       refine⟨_,rfl,pa,rfl,⟨_,sC.seqT hq0⟩,Aj5 (K:=K) (a:=pa) (xs:=us) (fun i σ H2=>Same H H2/\(∃ o2,σ=[some (.ref a),some (.ref pa),o2,none])/\((ds.take i).all fun e=>Bb xs e (levI ds.length-1))=true)
        ⟨sC,⟨none,rfl⟩,rfl⟩ (fun i σ H2 _ ⟨s2,_⟩=>s2.seqT hq0) ?_ ?_⟩
       . rintro i x σ H2 hx ⟨s2,⟨o2,rfl⟩,hall⟩
         have hq:SqT K H2 pa us:=s2.seqT hq0
         have r:Reps K H2 us ds:=Reps.same s2 r0
         have hL1:LT K H2 (.ref a) xs:=Rep.same s2 hL
         have k1:=k H2 s2
         obtain⟨xu,hxq,hxl2⟩:=LT.len hL1
         obtain⟨e,he,re⟩:=r.getV hx
         have hne:1<=ds.length:=by have:=(List.getElem?_eq_some_iff.mp he).1;omega
         have hn2:2<=ds.length:=by have:=(Y2 hc).2;omega
         have bad:Bb xs e (levI ds.length-1)=false->Em xs (.tup ds)=false:=fun z=>by
          have:(ds.all fun e=>Bb xs e (levI ds.length-1))=false:=by
           rw [List.all_eq_false]
           exact ⟨e,List.mem_of_getElem? he,by simp [z]⟩
          rw [Cq,this]
          simp
         refine⟨_,rfl,x,e,rfl,re,_,rfl,?_⟩
         by_cases hw:En e=true
         rotate_left
         . have hw':En e=false:=by simpa using hw
           refine ifP (by rw [hw'];rfl) ?_
           have e2:=bad (by cases e<;>first | rfl | (exfalso;exact hw rfl))
           rw [e2] at k1
           exact k1
         refine ifN (by rw [hw];simp) ?_
         obtain⟨f,rfl⟩:=Rh hw
         cases (show x=.int f from re)
         refine⟨_,rfl,_,_,rfl,rfl,_,rfl,?_⟩
         by_cases h0:0<=f
         rotate_left
         . refine ifP (by simp;omega) ?_
           have e2:=bad (by show (decide (0<=f)&&decide (f<(xs.length:Int))&&decide (levI (xs.getD f.toNat []).length=_))=false;simp [h0])
           rw [e2] at k1
           exact k1
         refine ifN (by simp;omega) ?_
         refine⟨_,rfl,_,rfl,a,xu,rfl,.inl hxq,_,_,rfl,rfl,_,rfl,?_⟩
         rw [hxl2]
         by_cases h1:f<(xs.length:Int)
         rotate_left
         . refine ifP (by simp;omega) ?_
           have e2:=bad (by show (decide (0<=f)&&decide (f<(xs.length:Int))&&decide (levI (xs.getD f.toNat []).length=_))=false;simp [h1])
           rw [e2] at k1
           exact k1
         refine ifN (by simp;omega) ?_
         obtain⟨xu',v,hq',hv,tv⟩:=LT.get hL1 h0 h1
         refine⟨_,rfl,_,rfl,a,xu',f,_,rfl,rfl,hq',hv,v,nums (xs.getD f.toNat []),rfl,.inr tv,_,_,rfl,rfl,_,rfl,.ref pa,ds,rfl,.inr (Rep.same s2 hd),rfl,_,rfl,?_⟩
         rw [show (nums (xs.getD f.toNat [])).length=(xs.getD f.toNat []).length from List.length_map ..]
         have key:Bb xs (.int f) (levI ds.length-1)=decide (levI (xs.getD f.toNat []).length+1=levI ds.length):=by
          show (decide (0<=f)&&decide (f<(xs.length:Int))&&decide (levI (xs.getD f.toNat []).length=levI ds.length-1))=_
          rw [decide_eq_true h0,decide_eq_true h1]
          simp only [Bool.and_self,Bool.true_and]
          exact decide_eq_decide.mpr (by omega)
         by_cases hg:levI (xs.getD f.toNat []).length+1=levI ds.length
         rotate_left
         . refine ifP (neI hg) ?_
           have e2:=bad (by rw [key];exact decide_eq_false hg)
           rw [e2] at k1
           exact k1
         refine ifN (eqI hg) ?_
         refine⟨s2,⟨_,rfl⟩,?_⟩
         rw [List.take_succ,he,List.all_append,hall]
         show (true&&(Bb xs (.int f) (levI ds.length-1)&&true))=true
         rw [key,decide_eq_true hg]
         rfl
       . rintro σ H1 ⟨s1,⟨o2,rfl⟩,hall⟩
         have hq:SqT K H1 pa us:=s1.seqT hq0
         have hL1:LT K H1 (.ref a) xs:=Rep.same s1 hL
         have hd1:Rep K H1 (.ref pa) (.tup ds):=Rep.same s1 hd
         have k1:=k H1 s1
         rw [ul,List.take_length] at hall
         have hint:=Uj hall
         have tv:TI K H1 (.ref pa) (ds.map toI):=by
          have:=hd1
          rw [hint] at this
          exact this
         generalize hp:ds.map toI=p at hint tv
         have hpn:p.length=ds.length:=by rw [←hp,List.length_map]
         have e2:Em xs (.tup ds)=(decide (levI ds.length<2) || Ek xs p):=by rw [Cq];rw [hall,hc,hp];rfl
         have hfs:∀ f∈p,0<=f/\f<(xs.length:Int)/\levI (xs.getD f.toNat []).length+1=levI p.length:=by
          intro f hf
          rw [List.all_eq_true] at hall
          have hm:L2.D.int f∈ds:=by
           rw [hint]
           exact List.mem_map.mpr ⟨f,hf,rfl⟩
          have:=hall _ hm
          simp only [Bb,Bool.and_eq_true,decide_eq_true_eq] at this
          obtain⟨⟨f0,f1⟩,f2⟩:=this
          exact ⟨f0,f1,by rw [hpn];omega⟩
         have ma:=Ag6 hCn hfs
         rw [hpn] at ma
         obtain⟨pa',ez,sqp⟩:=tv.sq
         cases ez
         have no:∀ j G,j<ds.length->¬meetsB xs (p.take j) (p.getD j 0)=true->Same H G->Q (.bl false) G:=fun j G hj hm g=>by
          have kG:=k G g
          have:Em xs (.tup ds)=false:=by
           rw [e2,Bool.eq_false_iff]
           exact fun z=>hm (ma.mpr z j hj)
          rw [this] at kG
          exact kG
         refine⟨_,rfl,pa,us,rfl,.inr hq,_,rfl,by omega,by omega,?_⟩
         rw [ul]
         refine B6 (lo:=0) (n:=((ds.length:Nat):Int).toNat) (fun j σ H2=>Same H1 H2/\(∃ o2 o3,σ=[some (.ref a),some (.ref pa),o2,o3])/\∀ j',j'<j->meetsB xs (p.take j') (p.getD j' 0)=true)
          ⟨Same.refl _,⟨_,none,rfl⟩,fun j' h=>absurd h (by omega)⟩ ?_ ?_
         . rintro j σ G hj ⟨g,⟨o2,o3,rfl⟩,hall2⟩
           have hj':j<p.length:=by omega
           rw [show (0:Int)+(j:Int)=(j:Int) by omega]
           have hatp:atI (p.map V.int) (j:Int)=some (.int (p.getD j 0)):=by
            have:=My (sp:=p) (x:=(j:Int)) (by omega) (by omega)
            rwa [Int.toNat_natCast] at this
           refine⟨_,rfl,_,rfl,_,rfl,_,rfl,pa,_,rfl,g.seqT sqp,?_,fun T1 G1 g1 q1=>?_⟩
           . rw [List.length_map]
             rintro ⟨_,z⟩
             rw [HT.sIx_nat] at z
             omega
           rw [Kv,←List.map_take] at q1
           have gg:=g.trans g1
           obtain⟨x0,x1,x2⟩:=hfs _ (Cu hj')
           have hcx:=hCn.at x0 x1
           refine⟨_,rfl,_,rfl,pa,_,_,_,rfl,rfl,gg.seqT sqp,hatp,a,.ref T1,xs,p.take j,p.getD j 0,rfl,Rep.same gg hL1,TI.mk q1,x0,x1,fun y hy=>⟨(hfs y (List.mem_of_mem_take hy)).1,(hfs y (List.mem_of_mem_take hy)).2.1⟩,by rw [List.length_take];omega,?_,?_⟩
           . rw [Ca,Ca] at x2
             by_cases hz:(xs.getD (p.getD j 0).toNat []).length=0
             . exact .inl hz
             . refine .inr ⟨by rw [List.length_take];omega,fun y hy=>?_⟩
               obtain⟨y0,y1,y2⟩:=hfs y (List.mem_of_mem_take hy)
               have hcy:=hCn.at y0 y1
               rw [Ca,Ca] at y2
               rw [List.length_take]
               omega
           refine⟨_,rfl,?_⟩
           by_cases hm:meetsB xs (p.take j) (p.getD j 0)=true
           . rw [hm]
             refine ifN (by simp) ?_
             refine⟨gg,⟨_,_,rfl⟩,fun j' hj2=>?_⟩
             by_cases z:j'=j
             . subst z;exact hm
             . exact hall2 j' (by omega)
           . refine ifP (by simpa using hm) ?_
             exact no j G1 (by omega) hm (s1.trans gg)
         . rintro σ G ⟨g,⟨o2,o3,rfl⟩,hall2⟩
           have kG:=k G (s1.trans g)
           have:Em xs (.tup ds)=true:=by
            rw [e2]
            exact ma.mp fun j hj=>hall2 j (by omega)
           rw [this] at kG
           exact kG
abbrev Il:Stmt:=top 44
theorem Ab2:FnScope ["_law_pieces","_law_cell","_law_points"] ["_law_pieces","_law_cell"] (Ag Il):=⟨rfl,rfl,rfl,by decide +kernel,rfl,by decide +kernel,by decide +kernel⟩
theorem Ag1:(["_law_pieces","_law_cell","_law_points"]:List Str).Nodup:=by decide +kernel
theorem Ad9 {f:Addr}{fd:FuncData} (F:Fun K "_law_side" "_law_side" Il f fd) (T:Txt K mg Ac) (F4:Has P w K mg base "_law_pick" ["_law_cell","_law_j","_law_many"] 1 (Ki K)):FnOk P w K mg base CX0 2 f fd ["_law_pieces","_law_cell"] (N3 K):=by
 refine F.ok Ab2 (fun vs H Q E h=>?_) (fun Bu A outer s H vs Q E hr h=>?_)
 . obtain⟨a,xs,c,rfl,hL,hxl,k⟩:=h
   rfl
 . obtain⟨a,xs,c,rfl,hL,hxl,k⟩:=h
   refine⟨_,(Ae (Jy (N':=["_law_place","_law_pieces"]) (cap:=[none,some 0]) (i:=2) Ag1 (by rfl) (by first | exact Or.inl rfl | exact Or.inr rfl) (by rfl) (by kernel_rfl) (B4 (by rfl) T.n_range (Ab (An (Ak (K:=K)) (by rfl) T.n_len PySem.boot_len (Ab (pv 0) Af)) Af)) (fun _ _ _ _=>(Aq (i:=0) Bf0 (by rfl) (by first | exact Or.inl rfl | exact Or.inr rfl))) (fun _ _ _ _=>(D9 (Ao Do (An (Ak (K:=K)) (by rfl) T.n_len PySem.boot_len (Ab (Ba (A3 (K:=K)) (pv 1) (pv 0) (fun _ _=>rfl)) Af)) Ai (Ay _)))) (fun _ _ _ _=>(pv 0)))
    (Ae (Bi (Ao Do (An (Ak (K:=K)) (by rfl) T.n_len PySem.boot_len (Ab (pv 2) Af)) Ai (Ay _)) (Aj (Av (Ck Af))) Ax)
    (Aj (Av (Ck (Ab (Ba (A3 (K:=K)) (pv 2) (Am F4 hr (by rfl) (Ab (pv 1) (Ab Ai (Ab (An (Ak (K:=K)) (by rfl) T.n_len PySem.boot_len (Ab (pv 2) Af)) Af)))) (fun _ _=>rfl)) (Ab (Ba (A3 (K:=K)) (pv 2) (Am F4 hr (by rfl) (Ab (pv 1) (Ab Ai (Ab (An (Ak (K:=K)) (by rfl) T.n_len PySem.boot_len (Ab (pv 2) Af)) Af)))) (fun _ _=>rfl)) Af))))))),?_⟩
   obtain⟨us,hq,ul⟩:=LT.len hL
   refine Ar (fun σ' H'=>∃ (P:Addr) (ps:List Int),σ'=[some (.ref a),some (.int c),some (.ref P)]/\Same H H'/\H' P=some (.lst (ps.map V.int))) ?_ fun key=>?_
   rotate_left
   . refine⟨_,rfl,a,us,rfl,.inl hq,_,rfl,by omega,by omega,fun D hD=>?_⟩
     refine Fi (fun i ys τ G=>Same H G/\G D=some (.lst ys)/\(∃ ps:List Int,ys=ps.map V.int/\ps.length<=i)/\∃ o,τ=[o,some (.ref a)])
      ⟨Same.new hD,Ad,⟨[],rfl,Nat.le_refl _⟩,none,rfl⟩ ?_ ?_
     . rintro i ys τ G hi ⟨g,hDG,⟨ps,rfl,hpl⟩,o,rfl⟩
       have hi2:i<xs.length:=by omega
       obtain⟨u1,v1,hu1,av1,tv1⟩:=LT.get (i:=(0:Int)+(i:Int)) (Rep.same g hL) (by omega) (by omega)
       obtain⟨b1,rfl,hb1⟩:=tv1.sq
       refine⟨_,rfl,_,rfl,a,u1,_,_,rfl,rfl,hu1,av1,b1,_,rfl,.inr hb1,rfl,_,rfl,?_⟩
       refine ite2 (fun h1=>?_) (fun h1=>?_)
       . exact ⟨_,rfl,hDG,Cc (by rw [List.length_map];omega),g.turn hD,Ad,⟨ps++[(0:Int)+(i:Int)],by simp,by simp;omega⟩,_,rfl⟩
       . exact ⟨g,hDG,⟨ps,rfl,by omega⟩,_,rfl⟩
     . rintro ys τ G ⟨g,hDG,⟨ps,rfl,hpl⟩,_⟩
       exact key _ _ ⟨D,ps,rfl,g,hDG⟩
   rintro _ H1 ⟨P,ps,rfl,s1,hP⟩
   have pe:(ps.map V.int).length=ps.length:=List.length_map ..
   refine⟨_,rfl,P,_,rfl,.inl (.of hP),rfl,_,rfl,?_⟩
   rw [pe]
   refine ite2 (fun h1=>?_) (fun h1=>?_)
   . refine⟨Nat.zero_le _,fun T1 hT1=>?_⟩
     exact k (.ref T1) [] _ (s1.trans (Same.new hT1)) (TI.mk (.of Ad))
   . have hp:0<(ps.length:Int):=by
      have:¬ps.length=0:=fun z=>h1 (by rw [z];rfl)
      omega
     refine⟨_,rfl,_,rfl,_,rfl,P,_,rfl,.inl (.of hP),_,_,_,rfl,by rw [pe];exact hp,fun r1 H2 s2 r10 r11=>?_⟩
     rw [pe] at r11
     refine⟨P,_,_,_,rfl,rfl,.of (s2 _ _ hP),My r10 r11,_,rfl,_,rfl,_,rfl,P,_,rfl,.inl (.of (s2 _ _ hP)),_,_,_,rfl,by rw [pe];exact hp,fun r2 H3 s3 r20 r21=>?_⟩
     rw [pe] at r21
     refine⟨P,_,_,_,rfl,rfl,.of ((s2.trans s3) _ _ hP),My r20 r21,A4 (by simp),fun T1 hT1=>?_⟩
     exact k (.ref T1) [_,_] _ (((s1.trans s2).trans s3).trans (Same.new hT1)) (TI.mk (.of Ad))
abbrev Bp:Stmt:=top 48
theorem N9:FnScope ["_law_words","_law_word","_law_family","_law_layer","_law_rows","_law_k","_law_below","_law_one","_law_face","_law_more"] ["_law_words","_law_word","_law_family"] (Ag Bp):=⟨rfl,rfl,rfl,by decide +kernel,rfl,by decide +kernel,by decide +kernel⟩
theorem A1:(["_law_words","_law_word","_law_family","_law_layer","_law_rows","_law_k","_law_below","_law_one","_law_face","_law_more"]:List Str).Nodup:=by decide +kernel
theorem Oj {f:Addr}{fd:FuncData} (F:Fun K "_law_words_with" "_law_words_with" Bp f fd) (T:Txt K mg Ac) (C0:Has P w K mg base "_law_faces_by" ["_law_word","_law_family"] 1 (Dz K)):FnOk P w K mg base CX0 2 f fd ["_law_words","_law_word","_law_family"] (D8 K):=by
 refine F.ok N9 (fun vs H Q E h=>?_) (fun Bu A outer s H vs Q E hr h=>?_)
 . obtain⟨l,us,v,ws,w,fam,rfl,hl,hr0,hv,hw,hlen,k⟩:=h
   rfl
 . obtain⟨l,us,v,ws,w,fam,rfl,hl,hr0,hv,hw,hlen,k⟩:=h
   have hu8:(A.deeper (PyProof.Rows.envOfC "_law_words_with" (Ag Bp) s.heap.objs.size f Bu)).units+8<cLine:=by have:=hr.units;omega
   refine⟨_,(Ae (As (i:=3) A1 (by rfl) (by first | exact Or.inl rfl | exact Or.inr rfl) (Dv (Ab (pv 1) Af)))
    (Ae (As (i:=4) A1 (by rfl) (by first | exact Or.inl rfl | exact Or.inr rfl) (Dv Af))
    (Ae (Ce PassesOwn.never rfl (B4 (by rfl) T.n_range (Ab Ai Af)) (Aq (i:=5) A1 (by rfl) (by first | exact Or.inl rfl | exact Or.inr rfl)) (Ae (As (i:=4) A1 (by rfl) (by first | exact Or.inl rfl | exact Or.inr rfl) (Az (Ou (K:=K)) (pv 3) (pv 4)))
    (Ae (As (i:=6) A1 (by rfl) (by first | exact Or.inl rfl | exact Or.inr rfl) (Dv Af))
    (Ae (Ce PassesOwn.never rfl (Bo (K:=K) (pv 3)) (Aq (i:=7) A1 (by rfl) (by first | exact Or.inl rfl | exact Or.inr rfl)) (Aj (Ce PassesOwn.never rfl (Bo (K:=K) (Am C0 hr (by rfl) (Ab (pv 7) (Ab (pv 2) Af)))) (Aq (i:=8) A1 (by rfl) (by first | exact Or.inl rfl | exact Or.inr rfl)) (Aj (Bi (PW.pt (Of (Ao (Fe (K:=K) hu8) (pv 8) (pv 0) rfl) (Jx (Ao (Fe (K:=K) hu8) (pv 8) (pv 6) rfl)))) (Aj (B9 (Gj (K:=K) PySem.F.plainAttrs_list PySem.F.slot_list_append PySem.F.type_list_append B5 (pv 6) (Ab (pv 8) Af)))) Ax)))))
    (Aj (As (i:=3) A1 (by rfl) (by first | exact Or.inl rfl | exact Or.inr rfl) (pv 6)))))))
    (Ae (As (i:=9) A1 (by rfl) (by first | exact Or.inl rfl | exact Or.inr rfl) (Dn (Tp (K:=K)) (by rfl) T.n_list x6 (Ab (pv 0) Af)))
    (Ae (Ce PassesOwn.never rfl (Bo (K:=K) (pv 4)) (Aq (i:=7) A1 (by rfl) (by first | exact Or.inl rfl | exact Or.inr rfl)) (Aj (Bi (Ao (Fe (K:=K) hu8) (pv 7) (pv 9) rfl) (Aj (B9 (Gj (K:=K) PySem.F.plainAttrs_list PySem.F.slot_list_append PySem.F.type_list_append B5 (pv 9) (Ab (pv 7) Af)))) Ax)))
    (Aj (Av (pv 9)))))))),?_⟩
   have s0w:∀ u∈[w],Word fam u:=fun u hu=>by
    have e:u=w:=by simpa using hu
    subst e
    exact hw
   refine⟨_,rfl,A4 (by simp),fun L0 hL0=>?_⟩
   have s1:Same H (upd H L0 (.lst [v])):=Same.new hL0
   refine⟨Nat.zero_le _,fun R0 hR0=>?_⟩
   have s2:Same (upd H L0 (.lst [v])) (upd (upd H L0 (.lst [v])) R0 (.lst [])):=Same.new hR0
   refine⟨_,rfl,by decide,by decide,B6 (lo:=0) (n:=(4:Int).toNat)
    (fun i σ H2=>∃ (L R:Addr) (lu ru:List V) (layer rows:List (List Int)) (o5 o6 o7 o8 o9:Option V),σ=[some (.ref l),some v,some (.int fam),some (.ref L),some (.ref R),o5,o6,o7,o8,o9]/\Same H H2 ∧
      H2 L=some (.lst lu)/\Reps K H2 lu (layer.map tI)/\H2 R=some (.lst ru)/\Reps K H2 ru (rows.map tI)/\(∀ u∈layer,Word fam u)/\Kq ws fam (4-i) layer rows=Kq ws fam 4 [w] []/\layer.length<=4 ^ i/\rows.length<=1000*i)
    ⟨L0,R0,[v],[],[w],[],none,none,none,none,none,rfl,s1.trans s2,s2 _ _ Ad,Reps.one (TI.same (s1.trans s2) hv),Ad,rfl,s0w,rfl,by simp,by simp⟩ ?_ ?_⟩
   . rintro i σ H2 hi ⟨L,R,lu,ru,layer,rows,o5,o6,o7,o8,o9,rfl,sH,hL,rL,hR,rR,hWl,hlay,hll,hrl⟩
     have hi4:i<4:=by simpa using hi
     have h4i:4 ^ i<=64:=by
      have:i=0\/i=1\/i=2\/i=3:=by omega
      rcases this with rfl | rfl | rfl | rfl<;>decide
     have lul:lu.length=layer.length:=by have:=rL.length;simpa using this
     have rul:ru.length=rows.length:=by have:=rR.length;simpa using this
     refine⟨_,rfl,_,rfl,L,R,_,_,rfl,rfl,.of hL,.of hR,A4 (by omega),fun R1 hR1=>?_⟩
     have sa:Same H2 (upd H2 R1 (.lst (lu++ru))):=Same.new hR1
     have hR1a:(upd H2 R1 (.lst (lu++ru))) R1=some (.lst (lu++ru)):=Ad
     have rRa:Reps K (upd H2 R1 (.lst (lu++ru))) (lu++ru) ((layer++rows).map tI):=by
      rw [List.map_append]
      exact (Reps.same sa rL).append (Reps.same sa rR)
     have hLa:=sa _ _ hL
     have rLa:Reps K (upd H2 R1 (.lst (lu++ru))) lu (layer.map tI):=Reps.same sa rL
     have sHa:Same H (upd H2 R1 (.lst (lu++ru))):=sH.trans sa
     refine⟨Nat.zero_le _,fun B hB=>?_⟩
     have sb:Same (upd H2 R1 (.lst (lu++ru))) (upd (upd H2 R1 (.lst (lu++ru))) B (.lst [])):=Same.new hB
     have hBH:H B=none:=sHa.free hB
     refine⟨_,rfl,L,rfl,⟨_,.of (sb _ _ hLa)⟩,for_list (K:=K) (a:=L) (xs:=lu)
      (fun j σ H3=>∃ (bu:List V) (o7 o8:Option V),σ=[some (.ref l),some v,some (.int fam),some (.ref L),some (.ref R1),some (.int (0+i)),some (.ref B),o7,o8,o9]/\Same (upd H2 R1 (.lst (lu++ru))) H3/\H3 B=some (.lst bu) ∧
        Reps K H3 bu ((Dh ws fam [] (layer.take j)).map tI))
      ⟨[],_,_,rfl,sb,Ad,rfl⟩ (fun j σ H3 _ ⟨_,_,_,_,s3,_⟩=>.of (s3 _ _ hLa)) ?_ ?_⟩
     . rintro j x σ H3 hx ⟨bu,o7,o8,rfl,s3,hB3,rB⟩
       have hj:j<lu.length:=(List.getElem?_eq_some_iff.mp hx).1
       have hjl:j<layer.length:=by omega
       have hjx:(layer.map tI)[j]?=some (tI layer[j]):=by rw [List.getElem?_map,List.getElem?_eq_getElem hjl];rfl
       obtain⟨x',hx',tx⟩:=rLa.get hjx
       rw [hx] at hx'
       cases hx'
       have hwj:Word fam layer[j]:=hWl _ (List.getElem_mem _)
       refine⟨_,rfl,_,rfl,x,layer[j],fam,rfl,TI.same s3 tx,hwj,fun p fu H4 hp s4 hp4 r4=>?_⟩
       have fl:=Fh hwj
       have ful:fu.length=(Al layer[j] fam).length:=by have:=r4.length;simpa using this
       have hpB:p≠B:=fun z=>by rw [z,hB3] at hp;cases hp
       have hB4:=s4 _ _ hB3
       refine⟨p,rfl,⟨_,.of hp4⟩,for_list (K:=K) (a:=p) (xs:=fu)
        (fun m σ H5=>∃ (bu:List V) (o8:Option V),σ=[some (.ref l),some v,some (.int fam),some (.ref L),some (.ref R1),some (.int (0+i)),some (.ref B),some x,o8,o9]/\SameX B H4 H5/\H5 B=some (.lst bu) ∧
          Reps K H5 bu ((B0 ws (Dh ws fam [] (layer.take j)) ((Al layer[j] fam).take m)).map tI)/\(B0 ws (Dh ws fam [] (layer.take j)) ((Al layer[j] fam).take m)).length<=1000)
        ⟨bu,_,rfl,SameX.refl _ _,hB4,(by simpa [B0] using Reps.same s4 rB),?_⟩ (fun m σ H5 _ ⟨_,_,_,s5,_⟩=>.of (s5 _ _ hpB hp4)) ?_ ?_⟩
       . have:=Ie (ws:=ws) (fam:=fam) (layer.take j) [] (fun u hu=>hWl u (List.mem_of_mem_take hu))
         simp only [List.take_zero,B0,List.length_nil,List.length_take] at this ⊢
         omega
       . rintro m y σ H5 hy ⟨bu5,o8',rfl,s5,hB5,rB5,hbl5⟩
         have hm:m<fu.length:=(List.getElem?_eq_some_iff.mp hy).1
         have hmf:m<(Al layer[j] fam).length:=by omega
         have hmy:((Al layer[j] fam).map tI)[m]?=some (tI (Al layer[j] fam)[m]):=by rw [List.getElem?_map,List.getElem?_eq_getElem hmf];rfl
         obtain⟨y',hy',ty⟩:=r4.get hmy
         rw [hy] at hy'
         cases hy'
         generalize hf:(Al layer[j] fam)[m]=fc at ty
         have ty5:TI K H5 y fc:=TI.t (s5.t hB4) ty
         have hl5:H5 l=some (.lst us):=by
          refine s5 l _ (fun z=>?_) (s4 _ _ (s3 _ _ (sHa _ _ hl)))
          rw [z] at hl
          rw [hl] at hBH
          cases hBH
         have rl5:Rep K H5 (.ref l) (.lst (ws.map tI)):=⟨l,us,rfl,.of hl5,Reps.t (s5.t hB4) (Ks ws) (Reps.same ((sHa.trans s3).trans s4) hr0)⟩
         have rb5:Rep K H5 (.ref B) (.lst ((B0 ws (Dh ws fam [] (layer.take j)) ((Al layer[j] fam).take m)).map tI)):=⟨B,bu5,rfl,.of hB5,rB5⟩
         have e0:B0 ws (Dh ws fam [] (layer.take j)) ((Al layer[j] fam).take (m+1))=(if fc ∉ ws/\fc ∉ B0 ws (Dh ws fam [] (layer.take j)) ((Al layer[j] fam).take m) then B0 ws (Dh ws fam [] (layer.take j)) ((Al layer[j] fam).take m)++[fc] else B0 ws (Dh ws fam [] (layer.take j)) ((Al layer[j] fam).take m)):=by
          rw [List.take_succ,List.getElem?_eq_getElem hmf,hf]
          exact P2 _ _ _ _
         have hbu5:bu5.length=(B0 ws (Dh ws fam [] (layer.take j)) ((Al layer[j] fam).take m)).length:=by have:=rB5.length;simpa using this
         have hlen6:(B0 ws (Dh ws fam [] (layer.take j)) ((Al layer[j] fam).take (m+1))).length<=1000:=by
          have h1:=Mo (ws:=ws) ((Al layer[j] fam).take (m+1)) (Dh ws fam [] (layer.take j))
          have h2:=Ie (ws:=ws) (fam:=fam) (layer.take j) [] (fun u hu=>hWl u (List.mem_of_mem_take hu))
          simp only [List.length_nil,List.length_take] at h1 h2
          have h3:(Al layer[j] fam).length<=4:=by have:=fl.1;have:=fl.2;split at*<;> omega
          omega
         generalize hacc:B0 ws (Dh ws fam [] (layer.take j)) ((Al layer[j] fam).take m)=acc at rB5 rb5 e0 hbu5 hbl5
         refine⟨_,rfl,_,rfl,tI fc,ws.map tI,ty5,.inl rl5,(by have:=Kt ws;omega),_,rfl,?_⟩
         by_cases h1:fc∈ws
         . refine ifN (by rw [if_pos rfl,Pz];simp [h1]) ?_
           refine ifN (by simp) ?_
           refine⟨bu5,_,rfl,s5,hB5,?_,hlen6⟩
           rw [e0,if_neg (by simp [h1])]
           exact rB5
         . refine ifP (by rw [if_pos rfl,Pz];simp [h1]) ?_
           refine⟨_,rfl,_,rfl,tI fc,acc.map tI,ty5,.inl rb5,(by have:=Kt acc;omega),_,rfl,?_⟩
           by_cases h2:fc∈acc
           . refine ifN (by rw [if_pos rfl,Pz];simp [h2]) ?_
             refine⟨bu5,_,rfl,s5,hB5,?_,hlen6⟩
             rw [e0,if_neg (by simp [h2])]
             exact rB5
           . refine ifP (by rw [if_pos rfl,Pz];simp [h2]) ?_
             refine⟨_,rfl,.inl ⟨rfl,_,.of hB5⟩,_,rfl,B,_,_,rfl,rfl,hB5,Cc (by omega),?_⟩
             refine⟨_,_,rfl,s5.upd,Ad,?_,hlen6⟩
             rw [e0,if_pos ⟨h1,h2⟩]
             exact Fs hB5 rB5 ty5
       . rintro σ H5 ⟨bu5,o8',rfl,s5,hB5,rB5,_⟩
         refine⟨bu5,_,_,rfl,?_,hB5,?_⟩
         . exact s5.same (s3.trans s4) hB
         . rw [ful,List.take_length] at rB5
           rw [List.take_succ,List.getElem?_eq_getElem hjl]
           have e1:Dh ws fam [] (layer.take j++(some layer[j]).toList)=B0 ws (Dh ws fam [] (layer.take j)) (Al layer[j] fam):=R5 _ _ _ _ _
           rw [e1]
           exact rB5
     . rintro σ H3 ⟨bu,o7,o8,rfl,s3,hB3,rB⟩
       rw [lul,List.take_length] at rB
       refine⟨_,rfl,?_⟩
       refine⟨B,R1,bu,lu++ru,Dh ws fam [] layer,layer++rows,_,_,_,_,_,rfl,sHa.trans s3,hB3,rB,s3 _ _ hR1a,Reps.same s3 rRa,?_,?_,?_,?_⟩
       . intro u hu
         rcases K0 _ _ hu with z|⟨t,ht,z⟩
         . exact nomatch z
         . exact (Iy (hWl t ht) z).1
       . rw [←hlay,show 4-i=(4-(i+1))+1 by omega]
         rfl
       . have:=Ie (ws:=ws) (fam:=fam) layer [] hWl
         simp only [List.length_nil] at this
         rw [Nat.pow_succ]
         omega
       . rw [List.length_append]
         omega
   . rintro σ H2 ⟨L,R,lu,ru,layer,rows,o5,o6,o7,o8,o9,rfl,sH,hL,rL,hR,rR,hWl,hlay,hll,hrl⟩
     have hrows:rows=Kq ws fam 4 [w] []:=hlay
     have hrl2:=l7 (ws:=ws) hw
     rw [←hrows] at hrl2
     have rul:ru.length=rows.length:=by have:=rR.length;simpa using this
     refine⟨_,rfl,l,_,rfl,.inl (.of (sH _ _ hl)),fun M hM=>?_⟩
     have sm:Same H2 (upd H2 M (.lst us)):=Same.new hM
     have hMH:H M=none:=sH.free hM
     have usl:us.length=ws.length:=by have:=hr0.length;simpa using this
     refine⟨_,rfl,R,rfl,⟨_,.of (sm _ _ hR)⟩,for_list (K:=K) (a:=R) (xs:=ru)
      (fun j σ H3=>∃ (mu:List V) (o7:Option V),σ=[some (.ref l),some v,some (.int fam),some (.ref L),some (.ref R),o5,o6,o7,o8,some (.ref M)]/\Same H2 H3/\H3 M=some (.lst mu)/\Reps K H3 mu ((C7 ws (rows.take j)).map tI))
      ⟨us,_,rfl,sm,Ad,(by simpa [C7] using Reps.same (sH.trans sm) hr0)⟩ (fun j σ H3 _ ⟨_,_,_,s3,_⟩=>.of (s3 _ _ hR)) ?_ ?_⟩
     . rintro j x σ H3 hx ⟨mu,o7',rfl,s3,hM3,rM⟩
       have hj:j<ru.length:=(List.getElem?_eq_some_iff.mp hx).1
       have hjl:j<rows.length:=by omega
       have hjx:(rows.map tI)[j]?=some (tI rows[j]):=by rw [List.getElem?_map,List.getElem?_eq_getElem hjl];rfl
       obtain⟨x',hx',tx⟩:=rR.get hjx
       rw [hx] at hx'
       cases hx'
       generalize hf:rows[j]=fc at tx
       have tx3:TI K H3 x fc:=TI.same s3 tx
       have e0:C7 ws (rows.take (j+1))=(if fc∈C7 ws (rows.take j) then C7 ws (rows.take j) else C7 ws (rows.take j)++[fc]):=by
        rw [List.take_succ,List.getElem?_eq_getElem hjl,hf]
        exact P3 _ _ _
       have hal:=Sa (rows.take j) ws
       rw [List.length_take] at hal
       have mul:mu.length=(C7 ws (rows.take j)).length:=by have:=rM.length;simpa using this
       generalize hacc:C7 ws (rows.take j)=acc at rM e0 hal mul
       have rm3:Rep K H3 (.ref M) (.lst (acc.map tI)):=⟨M,mu,rfl,.of hM3,rM⟩
       refine⟨_,rfl,_,rfl,tI fc,acc.map tI,tx3,.inl rm3,(by have:=Kt acc;omega),_,rfl,?_⟩
       by_cases h1:fc∈acc
       . refine ifN (by rw [if_pos rfl,Pz];simp [h1]) ?_
         refine⟨mu,_,rfl,s3,hM3,?_⟩
         rw [e0,if_pos h1]
         exact rM
       . refine ifP (by rw [if_pos rfl,Pz];simp [h1]) ?_
         refine⟨_,rfl,.inl ⟨rfl,_,.of hM3⟩,_,rfl,M,_,_,rfl,rfl,hM3,Cc (by omega),?_⟩
         refine⟨_,_,rfl,s3.turn hM,Ad,?_⟩
         rw [e0,if_neg h1]
         exact Fs hM3 rM tx3
     . rintro σ H3 ⟨mu,o7',rfl,s3,hM3,rM⟩
       rw [rul,List.take_length,hrows] at rM
       exact ⟨_,rfl,k M mu H3 hMH (sH.trans s3) hM3 rM⟩
abbrev Bv:Stmt:=top 53
theorem M7:FnScope ["_law_pieces","_law_k","_law_rows","_law_piece","_law_row","_law_sign","_law_face"] ["_law_pieces","_law_k"] (Ag Bv):=⟨rfl,rfl,rfl,by decide +kernel,rfl,by decide +kernel,by decide +kernel⟩
theorem Bl:(["_law_pieces","_law_k","_law_rows","_law_piece","_law_row","_law_sign","_law_face"]:List Str).Nodup:=by decide +kernel
theorem Nb {f:Addr}{fd:FuncData} (F:Fun K "_law_border_rows" "_law_border_rows" Bv f fd) (T:Txt K mg Ac) (Bz:Has P w K mg base "_law_level" ["_law_piece"] 1 (Bg K)):FnOk P w K mg base CX0 2 f fd ["_law_pieces","_law_k"] (Sm K):=by
 refine F.ok M7 (fun vs H Q E h=>?_) (fun Bu A outer s H vs Q E hr h=>?_)
 . obtain⟨a,xs,k0,rfl,hL,ok,k⟩:=h
   rfl
 . obtain⟨a,xs,k0,rfl,hL,ok,k⟩:=h
   refine⟨_,(Ae (As (i:=2) Bl (by rfl) (by first | exact Or.inl rfl | exact Or.inr rfl) (Dv Af))
    (Ae (Ce PassesOwn.never rfl (Bo (K:=K) (pv 0)) (Aq (i:=3) Bl (by rfl) (by first | exact Or.inl rfl | exact Or.inr rfl)) (Aj (Bi (PW.pt (Of (Ao Xr (An (Ak (K:=K)) (by rfl) T.n_len PySem.boot_len (Ab (pv 3) Af)) Ai (Ay _)) (Jx (Ao Do (Am Bz hr (by rfl) (Ab (pv 3) Af)) (pv 1) (Ay _))))) (Ae (Jy (N':=["_law_one"]) (cap:=[none]) (i:=4) Bl (by rfl) (by first | exact Or.inl rfl | exact Or.inr rfl) (by rfl) (by kernel_rfl) (Bo (K:=K) (pv 0)) (fun _ _ _ _=>(Aq (i:=0) Ba4 (by rfl) (by first | exact Or.inl rfl | exact Or.inr rfl))) (fun _ _ _ _=>Dd) (fun _ _ _ _=>Ai))
    (Ae (As (i:=5) Bl (by rfl) (by first | exact Or.inl rfl | exact Or.inr rfl) Ai)
    (Ae (Ce PassesOwn.never rfl (Lz (K:=K) (pv 3)) (Aq (i:=6) Bl (by rfl) (by first | exact Or.inl rfl | exact Or.inr rfl)) (Ae (A04 (pv 4) (pv 6) (l8 (K:=K)) (pv 5) Ay1 Aq2)
    (Aj (As (i:=5) Bl (by rfl) (by first | exact Or.inl rfl | exact Or.inr rfl) (Ad3 Uo (pv 5))))))
    (Aj (B9 (Gj (K:=K) PySem.F.plainAttrs_list PySem.F.slot_list_append PySem.F.type_list_append B5 (pv 2) (Ab (pv 4) Af))))))) Ax)))
    (Aj (Av (pv 2))))),?_⟩
   obtain⟨_,us,z,hq,r⟩:=id hL
   cases z
   have hul:us.length=xs.length:=by have:=r.length;simpa using this
   have h40:=ok.le
   refine Ar (fun σ' H'=>∃ L:Addr,σ'=[some (.ref a),some (.int k0),some (.ref L),none,none,none,none]/\Same H H'/\H L=none/\H' L=some (.lst [])) ?_ fun key=>?_
   rotate_left
   . exact ⟨A4 (by simp),fun L hLn=>key _ _ ⟨L,rfl,Same.new hLn,hLn,Ad⟩⟩
   rintro _ H1 ⟨L,rfl,s1,nL,hL1⟩
   refine Ar (fun σ' H'=>∃ (o3 o4 o5 o6:Option V) (ys:List V),σ'=[some (.ref a),some (.int k0),some (.ref L),o3,o4,o5,o6]/\Same H H'/\H' L=some (.lst ys)/\RN H' L ys (Jb xs.length k0 xs)) ?_ fun key=>?_
   rotate_left
   . refine⟨_,rfl,a,rfl,⟨_,s1.seq hq⟩,?_⟩
     refine for_list (K:=K) (a:=a) (xs:=us) (fun i σ G=>∃ (o3 o4 o5 o6:Option V) (ys:List V),σ=[some (.ref a),some (.int k0),some (.ref L),o3,o4,o5,o6]/\Same H G/\G L=some (.lst ys)/\RN G L ys (Jb xs.length k0 (xs.take i)))
      ⟨none,none,none,none,[],rfl,s1,hL1,RN.nil _ _⟩ (fun i σ G _ ⟨_,_,_,_,_,_,s2,_⟩=>s2.seq hq) ?_ ?_
     . rintro i v σ G hv ⟨o3,o4,o5,o6,ys,rfl,s2,hL2,hN2⟩
       have hi:i<xs.length:=by rw [←hul];exact (List.getElem?_eq_some_iff.mp hv).1
       have hxi:xs[i]?=some xs[i]:=List.getElem?_eq_getElem hi
       obtain⟨dv,hdv,rv⟩:=r.getV hv
       have edv:dv=tI xs[i]:=by
        rw [List.getElem?_map,hxi] at hdv
        exact (Option.some.inj hdv).symm
       subst edv
       have tv:TI K G v xs[i]:=Rep.same s2 rv
       obtain⟨t,rfl,ht⟩:=TI.sq tv
       have tk:xs.take (i+1)=xs.take i++[xs[i]]:=by rw [List.take_succ,hxi];rfl
       have hm:xs[i]∈xs:=List.getElem_mem hi
       have f4:=ok.f4 _ hm
       have bel:=ok.bel _ hm
       have ylen:ys.length<=40:=by
        have e1:=hN2.1
        have e2:=Uz xs.length k0 (xs.take i)
        rw [List.length_take] at e2
        omega
       generalize xs[i]=q at *
       have skip:isK k0 q≠true->∀ o4 o5 o6:Option V,∃ (o3' o4' o5' o6':Option V) (ys:List V),[some (.ref a),some (.int k0),some (.ref L),some (V.ref t),o4,o5,o6]=[some (.ref a),some (.int k0),some (.ref L),o3',o4',o5',o6']/\Same H G/\G L=some (.lst ys)/\RN G L ys (Jb xs.length k0 (xs.take (i+1))):=fun hn o4 o5 o6=>by
        refine⟨_,_,_,_,ys,rfl,s2,hL2,?_⟩
        rw [tk,Rl,if_neg hn]
        exact hN2
       refine⟨_,rfl,t,_,rfl,.inr ht,_,_,rfl,rfl,_,rfl,?_⟩
       refine ite2 (fun h1=>?_) (fun h1=>?_)
       rotate_left
       . refine ifN (by decide) ?_
         refine skip (fun z=>h1 ?_) _ _ _
         unfold isK at z
         rw [Bool.and_eq_true] at z
         have:=of_decide_eq_true z.1
         rw [List.length_map]
         simpa using this
       refine⟨_,rfl,.ref t,nums q,rfl,.inr tv,_,rfl,rfl,_,rfl,?_⟩
       rw [show (nums q).length=q.length from List.length_map ..]
       refine ite2 (fun h2=>?_) (fun h2=>?_)
       rotate_left
       . refine skip (fun z=>h2 ?_) _ _ _
         unfold isK at z
         rw [Bool.and_eq_true] at z
         have:=of_decide_eq_true z.2
         simpa using this
       have hK:isK k0 q=true:=by
        unfold isK
        rw [Bool.and_eq_true]
        rw [List.length_map] at h1
        exact ⟨by simpa using h1,by simpa using h2⟩
       refine Ar (fun σ' H'=>∃ D:Addr,σ'=[some (.ref a),some (.int k0),some (.ref L),some (.ref t),some (.ref D),o5,o6]/\Same G H'/\G D=none/\H' D=some (.lst ((rowJ xs.length q 0).map V.int))) ?_ fun key2=>?_
       rotate_left
       . refine⟨_,rfl,a,rfl,⟨_,s2.seq hq⟩,fun D hD=>?_⟩
         refine Mh (K:=K) (a:=a) (xs:=us) (fun j zs τ G2=>Same G G2/\G2 D=some (.lst zs)/\zs=(List.replicate j (0:Int)).map V.int/\∃ o,τ=[o])
          ⟨Same.new hD,Ad,rfl,none,rfl⟩ (fun j zs τ G2 _ ⟨s3,_⟩=>(s2.trans s3).seq hq) ?_ ?_
         . rintro j v zs τ G2 hv2 ⟨s3,hD3,rfl,o,rfl⟩
           have hj:j<us.length:=(List.getElem?_eq_some_iff.mp hv2).1
           refine⟨hD3,Cc (by rw [List.length_map,List.length_replicate];omega),s3.turn hD,Ad,?_,_,rfl⟩
           rw [List.replicate_succ',List.map_append]
           rfl
         . rintro zs τ G2 ⟨s3,hD3,rfl,_⟩
           exact key2 _ _ ⟨D,rfl,s3,hD,by rw [hD3,Ac0,hul]⟩
       rintro _ G2 ⟨D,rfl,s3,nD,hD⟩
       refine W6 [some (.ref a),some (.int k0),some (.ref L),some (.ref t),some (.ref D),some (.int (sgJ 0)),o6] G2 (fun _ h=>h) ?_
       refine Ar (fun σ' H'=>∃ (o5 o6:Option V),σ'=[some (.ref a),some (.int k0),some (.ref L),some (.ref t),some (.ref D),o5,o6]/\Same G H'/\H' D=some (.lst ((rowO xs.length q).map V.int))) ?_ fun key2=>?_
       rotate_left
       . refine⟨_,rfl,t,rfl,⟨_,s3.seqT ht⟩,?_⟩
         refine Aj5 (K:=K) (a:=t) (xs:=q.map V.int) (fun j σ G3=>∃ (o6:Option V),σ=[some (.ref a),some (.int k0),some (.ref L),some (.ref t),some (.ref D),some (.int (sgJ j)),o6]/\Same G G3/\G3 D=some (.lst ((rowJ xs.length q j).map V.int)))
          ⟨_,rfl,s3,hD⟩ (fun j σ G3 _ ⟨_,_,s4,_⟩=>s4.seqT ht) ?_ ?_
         . rintro j v σ G3 hv3 ⟨o6,rfl,s4,hD4⟩
           rw [List.getElem?_map] at hv3
           obtain⟨f,hf,rfl⟩:=Option.map_eq_some_iff.mp hv3
           have hfm:=bel f (List.mem_of_getElem? hf)
           obtain⟨m,rfl⟩:=Int.eq_ofNat_of_zero_le hfm.1
           have hm2:m<xs.length:=by omega
           have hfj:q.getD j 0=(m:Int):=by rw [List.getD_eq_getElem?_getD,hf];rfl
           have hat:((rowJ xs.length q j).map V.int)[m]?=some (.int (oftN q (m:Int) j)):=by rw [List.getElem?_map,Kk hm2];rfl
           refine⟨_,rfl,_,rfl,D,_,_,_,rfl,rfl,.of hD4,by omega,Co hat,_,rfl,_,_,rfl,rfl,D,_,_,m,rfl,rfl,hD4,?_,?_⟩
           . exact A39 (by rw [List.length_map,Eo];exact hm2)
           refine⟨_,rfl,_,rfl,some (.int (m:Int)),?_,s4.turn nD,?_⟩
           . rw [←Az7];rfl
           . rw [Ad,←Aq6 hm2 hfj,List.map_set]
         . rintro σ G3 ⟨o6,rfl,s4,hD4⟩
           rw [List.length_map] at hD4
           exact key2 _ _ ⟨_,_,rfl,s4,hD4⟩
       rintro _ G3 ⟨o5',o6',rfl,s4,hD4⟩
       have hL4:=s4 _ _ hL2
       refine⟨_,rfl,.inl ⟨rfl,_,.of hL4⟩,_,rfl,L,_,_,rfl,rfl,hL4,Cc (by omega),_,_,_,_,_,rfl,(s2.trans s4).turn nL,Ad,?_⟩
       rw [tk,Rl,if_pos hK]
       refine (hN2.same s4).snoc hD4 ?_
       intro z
       rw [z,hL2] at nD
       cases nD
     . rintro σ G ⟨o3,o4,o5,o6,ys,rfl,s2,hL2,hN2⟩
       rw [hul,List.take_length] at hN2
       exact key _ _ ⟨o3,o4,o5,o6,ys,rfl,s2,hL2,hN2⟩
   rintro _ G ⟨o3,o4,o5,o6,ys,rfl,s2,hL2,hN2⟩
   exact ⟨_,rfl,k L ys G s2 hL2 hN2.ra⟩
abbrev A8:Stmt:=top 9
theorem Ja:FnScope ["shape","thing","level"] ["shape","thing","level"] (Ag A8):=⟨rfl,rfl,rfl,by decide +kernel,rfl,by decide +kernel,by decide +kernel⟩
theorem Jd {f:Addr}{fd:FuncData} (F:Fun K "is_place_of_level" "is_place_of_level" A8 f fd) (T:Txt K mg Ac) (Aw:Has P w K mg base "is_whole_below" ["thing","bound"] 2 (Be K)) (B8:Has P w K mg base "level_of" ["piece"] 1 (Bg K)):FnOk P w K mg base CX0 3 f fd ["shape","thing","level"] (Cm K):=by
 refine F.ok Ja (fun vs H Q E h=>?_) (fun Bu A outer s H vs Q E hr h=>?_)
 . obtain⟨a,x,d,l,xs,rfl,hL,hx,k⟩:=h
   rfl
 . obtain⟨a,x,d,l,xs,rfl,hL,hx,k⟩:=h
   refine⟨_,(Aj (Av (U8 (Am Aw hr (by rfl) (Ab (pv 1) (Ab (An (Ak (K:=K)) (by rfl) T.n_len PySem.boot_len (Ab (pv 0) Af)) Af))) (Oi (Lk Do (Am B8 hr (by rfl) (Ab (Ba (A3 (K:=K)) (pv 0) (pv 1) (fun _ _=>rfl)) Af)) (pv 2) (Ay _)))))),?_⟩
   obtain⟨us,hq,hul⟩:=LT.len hL
   refine⟨_,rfl,_,rfl,a,us,rfl,.inl hq,x,d,_,rfl,hx,_,rfl,?_⟩
   rw [hul]
   refine ite2 (fun e=>?_) (fun e=>?_)
   . obtain⟨i,rfl⟩:∃ i,d=.int i:=by cases d<;>first | exact ⟨_,rfl⟩ | (exfalso;simp [Mx] at e)
     cases (show x=.int i from hx)
     have e':(decide (0<=i)&&decide (i<(xs.length:Int)))=true:=e
     have h0:0<=i/\i<(xs.length:Int):=by simpa using e'
     obtain⟨us',v,hq',hv,tv⟩:=LT.get hL h0.1 h0.2
     refine⟨_,rfl,_,rfl,a,us',i,v,rfl,rfl,hq',hv,v,_,rfl,.inr tv,_,rfl,rfl,?_⟩
     have e2:Bb xs (.int i) l=decide (levI (nums (xs.getD i.toNat [])).length=l):=by
      show (decide (0<=i)&&decide (i<(xs.length:Int))&&decide (levI (xs.getD i.toNat []).length=l))=_
      rw [e']
      simp [nums]
     rw [e2] at k
     have e3:decide (V.int (levI (nums (xs.getD i.toNat [])).length)=V.int l)=decide (levI (nums (xs.getD i.toNat [])).length=l):=by
      by_cases z:levI (nums (xs.getD i.toNat [])).length=l
      . simp [z]
      . simp [z]
     rw [e3]
     exact k
   . have e2:Bb xs d l=false:=by
      cases d with
      | int i =>
        have e':¬(decide (0<=i)&&decide (i<(xs.length:Int)))=true:=e
        show (decide (0<=i)&&decide (i<(xs.length:Int))&&decide (levI (xs.getD i.toNat []).length=l))=false
        rw [Bool.eq_false_iff.mpr e']
        rfl
      | _=>rfl
     rw [e2] at k
     exact k
abbrev Cj:Stmt:=top 26
theorem Qf:FnScope ["k","bound"] ["k","bound"] (Ag Cj):=⟨rfl,rfl,rfl,by decide +kernel,rfl,by decide +kernel,by decide +kernel⟩
theorem Qn {f:Addr}{fd:FuncData} (F:Fun K "check_level" "check_level" Cj f fd) (T:Txt K mg Ac) (Aw:Has P w K mg base "is_whole_below" ["thing","bound"] 2 (Be K)):FnOk P w K mg base CX0 3 f fd ["k","bound"] (Nx K):=by
 refine F.ok Qf (fun vs H Q E h=>?_) (fun Bu A outer s H vs Q E hr h=>?_)
 . obtain⟨i,b,rfl,h0,h1,k⟩:=h
   rfl
 . obtain⟨i,b,rfl,h0,h1,k⟩:=h
   refine⟨_,(Aj (Bi (Hf (Ea (Am Aw hr (by rfl) (Ab (pv 0) (Ab (pv 1) Af))))) (Aj Kl) Ax)),?_⟩
   have hb:Mx (.int i) b=true:=by
    show (decide (0<=i)&&decide (i<b))=true
    rw [decide_eq_true h0,decide_eq_true h1]
    rfl
   refine⟨_,rfl,_,rfl,.int i,.int i,b,rfl,rfl,_,rfl,?_⟩
   rw [hb]
   refine ifN (by decide) ?_
   exact k
abbrev D6:Stmt:=top 31
theorem Xk:FnScope ["thing"] ["thing"] (Ag D6):=⟨rfl,rfl,rfl,by decide +kernel,rfl,by decide +kernel,by decide +kernel⟩
theorem Xu {f:Addr}{fd:FuncData} (F:Fun K "is_prime" "is_prime" D6 f fd) (T:Txt K mg Ac) (Aw:Has P w K mg base "is_whole_below" ["thing","bound"] 2 (Be K)):FnOk P w K mg base CX0 3 f fd ["thing"] (Ny K):=by
 refine F.ok Xk (fun vs H Q E h=>?_) (fun Bu A outer s H vs Q E hr h=>?_)
 . obtain⟨p,rfl,hP,h98,k⟩:=h
   rfl
 . obtain⟨p,rfl,hP,h98,k⟩:=h
   obtain⟨t_PRIME_BOUND,c_PRIME_BOUND⟩:=T.x_PRIME_BOUND
   refine⟨_,(Ae (Bi (PW.pt (d3 (Hf (Ea (Am Aw hr (by rfl) (Ab (pv 0) (Ab (S8 (v:=.int 98) (by rfl) c_PRIME_BOUND ⟨_,rfl⟩) Af))))) (U2 (Ao Na (pv 0) Ai (Ay _))))) (Aj (Av J0)) Ax)
    (Aj (Av (An (Rn (K:=K) (by rfl)) (by rfl) T.n_all Wn (Ab (Cn (N':=["number","thing"]) (cap:=[none,some 0]) (by rfl) (by kernel_rfl) (Km (by rfl) T.n_range (Ab Ai (Ab (pv 0) Af))) (fun _ _ _ _=>(Aq (i:=0) Bf3 (by rfl) (by first | exact Or.inl rfl | exact Or.inr rfl))) (fun _ _ _ _=>Dd) (fun _ _ _ _=>(Lk Ta (Az Bh (pv 1) (pv 0)) Ai (Ay _)))) Af))))),?_⟩
   have h2:=hP.two
   refine⟨_,rfl,.int p,.int p,98,rfl,rfl,_,rfl,?_⟩
   have hb:Mx (.int p) 98=true:=by
    show (decide (0<=p)&&decide (p<98))=true
    rw [decide_eq_true (by omega),decide_eq_true h98]
    rfl
   rw [hb]
   refine ifN (by simp) ?_
   refine⟨_,rfl,_,_,rfl,rfl,_,rfl,?_⟩
   refine ifN (by simp;omega) ?_
   refine⟨_,rfl,_,_,rfl,⟨by decide,by decide,by omega,by omega⟩,fun D hD=>?_⟩
   refine J9 (fun j ys τ H1=>j<=(p-2).toNat/\Same H H1/\H1 D=some (.lst ys)/\(∃ bs:List Bool,ys=bs.map V.bl/\bs.length=j/\bs.all id=true)/\∃ o,τ=[o,some (.int p)])
    ⟨Nat.zero_le _,Same.new hD,Ad,⟨[],rfl,rfl,rfl⟩,none,rfl⟩ ?_ ?_
   . rintro j ys τ H1 hj ⟨_,s1,hD1,⟨bs,rfl,hbl,hba⟩,o,rfl⟩
     have hj2:j<(p-2).toNat:=by omega
     refine⟨_,rfl,_,rfl,_,_,rfl,rfl,(by show (0:Int)<2+(j:Int);omega),rfl,?_⟩
     refine⟨hD1,Cc (by rw [List.length_map];omega),by omega,s1.turn hD,Ad,⟨bs++[!decide (V.int (p%(2+(j:Int)))=V.int 0)],?_,by simp [hbl],?_⟩,_,rfl⟩
     . rw [List.map_append]
       rfl
     . rw [List.all_append,hba]
       have:=hP.free (2+(j:Int)) (by omega) (by omega)
       simp [this]
   . rintro ys τ H1 ⟨_,s1,hD1,⟨bs,rfl,hbl,hba⟩,_⟩
     refine⟨D,bs,rfl,.of hD1,?_⟩
     rw [hba]
     exact k _ s1
abbrev Bc:Stmt:=Oz (top 35) 2
theorem Le:FnScope ["self","sheet","edge","birth","ender","by"] ["self","sheet","edge"] (Ag Bc):=⟨rfl,rfl,rfl,by decide +kernel,rfl,by decide +kernel,by decide +kernel⟩
theorem Bx:(["self","sheet","edge","birth","ender","by"]:List Str).Nodup:=by decide +kernel
theorem Lr {f:Addr}{fd:FuncData} (F:Fun K "settled" "Growth.settled" Bc f fd) (T:Txt K mg Ac) (Ef:Has P w K mg base "counted" ["chain","prime"] 1 (Ij K)) (F2:Has P w K mg base "turned_over" ["number","prime"] 2 (Sq K)) (Zm:Has P w K mg base "plus" ["one","other"] 2 (W8 K)) (Tt:Has P w K mg base "times" ["number","chain"] 1 (Sl K)):FnOk P w K mg base CX0 3 f fd ["self","sheet","edge"] (G8 K Ac):=by
 refine F.ok Le (fun vs H Q E h=>?_) (fun Bu A outer s H vs Q E hr h=>?_)
 . obtain⟨g,pc,sh,ed,en,sa,ea,p,xs,es,ss,bs,ms,me,l,pq,rfl,x,hs,he,nse,nee,oks,oke,ks,ke,shx,nwk,hlq,k⟩:=h
   rfl
 . obtain⟨g,pc,sh,ed,en,sa,ea,p,xs,es,ss,bs,ms,me,l,pq,rfl,x,hs,he,nse,nee,oks,oke,ks,ke,shx,nwk,hlq,k⟩:=h
   have hu8:(A.deeper (PyProof.Rows.envOfC "Growth.settled" (Ag Bc) s.heap.objs.size f Bu)).units+8<cLine:=by have:=hr.units;omega
   refine⟨_,(Ae (S2 PassesOwn.never (PW.pt (Of (Ao Xr (An Pu (by rfl) T.n_len PySem.boot_len (Ab (pv 2) Af)) Ai (Ay _)) (Jx (Ao (A92 (u1 hu8)) (An (Pt (by rfl)) (by rfl) T.n_max Id (Ab (pv 2) Af)) (By (K:=K) (pv 0)) rfl)))) (Ae (As (i:=3) Bx (by rfl) (by first | exact Or.inl rfl | exact Or.inr rfl) (An (Pt (by rfl)) (by rfl) T.n_max Id (Ab (pv 2) Af)))
    (Ae (As (i:=4) Bx (by rfl) (by first | exact Or.inl rfl | exact Or.inr rfl) (Xq (u1 hu8) (By (K:=K) (pv 0)) (pv 3) (fun _ _=>rfl)))
    (Ae (As (i:=5) Bx (by rfl) (by first | exact Or.inl rfl | exact Or.inr rfl) (Az op_mulX (Ad3 Uo (Xq (u1 hu8) (pv 2) (pv 3) (fun _ _=>rfl))) (Am F2 hr (by rfl) (Ab (Xq (u1 hu8) (Ba (A3 (K:=K)) (By (K:=K) (pv 0)) (pv 4) (fun _ _=>rfl)) (pv 3) (fun _ _=>rfl)) (Ab (By (K:=K) (pv 0)) Af)))))
    (Ae (As (i:=1) Bx (by rfl) (by first | exact Or.inl rfl | exact Or.inr rfl) (Am Ef hr (by rfl) (Ab (Am Zm hr (by rfl) (Ab (pv 1) (Ab (Am Tt hr (by rfl) (Ab (pv 5) (Ab (Ba (A3 (K:=K)) (By (K:=K) (pv 0)) (pv 4) (fun _ _=>rfl)) Af))) Af))) (Ab (By (K:=K) (pv 0)) Af))))
    (Aj (As (i:=2) Bx (by rfl) (by first | exact Or.inl rfl | exact Or.inr rfl) (Am Ef hr (by rfl) (Ab (Am Zm hr (by rfl) (Ab (pv 2) (Ab (Am Tt hr (by rfl) (Ab (pv 5) (Ab (Ba (A3 (K:=K)) (By (K:=K) (pv 0)) (pv 4) (fun _ _=>rfl)) Af))) Af))) (Ab (By (K:=K) (pv 0)) Af))))))))))
    (Aj (Av (Ck (Ab (pv 1) (Ab (pv 2) Af)))))),?_⟩
   obtain⟨dx,fs,hg,l1,l2,l3,l4,l5,lm⟩:=x.ob
   have hp2:=x.pr.1.two
   have hp98:=x.pr.2
   have n40:=x.gw.n40
   refine Ar (fun σ' H'=>∃ (s' e':Addr) (ms' me':Ms) (o3 o4 o5:Option V),σ'=[some (.ref g),some (.ref s'),some (.ref e'),o3,o4,o5]/\Same H H'/\H' s'=some (.dK (cK ms'))/\H' e'=some (.dK (cK me'))/\s'≠en/\e'≠en/\OkM p ms'/\OkM p me'/\(∀ x∈A2 ms',0<=x/\x<=(xs.length:Int))/\(∀ x∈A2 me',0<=x/\x<(xs.length:Int)/\(xs.getD x.toNat []).length-1+1=l)/\Nk p xs pq ms' me'/\(∀ b,Top me' b->lookI bs b=none)) ?_ fun key=>?_
   rotate_left
   . refine⟨fun m σ' H'=>∃ (s' e':Addr) (ms' me':Ms) (o3 o4 o5:Option V),σ'=[some (.ref g),some (.ref s'),some (.ref e'),o3,o4,o5]/\Same H H'/\H' s'=some (.dK (cK ms'))/\H' e'=some (.dK (cK me'))/\s'≠en/\e'≠en/\OkM p ms'/\OkM p me'/\(∀ x∈A2 ms',0<=x/\x<=(xs.length:Int))/\(∀ x∈A2 me',0<=x/\x<(xs.length:Int)/\(xs.getD x.toNat []).length-1+1=l)/\Nk p xs pq ms' me'/\∀ x∈A2 me',x<(m:Int),⟨xs.length,sa,ea,ms,me,none,none,none,rfl,Same.refl H,hs,he,nse,nee,oks,oke,ks,ke,nwk,fun x hx=>(ke x hx).2.1⟩,?_⟩
     rintro m σ G ⟨s',e',ms',me',o3,o4,o5,rfl,g1,hs',he',ns',ne',ok1,ok2,k1,k2,hem,hlt⟩
     have xg:=x.same g1
     have hgG:=g1 _ _ hg
     refine⟨_,rfl,e',cK me',rfl,he',_,_,rfl,rfl,_,rfl,?_⟩
     by_cases hz:me'=[]
     . subst hz
       refine ite2 (fun h1=>absurd h1 (by simp [cK])) (fun _=>?_)
       refine ifN (by simp) ?_
       exact key _ _ ⟨s',e',ms',[],o3,o4,o5,rfl,g1,hs',he',ns',ne',ok1,ok2,k1,k2,hem,fun b hb=>(Top.no hb).elim⟩
     have hlen:0<me'.length:=List.length_pos_iff.mpr hz
     refine ifP (by rw [Mw];simpa using hlen) ?_
     refine⟨_,rfl,e',A2 me',cK me',rfl,he',Yc me',Yb hz,fun b hb1 hb2=>?_⟩
     have tb:Top me' b:=⟨hb1,hb2⟩
     refine⟨_,rfl,g,Ac,dx,fs,_,rfl,hgG,T.cl_Growth,T.na_Growth_enders,l5,en,cK bs,.inl b,rfl,xg.ens,rfl,_,rfl,?_⟩
     cases hlk:lookI bs b with
     | none =>
       refine ifN (by rw [R3,hlk];simp) ?_
       exact key _ _ ⟨s',e',ms',me',o3,o4,o5,rfl,g1,hs',he',ns',ne',ok1,ok2,k1,k2,hem,fun b' hb'=>by rw [Top.one hb' tb];exact hlk⟩
     | some en0 =>
       refine ifP (by rw [R3,hlk];rfl) ?_
       obtain⟨i,mi,rfl,hi,ti⟩:=(x.gw.bls b en0).mp hlk
       have hil:i<xs.length:=by rw [←x.gw.le];exact (List.getElem?_eq_some_iff.mp hi).1
       obtain⟨oki,kki⟩:=x.gw.eok i mi hi
       obtain⟨ds,d,hed,hdi,hd,nde⟩:=xg.eds.get hi
       obtain⟨si,hsi⟩:∃ si,ss[i]?=some si:=⟨_,List.getElem?_eq_getElem (by rw [x.gw.ls];exact hil)⟩
       obtain⟨okS,kS⟩:=x.gw.sok i si hsi
       obtain⟨cs,c,hsh,hci,hc,nc⟩:=xg.shs.get hsi
       obtain⟨q1,q2,q3⟩:=tb.look ok2
       obtain⟨r1,r2,r3⟩:=ti.look oki
       have hatd:atI (ds.map V.ref) (i:Int)=some (.ref d):=Co (by rw [List.getElem?_map,hdi];rfl)
       have hatc:atI (cs.map V.ref) (i:Int)=some (.ref c):=Co (by rw [List.getElem?_map,hci];rfl)
       have kS40:∀ x∈A2 si,0<=x/\x<=40:=fun x hx=>by have:=kS x hx;omega
       have kI40:∀ x∈A2 mi,0<=x/\x<=40:=fun x hx=>by have:=kki x hx;omega
       have k140:∀ x∈A2 ms',0<=x/\x<=40:=fun x hx=>by have:=k1 x hx;omega
       have k240:∀ x∈A2 me',0<=x/\x<=40:=fun x hx=>by have:=k2 x hx;omega
       refine⟨fun σ' H'=>∃ (s' e':Addr) (ms' me':Ms) (o3 o4 o5:Option V),σ'=[some (.ref g),some (.ref s'),some (.ref e'),o3,o4,o5]/\Same H H'/\H' s'=some (.dK (cK ms'))/\H' e'=some (.dK (cK me'))/\s'≠en/\e'≠en/\OkM p ms'/\OkM p me'/\(∀ x∈A2 ms',0<=x/\x<=(xs.length:Int))/\(∀ x∈A2 me',0<=x/\x<(xs.length:Int)/\(xs.getD x.toNat []).length-1+1=l)/\Nk p xs pq ms' me'/\∀ x∈A2 me',x<b,?_,?_⟩
       . rintro σ' G' ⟨s2,e2,ms2,me2,p3,p4,p5,rfl,t1,t2,t3,t4,t5,t6,t7,t8,t9,t10,t11⟩
         have b1:=hlt b tb.mem
         have b0:=(k2 b tb.mem).1
         exact ⟨b.toNat,by omega,s2,e2,ms2,me2,p3,p4,p5,rfl,t1,t2,t3,t4,t5,t6,t7,t8,t9,t10,fun x hx=>by have:=t11 x hx;omega⟩
       refine⟨_,rfl,e',A2 me',cK me',rfl,he',Yc me',Yb hz,fun b' hb1' hb2'=>?_⟩
       obtain rfl:b'=b:=Top.one ⟨hb1',hb2'⟩ tb
       refine⟨_,rfl,g,Ac,dx,fs,_,rfl,hgG,T.cl_Growth,T.na_Growth_enders,l5,_,rfl,en,.int (i:Int),rfl,Yr (.inl xg.ens) hlk,?_⟩
       refine⟨_,rfl,_,rfl,e',.int (getI me' b'),rfl,Yr (.inl he') q1,_,rfl,?_⟩
       refine⟨_,rfl,g,Ac,dx,fs,_,rfl,hgG,T.cl_Growth,T.na_Growth_edges,l4,_,rfl,ed,_,_,.ref d,rfl,rfl,.of hed,hatd,_,rfl,d,.int (getI mi b'),rfl,Yr (.inl hd) r1,_,rfl,g,Ac,dx,fs,_,rfl,hgG,T.cl_Growth,T.na_Growth_prime,l1,getI mi b',p,rfl,x.pr.1,x.pr.2,ndvd r2 r3,fun f G1 g2 f0 f1 hdv=>?_⟩
       refine⟨_,_,rfl,rfl,Ko (by omega) (by omega),?_⟩
       have hn:-(10000:Int) < -(getI me' b')*f/\-(getI me' b')*f<=0:=Ap9 q2 q3 f0 f1 hp98
       have ss1:=Xh (by omega) ok2 oki tb ti hdv
       have ss2:=Wb (p:=p) (n:=-(getI me' b')*f) (by omega) ok1 okS
       generalize hnn:-(getI me' b')*f=n at hn ss1 ss2
       have hsG:=g2 _ _ hs'
       have hcG:=g2 _ _ hc
       refine⟨_,rfl,_,rfl,_,rfl,g,Ac,dx,fs,_,rfl,g2 _ _ hgG,T.cl_Growth,T.na_Growth_sheets,l3,_,rfl,sh,_,_,_,rfl,rfl,.of (g2 _ _ hsh),hatc,n,c,si,(by rw [←hnn]<;>rfl),g2 _ _ hc,?_,fun q hq=>Ko (by omega) (by omega),fun TC1 GTC1 hTC1 gTC1 eTC1=>?_⟩
       . have:=Er okS.nd kS40
         omega
       have ltC1:(A5 n si).length<=41:=Nat.le_trans (Up ..) (Er okS.nd kS40)
       have lbC1:ms'.length<=41:=Er ok1.nd k140
       have lpC1:=Nn (A5 n si) ms'
       have ntC1:nd (A5 n si):=Nl okS.nd
       obtain⟨npC1,_,_,_⟩:=Jz (A5 n si) ms' ok1.nd ok1.nz ntC1
       refine⟨s',TC1,ms',A5 n si,rfl,.inl (gTC1 _ _ (g2 _ _ hs')),eTC1,by omega,by omega,fun PC1 GPC1 hPC1 gPC1 ePC1=>?_⟩
       have gC1:=(g2.trans gTC1).trans gPC1
       refine⟨_,rfl,g,Ac,dx,fs,_,rfl,gC1 _ _ hgG,T.cl_Growth,T.na_Growth_prime,l1,PC1,_,p,rfl,ePC1,by omega,npC1,by omega,fun C1 GC1 hC1 ggC1 eC1=>?_⟩
       have g3:=gC1.trans ggC1
       refine⟨_,rfl,_,rfl,_,rfl,g,Ac,dx,fs,_,rfl,g3 _ _ hgG,T.cl_Growth,T.na_Growth_edges,l4,_,rfl,ed,_,_,_,rfl,rfl,.of (g3 _ _ hed),hatd,n,d,mi,(by rw [←hnn]<;>rfl),g3 _ _ hd,?_,fun q hq=>Ko (by omega) (by omega),fun TC2 GTC2 hTC2 gTC2 eTC2=>?_⟩
       . have:=Er oki.nd kI40
         omega
       have ltC2:(A5 n mi).length<=41:=Nat.le_trans (Up ..) (Er oki.nd kI40)
       have lbC2:me'.length<=41:=Er ok2.nd k240
       have lpC2:=Nn (A5 n mi) me'
       have ntC2:nd (A5 n mi):=Nl oki.nd
       obtain⟨npC2,_,_,_⟩:=Jz (A5 n mi) me' ok2.nd ok2.nz ntC2
       refine⟨e',TC2,me',A5 n mi,rfl,.inl (gTC2 _ _ (g3 _ _ he')),eTC2,by omega,by omega,fun PC2 GPC2 hPC2 gPC2 ePC2=>?_⟩
       have gC2:=(g3.trans gTC2).trans gPC2
       refine⟨_,rfl,g,Ac,dx,fs,_,rfl,gC2 _ _ hgG,T.cl_Growth,T.na_Growth_prime,l1,PC2,_,p,rfl,ePC2,by omega,npC2,by omega,fun C2 GC2 hC2 ggC2 eC2=>?_⟩
       have g4:=gC2.trans ggC2
       have en1:=gC1 _ _ xg.ens
       have en2:=gC2 _ _ xg.ens
       have gg1:=((gTC2.trans gPC2).trans ggC2)
       refine⟨C1,C2,_,_,_,_,_,rfl,g1.trans g4,gg1 _ _ eC1,eC2,(Ap en1 hC1).symm,(Ap en2 hC2).symm,ss2.1,ss1.1,fun y hy=>?_,fun y hy=>?_,hem.step hp2 x.gw shx hsi hi ok1 ok2 (by have v:=(kki b' ti.mem).2.2;have w:=(k2 b' tb.mem).2.2;omega),fun y hy=>(ss1.2 y hy).1⟩
       . rcases ss2.2 y hy with z | z
         . exact k1 y z
         . have:=kS y z
           omega
       . rcases (ss1.2 y hy).2 with z | z
         . exact k2 y z
         . obtain⟨u1,u2,u3⟩:=kki y z
           obtain⟨v1,v2,v3⟩:=kki b' ti.mem
           obtain⟨w1,w2,w3⟩:=k2 b' tb.mem
           exact ⟨u1,by omega,by omega⟩
   rintro _ G ⟨s',e',ms',me',o3,o4,o5,rfl,g1,hs',he',ns',ne',ok1,ok2,k1,k2,hem,hno⟩
   refine⟨_,rfl,_,rfl,A4 (by simp),fun t ht=>?_⟩
   have st:Same G (upd G t (.tup [.ref s',.ref e'])):=Same.new ht
   exact k t s' e' ms' me' _ (g1.trans st) Ad (st _ _ hs') (st _ _ he') ns' ne' ok1 ok2 k1 k2 hno hem
abbrev Ip:Stmt:=top 45
theorem Ab5:FnScope ["_law_pieces","_law_cell","_law_level_here","_law_faces","_law_j","_law_meet"] ["_law_pieces","_law_cell"] (Ag Ip):=⟨rfl,rfl,rfl,by decide +kernel,rfl,by decide +kernel,by decide +kernel⟩
theorem Fc:(["_law_pieces","_law_cell","_law_level_here","_law_faces","_law_j","_law_meet"]:List Str).Nodup:=by decide +kernel
theorem Ae2 {f:Addr}{fd:FuncData} (F:Fun K "_law_next" "_law_next" Ip f fd) (T:Txt K mg Ac) (Tu:Has P w K mg base "_law_side" ["_law_pieces","_law_cell"] 2 (N3 K)) (Fg:Has P w K mg base "_law_meets" ["_law_pieces","_law_faces","_law_face"] 1 (Kh K)) (F4:Has P w K mg base "_law_pick" ["_law_cell","_law_j","_law_many"] 1 (Ki K)) (Bz:Has P w K mg base "_law_level" ["_law_piece"] 1 (Bg K)):FnOk P w K mg base CX0 3 f fd ["_law_pieces","_law_cell"] (N4 K):=by
 refine F.ok Ab5 (fun vs H Q E h=>?_) (fun Bu A outer s H vs Q E hr h=>?_)
 . obtain⟨a,xs,c,rfl,hL,hC,hxl,k⟩:=h
   rfl
 . obtain⟨a,xs,c,rfl,hL,hC,hxl,k⟩:=h
   refine⟨_,(Ae (As (i:=2) Fc (by rfl) (by first | exact Or.inl rfl | exact Or.inr rfl) (PEw.h (A14 (K:=K) (As0 (ns:=[0,1,1,2,1,2,3,2]) (by kernel_rfl)) (Az Bh (pv 1) Ai) (fun _ _=>rfl))))
    (Ae (As (i:=3) Fc (by rfl) (by first | exact Or.inl rfl | exact Or.inr rfl) (Ck Af))
    (Ae (Bi (Ao Do (pv 2) Ai (Ay _)) (Aj (Av (Ck Af))) Ax)
    (Ae (Ce PassesOwn.never rfl (B4 (by rfl) T.n_range (Ab (Az Dw (pv 2) Ai) Af)) (Aq (i:=4) Fc (by rfl) (by first | exact Or.inl rfl | exact Or.inr rfl)) (Ae (Jy (N':=["_law_face","_law_pieces","_law_level_here"]) (cap:=[none,some 0,some 2]) (i:=5) Fc (by rfl) (by first | exact Or.inl rfl | exact Or.inr rfl) (by rfl) (by kernel_rfl) (B4 (by rfl) T.n_range (Ab (An (Ak (K:=K)) (by rfl) T.n_len PySem.boot_len (Ab (pv 0) Af)) Af)) (fun _ _ _ _=>(Aq (i:=0) Bb1 (by rfl) (by first | exact Or.inl rfl | exact Or.inr rfl))) (fun _ _ _ _=>(D9 (Ao Do (Az Dw (Am Bz hr (by rfl) (Ab (Ba (A3 (K:=K)) (pv 1) (pv 0) (fun _ _=>rfl)) Af)) Ai) (pv 2) (Ay _)))) (fun _ _ _ _=>(pv 0)))
    (Ae (Jy (N':=["_law_face","_law_pieces","_law_faces"]) (cap:=[none,some 0,some 3]) (i:=5) Fc (by rfl) (by first | exact Or.inl rfl | exact Or.inr rfl) (by rfl) (by kernel_rfl) (Bo (K:=K) (pv 5)) (fun _ _ _ _=>(Aq (i:=0) Bb2 (by rfl) (by first | exact Or.inl rfl | exact Or.inr rfl))) (fun _ _ _ _=>(D9 (Ea (Am Fg hr (by rfl) (Ab (pv 1) (Ab (pv 2) (Ab (pv 0) Af))))))) (fun _ _ _ _=>(pv 0)))
    (Ae (Bi (Ao Do (An (Ak (K:=K)) (by rfl) T.n_len PySem.boot_len (Ab (pv 5) Af)) Ai (Ay _)) (Ae (Bi (PW.pt (Of (Ao Xr (pv 2) Ai (Ay _)) (Jx (Ao Do (pv 4) (pv 2) (Ay _))))) (Aj (Av (Dn (Dk (K:=K)) (by rfl) T.n_tuple Dg (Ab (Cn (N':=["_law_face","_law_pieces","_law_j"]) (cap:=[none,some 0,some 4]) (by rfl) (by kernel_rfl) (Lz (K:=K) (pv 3)) (fun _ _ _ _=>(Aq (i:=0) Bb3 (by rfl) (by first | exact Or.inl rfl | exact Or.inr rfl))) (fun _ _ _ _=>Dd) (fun _ _ _ _=>(Ba (A7 (K:=K)) (Ba (A3 (K:=K)) (pv 1) (pv 0) (fun _ _=>rfl)) (Az Gf (pv 2) Ai) (fun _ _=>rfl)))) Af)))) Ax)
    (Aj (Av (Am Tu hr (by rfl) (Ab (pv 0) (Ab (pv 1) Af)))))) Ax)
    (Aj (As (i:=3) Fc (by rfl) (by first | exact Or.inl rfl | exact Or.inr rfl) (Az (Kr (K:=K)) (pv 3) (Ck (Ab (Ba (A3 (K:=K)) (pv 5) (Am F4 hr (by rfl) (Ab (pv 1) (Ab (pv 4) (Ab (An (Ak (K:=K)) (by rfl) T.n_len PySem.boot_len (Ab (pv 5) Af)) Af)))) (fun _ _=>rfl)) Af)))))))))
    (Aj (Av (pv 3))))))),?_⟩
   obtain⟨us,hq,ul⟩:=LT.len hL
   have p8:(0:Int)<8:=by decide
   have c0:=Int.emod_nonneg c (show (8:Int)≠0 by decide)
   have c1:=Int.emod_lt_of_pos c p8
   refine Ar (fun σ' H'=>∃ lh:Int,σ'=[some (.ref a),some (.int c),some (.int lh),none,none,none]/\Same H H'/\0<=lh/\lh<=3) ?_ fun key=>?_
   rotate_left
   . refine⟨A4 (by simp),fun T1 hT1=>?_⟩
     obtain⟨x,hx,x0,x1⟩:∃ x,atI (([0,1,1,2,1,2,3,2]:List Int).map V.int) (c%8)=some (.int x)/\0<=x/\x<=3:=by
      rcases (show c%8=0\/c%8=1\/c%8=2\/c%8=3\/c%8=4\/c%8=5\/c%8=6\/c%8=7 by omega) with e | e | e | e | e | e | e | e<;>rw [e]<;>exact ⟨_,rfl,by decide,by decide⟩
     refine⟨_,rfl,_,_,rfl,rfl,p8,T1,_,_,_,rfl,rfl,.of Ad,hx,?_⟩
     exact key _ _ ⟨x,rfl,Same.new hT1,x0,x1⟩
   rintro _ H1 ⟨lh,rfl,s1,l0,l3⟩
   refine Ar (fun σ' H'=>∃ F0:Addr,σ'=[some (.ref a),some (.int c),some (.int lh),some (.ref F0),none,none]/\Same H H'/\H' F0=some (.tup [])) ?_ fun key=>?_
   rotate_left
   . refine⟨Nat.zero_le _,fun F0 hF0=>?_⟩
     exact key _ _ ⟨F0,rfl,s1.trans (Same.new hF0),Ad⟩
   rintro _ H2 ⟨F0,rfl,s2,hF0⟩
   refine Ar (fun σ' H'=>σ'=[some (.ref a),some (.int c),some (.int lh),some (.ref F0),none,none]/\H2=H'/\¬lh=0) ?_ fun key=>?_
   rotate_left
   . refine⟨_,rfl,rfl,_,rfl,?_⟩
     refine ite2 (fun _=>?_) (fun h=>key _ _ ⟨rfl,rfl,by simpa using h⟩)
     refine⟨Nat.zero_le _,fun T1 hT1=>?_⟩
     exact k (.ref T1) [] _ (s2.trans (Same.new hT1)) (TI.mk (.of Ad))
   rintro _ _ ⟨rfl,rfl,hl0⟩
   refine⟨_,rfl,_,_,rfl,rfl,_,rfl,by omega,by omega,?_⟩
   refine B6 (lo:=0) (n:=(lh+1).toNat) (fun j σ G=>∃ (v:V) (fs:List Int) (o4 o5:Option V),σ=[some (.ref a),some (.int c),some (.int lh),some v,o4,o5]/\Same H G/\TI K G v fs/\fs.length=j/\(∀ x∈fs,0<=x/\x<(xs.length:Int)/\levI (xs.getD x.toNat []).length+1=lh))
    ⟨.ref F0,[],none,none,rfl,s2,TI.mk (.of hF0),rfl,fun x hx=>by cases hx⟩ ?_ ?_
   . rintro j σ G hj ⟨v,fs,o4,o5,rfl,g,tv,hfl,hfs⟩
     rw [show (0:Int)+(j:Int)=(j:Int) by omega]
     have hjl:(j:Int)<=lh:=by omega
     refine Ar (fun σ' H'=>∃ (M:Addr) (ms:List Int),σ'=[some (.ref a),some (.int c),some (.int lh),some v,some (.int (j:Int)),some (.ref M)]/\Same G H'/\H' M=some (.lst (ms.map V.int))/\ms.length<=1000/\∀ x∈ms,0<=x/\x<(xs.length:Int)/\levI (xs.getD x.toNat []).length+1=lh) ?_ fun key=>?_
     rotate_left
     . refine⟨_,rfl,a,us,rfl,.inl (g.seq hq),_,rfl,by omega,by omega,fun D hD=>?_⟩
       refine Fi (fun i ys τ G1=>Same G G1/\G1 D=some (.lst ys)/\(∃ ms:List Int,ys=ms.map V.int/\ms.length<=i/\∀ x∈ms,0<=x/\x<(xs.length:Int)/\levI (xs.getD x.toNat []).length+1=lh)/\∃ o,τ=[o,some (.ref a),some (.int lh)])
        ⟨Same.new hD,Ad,⟨[],rfl,Nat.le_refl _,fun x hx=>(by cases hx)⟩,none,rfl⟩ ?_ ?_
       . rintro i ys τ G1 hi ⟨g1,hDG,⟨ms,rfl,hml,hms⟩,o,rfl⟩
         rw [show (0:Int)+(i:Int)=(i:Int) by omega]
         have hi2:i<xs.length:=by omega
         obtain⟨u1,v1,hu1,av1,tv1⟩:=LT.get (i:=(i:Int)) (Rep.same (g.trans g1) hL) (by omega) (by omega)
         refine⟨_,rfl,_,rfl,a,u1,_,v1,rfl,rfl,hu1,av1,v1,nums _,rfl,.inr tv1,_,_,rfl,rfl,_,rfl,rfl,_,rfl,?_⟩
         rw [show (nums (xs.getD ((i:Int)).toNat [])).length=(xs.getD ((i:Int)).toNat []).length from List.length_map ..]
         refine ite2 (fun h1=>?_) (fun h1=>?_)
         . have e:levI (xs.getD ((i:Int)).toNat []).length+1=lh:=by
            by_cases z:levI (xs.getD ((i:Int)).toNat []).length+1=lh
            . exact z
            . exact absurd h1 (noI z)
           refine⟨_,rfl,hDG,Cc (by rw [List.length_map];omega),g1.turn hD,Ad,⟨ms++[(i:Int)],by simp,by simp;omega,fun x hx=>?_⟩,_,rfl⟩
           rcases List.mem_append.mp hx with z | z
           . exact hms x z
           . rw [List.mem_singleton] at z
             subst z
             exact ⟨by omega,by omega,e⟩
         . exact ⟨g1,hDG,⟨ms,rfl,by omega,hms⟩,_,rfl⟩
       . rintro ys τ G1 ⟨g1,hDG,⟨ms,rfl,hml,hms⟩,_⟩
         exact key _ _ ⟨D,ms,rfl,g1,hDG,by omega,hms⟩
     rintro _ G1 ⟨M1,ms1,rfl,g1,hM1,hml1,hms1⟩
     have tv1:=TI.same g1 tv
     have gg1:=g.trans g1
     refine Ar (fun σ' H'=>∃ (M:Addr) (ms:List Int),σ'=[some (.ref a),some (.int c),some (.int lh),some v,some (.int (j:Int)),some (.ref M)]/\Same G1 H'/\H' M=some (.lst (ms.map V.int))/\ms.length<=1000/\∀ x∈ms,0<=x/\x<(xs.length:Int)/\levI (xs.getD x.toNat []).length+1=lh) ?_ fun key=>?_
     rotate_left
     . refine⟨_,rfl,M1,rfl,⟨_,.of hM1⟩,fun D hD=>?_⟩
       refine Hz (K:=K) (a:=M1) (xs:=ms1.map V.int) (fun i ys τ G2=>Same G1 G2/\G2 D=some (.lst ys)/\(∃ ms:List Int,ys=ms.map V.int/\ms.length<=i/\∀ x∈ms,0<=x/\x<(xs.length:Int)/\levI (xs.getD x.toNat []).length+1=lh)/\∃ o,τ=[o,some (.ref a),some v])
        ⟨Same.new hD,Ad,⟨[],rfl,Nat.le_refl _,fun x hx=>(by cases hx)⟩,none,rfl⟩ (fun i ys τ G2 _ ⟨g2,_⟩=>.of (g2 _ _ hM1)) ?_ ?_
       . rintro i y ys τ G2 hy ⟨g2,hDG,⟨ms,rfl,hml,hms⟩,o,rfl⟩
         have hi:i<ms1.length:=by have:=(List.getElem?_eq_some_iff.mp hy).1;simpa using this
         have hyv:y=.int ms1[i]:=by
          rw [List.getElem?_map,List.getElem?_eq_getElem hi] at hy
          simpa using hy.symm
         subst hyv
         obtain⟨x0,x1,x2⟩:=hms1 _ (List.getElem_mem hi)
         generalize ms1[i]=x at x0 x1 x2
         refine⟨_,rfl,_,rfl,_,rfl,a,v,xs,fs,x,rfl,Rep.same (gg1.trans g2) hL,TI.same g2 tv1,x0,x1,fun y hy=>⟨(hfs y hy).1,(hfs y hy).2.1⟩,by omega,(by
         have hcx:=hC.at x0 x1
         rw [Ca] at x2
         by_cases hz:(xs.getD x.toNat []).length=0
         . exact .inl hz
         . refine .inr ⟨by omega,fun y hy=>?_⟩
           obtain⟨y0,y1,y2⟩:=hfs y hy
           have hcy:=hC.at y0 y1
           rw [Ca] at y2
           omega),?_⟩
         refine⟨_,rfl,?_⟩
         refine ite2 (fun h1=>?_) (fun h1=>?_)
         . refine⟨_,rfl,hDG,Cc (by rw [List.length_map];omega),g2.turn hD,Ad,⟨ms++[x],by simp,by simp;omega,fun y hy=>?_⟩,_,rfl⟩
           rcases List.mem_append.mp hy with z | z
           . exact hms y z
           . rw [List.mem_singleton] at z
             subst z
             exact ⟨x0,x1,x2⟩
         . exact ⟨g2,hDG,⟨ms,rfl,by omega,hms⟩,_,rfl⟩
       . rintro ys τ G2 ⟨g2,hDG,⟨ms,rfl,hml,hms⟩,_⟩
         rw [List.length_map] at hml
         exact key _ _ ⟨D,ms,rfl,g2,hDG,by omega,hms⟩
     rintro _ G2 ⟨M,ms,rfl,g2,hM,hml,hms⟩
     have gg:=gg1.trans g2
     have tv2:=TI.same g2 tv1
     have me:(ms.map V.int).length=ms.length:=List.length_map ..
     obtain⟨af,rfl,sqf⟩:=TI.sq tv2
     refine Ar (fun σ' H'=>σ'=[some (.ref a),some (.int c),some (.int lh),some (.ref af),some (.int (j:Int)),some (.ref M)]/\G2=H'/\0<(ms.length:Int)) ?_ fun key=>?_
     rotate_left
     . refine⟨_,rfl,M,_,rfl,.inl (.of hM),rfl,_,rfl,?_⟩
       rw [me]
       refine ite2 (fun h1=>?_) (fun h1=>?_)
       rotate_left
       . have:¬ms.length=0:=fun z=>h1 (by rw [z];rfl)
         exact key _ _ ⟨rfl,rfl,by omega⟩
       refine⟨_,rfl,_,_,rfl,rfl,_,rfl,?_⟩
       refine ite2 (fun h2=>?_) (fun h2=>?_)
       rotate_left
       . refine ifN (by simp) ?_
         exact ⟨_,rfl,_,rfl,a,xs,c,rfl,Rep.same gg hL,hxl,fun w p H' s' tw=>k w p H' (gg.trans s') tw⟩
       refine⟨_,rfl,_,rfl,rfl,_,rfl,?_⟩
       refine ite2 (fun h3=>?_) (fun h3=>?_)
       rotate_left
       . exact ⟨_,rfl,_,rfl,a,xs,c,rfl,Rep.same gg hL,hxl,fun w p H' s' tw=>k w p H' (gg.trans s') tw⟩
       have hlh:1<lh:=by simpa using h2
       have hje:(j:Int)=lh:=by simpa using h3
       refine⟨_,rfl,af,rfl,⟨_,sqf⟩,fun D hD=>?_⟩
       refine Pk (K:=K) (a:=af) (xs:=fs.map V.int) (fun i ys τ G3=>Same G2 G3/\G3 D=some (.lst ys)/\(∃ ps:List Int,ys=ps.map V.int/\ps.length<=i)/\∃ o,τ=[o,some (.ref a),some (.int (j:Int))])
        ⟨Same.new hD,Ad,⟨[],rfl,Nat.le_refl _⟩,none,rfl⟩ (fun i ys τ G3 _ ⟨g3,_⟩=>g3.seqT sqf) ?_ ?_
       . rintro i y ys τ G3 hy ⟨g3,hDG,⟨ps,rfl,hpl⟩,o,rfl⟩
         have hi:i<fs.length:=by have:=(List.getElem?_eq_some_iff.mp hy).1;simpa using this
         have hyv:y=.int fs[i]:=by
          rw [List.getElem?_map,List.getElem?_eq_getElem hi] at hy
          simpa using hy.symm
         subst hyv
         obtain⟨x0,x1,x2⟩:=hfs _ (List.getElem_mem hi)
         generalize fs[i]=x at x0 x1 x2
         have hcx:=hC.at x0 x1
         rw [Ca] at x2
         obtain⟨u1,v1,hu1,av1,tv1'⟩:=LT.get (Rep.same (gg.trans g3) hL) x0 x1
         obtain⟨b1,rfl,hb1⟩:=tv1'.sq
         refine⟨_,rfl,_,rfl,a,u1,_,_,rfl,rfl,hu1,av1,_,rfl,_,_,rfl,rfl,b1,_,_,_,rfl,rfl,hb1,My (by omega) (by omega),hDG,Cc (by rw [List.length_map];omega),g3.turn hD,Ad,⟨ps++[_],by rw [List.map_append];rfl,by simp;omega⟩,_,rfl⟩
       . rintro ys τ G3 ⟨g3,hDG,⟨ps,rfl,hpl⟩,_⟩
         refine⟨D,_,rfl,.inl ⟨.of hDG,fun T1 hT1=>?_⟩⟩
         exact k (.ref T1) ps _ ((gg.trans g3).trans (Same.new hT1)) (TI.mk (.of Ad))
     rintro _ _ ⟨rfl,rfl,hpos⟩
     refine⟨_,rfl,_,rfl,_,rfl,_,rfl,_,rfl,M,_,rfl,.inl (.of hM),_,_,_,rfl,by rw [me];exact hpos,fun r G4 g4 r0 r1=>?_⟩
     rw [me] at r1
     have hmm:ms.getD r.toNat 0∈ms:=Cu (by omega)
     have hmr:=hms _ hmm
     refine⟨M,_,_,_,rfl,rfl,.of (g4 _ _ hM),My r0 r1,A4 (by simp),fun pt hpt=>?_⟩
     generalize ms.getD r.toNat 0=q at hmr
     have s3:Same G4 (upd G4 pt (.tup [.int q])):=Same.new hpt
     refine⟨af,pt,_,_,rfl,rfl,(g4.trans s3).seqT sqf,.of Ad,A4 (by simp;omega),fun p3 H3 s4 q3=>?_⟩
     refine⟨.ref p3,fs++[q],_,_,rfl,((gg.trans g4).trans s3).trans s4,TI.mk ?_,by simp [hfl],fun x hx=>?_⟩
     . rw [List.map_append]
       exact q3
     . rcases List.mem_append.mp hx with z | z
       . exact hfs x z
       . rw [List.mem_singleton] at z
         subst z
         exact hmr
   . rintro σ G ⟨v,fs,o4,o5,rfl,g,tv,hfl,hfs⟩
     exact ⟨_,rfl,k v fs G g tv⟩
abbrev Cd:Stmt:=top 49
theorem Sz:FnScope ["_law_kind","_law_cells","_law_most","_law_family","_law_words","_law_cell","_law_more"] ["_law_kind","_law_cells","_law_most"] (Ag Cd):=⟨rfl,rfl,rfl,by decide +kernel,rfl,by decide +kernel,by decide +kernel⟩
theorem B2:(["_law_kind","_law_cells","_law_most","_law_family","_law_words","_law_cell","_law_more"]:List Str).Nodup:=by decide +kernel
theorem Tc {f:Addr}{fd:FuncData} (F:Fun K "_law_shape_by" "_law_shape_by" Cd f fd) (T:Txt K mg Ac) (Ex:Has P w K mg base "_law_words_with" ["_law_words","_law_word","_law_family"] 2 (D8 K)) (J5:Has P w K mg base "_law_word_by" ["_law_cell","_law_family","_law_letters"] 1 (Gy K)) (C0:Has P w K mg base "_law_faces_by" ["_law_word","_law_family"] 1 (Dz K)):FnOk P w K mg base CX0 3 f fd ["_law_kind","_law_cells","_law_most"] (Ju K):=by
 refine F.ok Sz (fun vs H Q E h=>?_) (fun Bu A outer s H vs Q E hr h=>?_)
 . obtain⟨a,ns,kind,most,rfl,hS,hl,hm0,hm1,k⟩:=h
   rfl
 . obtain⟨a,ns,kind,most,rfl,hS,hl,hm0,hm1,k⟩:=h
   have hu8:(A.deeper (PyProof.Rows.envOfC "_law_shape_by" (Ag Cd) s.heap.objs.size f Bu)).units+8<cLine:=by have:=hr.units;omega
   refine⟨_,(Ae (As (i:=3) B2 (by rfl) (by first | exact Or.inl rfl | exact Or.inr rfl) Ai)
    (Ae (Bi (Ao Do (Az Bh (pv 0) Ai) Ai (Ay _)) (Aj (As (i:=3) B2 (by rfl) (by first | exact Or.inl rfl | exact Or.inr rfl) (Ad3 Uo Ai))) Ax)
    (Ae (Bi (Ao Do (Az Bh (pv 0) Ai) Ai (Ay _)) (Aj (As (i:=3) B2 (by rfl) (by first | exact Or.inl rfl | exact Or.inr rfl) (Az Dw Ai (Az Bh (Az Fv (pv 0) Ai) Ai)))) Ax)
    (Ae (As (i:=4) B2 (by rfl) (by first | exact Or.inl rfl | exact Or.inr rfl) (Dv Af))
    (Ae (Ce PassesOwn.never rfl (Bo (K:=K) (pv 1)) (Aq (i:=5) B2 (by rfl) (by first | exact Or.inl rfl | exact Or.inr rfl)) (Ae (As (i:=6) B2 (by rfl) (by first | exact Or.inl rfl | exact Or.inr rfl) (Am Ex hr (by rfl) (Ab (pv 4) (Ab (Am J5 hr (by rfl) (Ab (pv 5) (Ab (pv 3) (Ab (Az Dw Ai (Az Bh (Az Fv (pv 0) Ai) Ai)) Af)))) (Ab (pv 3) Af)))))
    (Aj (Bi (Ao A91 (An (Ak (K:=K)) (by rfl) T.n_len PySem.boot_len (Ab (pv 6) Af)) (pv 2) (Ay _)) (Aj (As (i:=4) B2 (by rfl) (by first | exact Or.inl rfl | exact Or.inr rfl) (pv 6))) Ax))))
    (Aj (Av (Cn (N':=["_law_word","_law_family","_law_words"]) (cap:=[none,some 3,some 4]) (by rfl) (by kernel_rfl) (Bo (K:=K) (pv 4)) (fun _ _ _ _=>(Aq (i:=0) Ba8 (by rfl) (by first | exact Or.inl rfl | exact Or.inr rfl))) (fun _ _ _ _=>Dd) (fun _ _ _ _=>(Dn (Dk (K:=K)) (by rfl) T.n_tuple Dg (Ab (Cn (N':=["_law_face","_law_words"]) (cap:=[none,some 2]) (by rfl) (by kernel_rfl) (Bo (K:=K) (Am C0 hr (by rfl) (Ab (pv 0) (Ab (pv 1) Af)))) (fun _ _ _ _=>(Aq (i:=0) Ba7 (by rfl) (by first | exact Or.inl rfl | exact Or.inr rfl))) (fun _ _ _ _=>Dd) (fun _ _ _ _=>(Gj (K:=K) PySem.F.plainAttrs_list PySem.F.slot_list_index PySem.F.type_list_index (Ah1 (K:=K) hu8) (pv 1) (Ab (pv 0) Af)))) Af))))))))))),?_⟩
   refine Ar (fun σ' H'=>σ'=[some (.int kind),some (.ref a),some (.int most),some (.int 0),none,none,none]/\H=H') ?_ fun key0=>key0 _ _ ⟨rfl,rfl⟩
   rintro _ _ ⟨rfl,rfl⟩
   refine Ar (fun σ' H'=>∃ fam:Int,σ'=[some (.int kind),some (.ref a),some (.int most),some (.int fam),none,none,none]/\H=H'/\fam<100) ?_ fun key1=>?_
   rotate_left
   . refine⟨_,rfl,_,_,rfl,rfl,(by show (0:Int)<3;decide),rfl,_,rfl,?_⟩
     refine ite2 (fun _=>?_) (fun _=>?_)
     . exact ⟨_,rfl,key1 _ _ ⟨-1,rfl,rfl,by decide⟩⟩
     . exact key1 _ _ ⟨0,rfl,rfl,by decide⟩
   rintro _ _ ⟨fam0,rfl,rfl,hf0⟩
   refine Ar (fun σ' H'=>∃ fam:Int,σ'=[some (.int kind),some (.ref a),some (.int most),some (.int fam),none,none,none]/\H=H'/\fam<100) ?_ fun key2=>?_
   rotate_left
   . refine⟨_,rfl,_,_,rfl,rfl,(by show (0:Int)<3;decide),rfl,_,rfl,?_⟩
     refine ite2 (fun _=>?_) (fun _=>?_)
     . refine⟨_,rfl,_,_,rfl,rfl,⟨by decide,by decide⟩,_,_,rfl,rfl,(by show (0:Int)<19;decide),_,_,rfl,rfl,key2 _ _ ⟨_,rfl,rfl,?_⟩⟩
       have:kind / 18%19<19:=Int.emod_lt_of_pos _ (by decide)
       omega
     . exact key2 _ _ ⟨fam0,rfl,rfl,hf0⟩
   rintro _ _ ⟨fam,rfl,rfl,hf⟩
   have l1:0<=kind / 3%6:=Int.emod_nonneg _ (by decide)
   have l2:kind / 3%6<6:=Int.emod_lt_of_pos _ (by decide)
   refine⟨Nat.zero_le _,fun W0 hW0=>?_⟩
   have s0:Same H (upd H W0 (.lst [])):=Same.new hW0
   refine⟨_,rfl,a,rfl,⟨_,s0.seq hS⟩,for_list (K:=K) (a:=a) (xs:=ns.map V.int)
    (fun j σ H2=>∃ (W:Addr) (wu:List V) (ws:List (List Int)) (o5 o6:Option V),σ=[some (.int kind),some (.ref a),some (.int most),some (.int fam),some (.ref W),o5,o6]/\Same H H2/\H W=none/\H2 W=some (.lst wu) ∧
      Reps K H2 wu (ws.map tI)/\Ord fam ws/\(ws.length:Int)<=most)
    ⟨W0,[],[],none,none,rfl,s0,hW0,Ad,rfl,Ord.nil,by simpa using hm0⟩ (fun j σ H2 _ ⟨_,_,_,_,_,_,s2,_⟩=>s2.seq hS) ?_ ?_⟩
   . rintro j x σ H2 hx ⟨W,wu,ws,o5,o6,rfl,s2,hW,hW2,rW,hO,hwl⟩
     have hjn:j<ns.length:=by have:=(List.getElem?_eq_some_iff.mp hx).1;simpa using this
     have hxv:x=.int ns[j]:=by
      rw [List.getElem?_map,List.getElem?_eq_getElem hjn] at hx
      simpa using hx.symm
     subst hxv
     refine⟨_,rfl,_,rfl,_,rfl,_,rfl,_,_,rfl,rfl,⟨by decide,by decide⟩,_,_,rfl,rfl,(by show (0:Int)<6;decide),_,_,rfl,rfl,?_⟩
     refine⟨_,_,_,rfl,by omega,by omega,by omega,fun v H3 w s3 tv hw=>?_⟩
     refine⟨_,rfl,?_⟩
     refine⟨W,wu,v,ws,w,fam,rfl,s3 _ _ hW2,Reps.same s3 rW,tv,hw,by omega,fun M mu H4 hM s4 hM4 rM=>?_⟩
     have s24:=s3.trans s4
     have hMH:H M=none:=(s2.trans s3).free hM
     have mul:mu.length=(Ke ws w fam).length:=by have:=rM.length;simpa using this
     refine⟨_,rfl,M,_,rfl,.inl (.of hM4),_,rfl,_,_,rfl,rfl,_,rfl,?_⟩
     refine ite2 (fun h1=>?_) (fun h1=>?_)
     . have h2:(mu.length:Int)<=most:=by simpa using h1
       exact ⟨_,rfl,M,mu,Ke ws w fam,_,_,rfl,s2.trans s24,hMH,hM4,rM,Sf hO hw,by omega⟩
     . exact ⟨W,wu,ws,_,_,rfl,s2.trans s24,hW,s24 _ _ hW2,Reps.same s24 rW,hO,hwl⟩
   . rintro σ H2 ⟨W,wu,ws,o5,o6,rfl,s2,hW,hW2,rW,hO,hwl⟩
     have wul:wu.length=ws.length:=by have:=rW.length;simpa using this
     refine⟨_,rfl,W,rfl,⟨_,.of hW2⟩,fun D hD=>?_⟩
     have hDH:H D=none:=s2.free hD
     refine Mh (K:=K) (a:=W) (xs:=wu) (fun i ys τ H1=>Same H2 H1/\H1 D=some (.lst ys)/\Reps K H1 ys (((ws.take i).map fun w=>(Al w fam).map fun f=>(idx ws f:Int)).map tI)/\∃ o,τ=[o,some (.int fam),some (.ref W)])
      ⟨Same.new hD,Ad,rfl,none,rfl⟩ (fun i ys τ H1 _ ⟨s1,_⟩=>.of (s1 _ _ hW2)) ?_ ?_
     . rintro i x ys τ H1 hx ⟨s1,hD1,r1,o,rfl⟩
       have hi:i<wu.length:=(List.getElem?_eq_some_iff.mp hx).1
       have hil:i<ws.length:=by omega
       have hix:(ws.map tI)[i]?=some (tI ws[i]):=by rw [List.getElem?_map,List.getElem?_eq_getElem hil];rfl
       obtain⟨x',hx',tx⟩:=rW.get hix
       rw [hx] at hx'
       cases hx'
       obtain⟨hwi,hfi⟩:=hO.mem (List.getElem_mem hil)
       generalize hwe:ws[i]=w at tx hwi hfi
       refine⟨_,rfl,_,rfl,x,w,fam,rfl,TI.same s1 tx,hwi,fun p fu H3 hp s3 hp3 r3=>?_⟩
       have ful:fu.length=(Al w fam).length:=by have:=r3.length;simpa using this
       have s13:=s1.trans s3
       refine⟨p,rfl,⟨_,.of hp3⟩,fun D2 hD2=>?_⟩
       refine Mh (K:=K) (a:=p) (xs:=fu) (fun m zs τ H4=>Same H3 H4/\H4 D2=some (.lst zs)/\zs=((Al w fam).take m).map (fun f=>V.int (idx ws f:Int))/\∃ o,τ=[o,some (.ref W)])
        ⟨Same.new hD2,Ad,rfl,none,rfl⟩ (fun m zs τ H4 _ ⟨s4,_⟩=>.of (s4 _ _ hp3)) ?_ ?_
       . rintro m y zs τ H4 hy ⟨s4,hD4,hzs,o,rfl⟩
         have hm:m<fu.length:=(List.getElem?_eq_some_iff.mp hy).1
         have hmf:m<(Al w fam).length:=by omega
         have hmy:((Al w fam).map tI)[m]?=some (tI (Al w fam)[m]):=by rw [List.getElem?_map,List.getElem?_eq_getElem hmf];rfl
         obtain⟨y',hy',ty⟩:=r3.get hmy
         rw [hy] at hy'
         cases hy'
         have hfm:(Al w fam)[m]∈ws:=hfi _ (List.getElem_mem _)
         have s14:=s13.trans s4
         have rw4:Rep K H4 (.ref W) (.lst (ws.map tI)):=⟨W,wu,rfl,.of (s14 _ _ hW2),Reps.same s14 rW⟩
         have hfl:=(Fh hwi)
         have hzl:zs.length<=4:=by
          rw [hzs,List.length_map,List.length_take]
          have:=hfl.2
          have:=hfl.1
          split at this<;>omega
         refine⟨_,rfl,.inl ⟨rfl,_,.of (s14 _ _ hW2)⟩,_,rfl,ws.map tI,y,tI (Al w fam)[m],idx ws (Al w fam)[m],rfl,rw4,TI.same s4 ty,(by have:=Kt ws;omega),o0 hfm,?_⟩
         refine⟨hD4,Cc (by omega),s4.turn hD2,Ad,?_,_,rfl⟩
         rw [List.take_succ,List.getElem?_eq_getElem hmf,List.map_append,hzs]
         rfl
       . rintro zs τ H4 ⟨s4,hD4,hzs,_⟩
         rw [ful,List.take_length] at hzs
         have s14:=s13.trans s4
         refine⟨D2,_,rfl,.inl ⟨.of hD4,fun T hT=>?_⟩⟩
         have s5:Same H4 (upd H4 T (.tup zs)):=Same.new hT
         have hD5:=(s3.trans (s4.trans s5)) _ _ hD1
         have t5:TI K (upd H4 T (.tup zs)) (.ref T) ((Al w fam).map fun f=>(idx ws f:Int)):=by
          refine TI.mk (.of ?_)
          rw [List.map_map,Ad,hzs]
          rfl
         have hyl:ys.length=i:=by have:=r1.length;simp at this;omega
         refine⟨hD5,Cc (by omega),(s14.trans s5).turn hD,Ad,?_,_,rfl⟩
         have e2:(ws.take (i+1)).map (fun w=>(Al w fam).map fun f=>(idx ws f:Int))=(ws.take i).map (fun w=>(Al w fam).map fun f=>(idx ws f:Int))++[(Al w fam).map fun f=>(idx ws f:Int)]:=by
          rw [List.take_succ,List.getElem?_eq_getElem hil,hwe,List.map_append]
          rfl
         rw [e2]
         exact Fs hD5 (Reps.same (s3.trans (s4.trans s5)) r1) t5
     . rintro ys τ H1 ⟨s1,hD1,r1,_⟩
       rw [wul,List.take_length] at r1
       exact k D ys H1 (Jw ws fam) hDH (s2.trans s1) hD1 r1 (Sx hO) (by unfold Jw;rw [List.length_map];exact hwl)
abbrev Lg:Stmt:=top 54
theorem Aq4:FnScope ["_law_pieces","_law_k","_law_prime_here","_law_many"] ["_law_pieces","_law_k","_law_prime_here"] (Ag Lg):=⟨rfl,rfl,rfl,by decide +kernel,rfl,by decide +kernel,by decide +kernel⟩
theorem Zj:(["_law_pieces","_law_k","_law_prime_here","_law_many"]:List Str).Nodup:=by decide +kernel
theorem As6 {f:Addr}{fd:FuncData} (F:Fun K "_law_due" "_law_due" Lg f fd) (T:Txt K mg Ac) (No:Has P w K mg base "_law_rank" ["_law_rows","_law_prime_here"] 1 (Sn K)) (C4:Has P w K mg base "_law_border_rows" ["_law_pieces","_law_k"] 2 (Sm K)) (Bz:Has P w K mg base "_law_level" ["_law_piece"] 1 (Bg K)):FnOk P w K mg base CX0 3 f fd ["_law_pieces","_law_k","_law_prime_here"] (W9 K):=by
 refine F.ok Aq4 (fun vs H Q E h=>?_) (fun Bu A outer s H vs Q E hr h=>?_)
 . obtain⟨a,xs,k0,p,rfl,hL,ok,hp,hp98,k⟩:=h
   rfl
 . obtain⟨a,xs,k0,p,rfl,hL,ok,hp,hp98,k⟩:=h
   refine⟨_,(Ae (As (i:=3) Zj (by rfl) (by first | exact Or.inl rfl | exact Or.inr rfl) (An (Ak (K:=K)) (by rfl) T.n_len PySem.boot_len (Ab (Cn (N':=["_law_piece","_law_k"]) (cap:=[none,some 1]) (by rfl) (by kernel_rfl) (Bo (K:=K) (pv 0)) (fun _ _ _ _=>(Aq (i:=0) Ba3 (by rfl) (by first | exact Or.inl rfl | exact Or.inr rfl))) (fun _ _ _ _=>(D9 (Ao Do (Am Bz hr (by rfl) (Ab (pv 0) Af)) (pv 1) (Ay _)))) (fun _ _ _ _=>(pv 0))) Af)))
    (Ae (As (i:=3) Zj (by rfl) (by first | exact Or.inl rfl | exact Or.inr rfl) (Az Gf (pv 3) (Am No hr (by rfl) (Ab (Am C4 hr (by rfl) (Ab (pv 0) (Ab (pv 1) Af))) (Ab (pv 2) Af)))))
    (Aj (Av (Az Gf (pv 3) (Am No hr (by rfl) (Ab (Am C4 hr (by rfl) (Ab (pv 0) (Ab (Az Dw (pv 1) Ai) Af))) (Ab (pv 2) Af)))))))),?_⟩
   obtain⟨_,us,z,hq,r⟩:=id hL
   cases z
   have hul:us.length=xs.length:=by have:=r.length;simpa using this
   have h40:=ok.le
   refine Ar (fun σ' H'=>σ'=[some (.ref a),some (.int k0),some (.int p),some (.int (cntK k0 xs:Nat))]/\Same H H') ?_ fun key=>?_
   rotate_left
   . refine⟨_,rfl,a,rfl,⟨_,hq⟩,fun D hD=>?_⟩
     refine Hz (K:=K) (a:=a) (xs:=us) (fun i ys τ G=>Same H G/\G D=some (.lst ys)/\ys.length=cntK k0 (xs.take i)/\ys.length<=i/\∃ o,τ=[o,some (.int k0)])
      ⟨Same.new hD,Ad,rfl,Nat.le_refl _,none,rfl⟩ (fun i ys τ G _ ⟨s1,_⟩=>s1.seq hq) ?_ ?_
     . rintro i v ys τ G hv ⟨s1,hD1,hyl,hyi,o,rfl⟩
       have hi:i<xs.length:=by rw [←hul];exact (List.getElem?_eq_some_iff.mp hv).1
       have hxi:xs[i]?=some xs[i]:=List.getElem?_eq_getElem hi
       obtain⟨dv,hdv,rv⟩:=r.getV hv
       have edv:dv=tI xs[i]:=by
        rw [List.getElem?_map,hxi] at hdv
        exact (Option.some.inj hdv).symm
       subst edv
       have tk:xs.take (i+1)=xs.take i++[xs[i]]:=by rw [List.take_succ,hxi];rfl
       refine⟨_,rfl,v,nums xs[i],rfl,.inr (Rep.same s1 rv),_,rfl,rfl,_,rfl,?_⟩
       rw [show (nums xs[i]).length=xs[i].length from List.length_map ..]
       refine ite2 (fun h2=>?_) (fun h2=>?_)
       . have h3:levI xs[i].length=k0:=by simpa using h2
         refine⟨_,rfl,hD1,Cc (by omega),s1.turn hD,Ad,?_,by rw [List.length_append];simp;omega,_,rfl⟩
         rw [tk,Pm,if_pos h3,List.length_append,hyl]
         rfl
       . have h3:¬levI xs[i].length=k0:=by simpa using h2
         refine⟨s1,hD1,?_,by omega,_,rfl⟩
         rw [tk,Pm,if_neg h3]
         exact hyl
     . rintro ys τ G ⟨s1,hD1,hyl,_⟩
       rw [hul,List.take_length] at hyl
       refine⟨D,ys,rfl,.inl (.of hD1),?_⟩
       exact key _ _ ⟨by rw [hyl];rfl,s1⟩
   rintro _ H1 ⟨rfl,s1⟩
   have rl:∀ k1:Int,(Jb xs.length k1 xs).length<=40:=fun k1=>Nat.le_trans (Uz ..) h40
   refine Ar (fun σ' H'=>σ'=[some (.ref a),some (.int k0),some (.int p),some (.int ((cntK k0 xs:Nat)-(rkK p k0 xs:Nat)))]/\Same H H') ?_ fun key=>?_
   rotate_left
   . refine⟨_,rfl,_,rfl,_,rfl,a,xs,k0,rfl,Rep.same s1 hL,ok,fun b vs H2 s2 hb hR=>?_⟩
     refine⟨_,rfl,b,vs,_,xs.length,p,rfl,hb,hR,rl k0,h40,Ab9 ok.f4,hp,hp98,fun H3 s3=>⟨_,_,rfl,rfl,?_⟩⟩
     exact key _ _ ⟨rfl,(s1.trans s2).trans s3⟩
   rintro _ H2 ⟨rfl,s2⟩
   refine⟨_,rfl,_,rfl,_,rfl,_,_,rfl,rfl,a,xs,k0+1,rfl,Rep.same s2 hL,ok,fun b vs H3 s3 hb hR=>?_⟩
   refine⟨_,rfl,b,vs,_,xs.length,p,rfl,hb,hR,rl (k0+1),h40,Ab9 ok.f4,hp,hp98,fun H4 s4=>⟨_,_,rfl,rfl,?_⟩⟩
   exact k H4 ((s2.trans s3).trans s4)
abbrev Oc:Stmt:=top 8
theorem A00:FnScope ["shape","thing","level"] ["shape","thing"] (Ag Oc):=⟨rfl,rfl,rfl,by decide +kernel,rfl,by decide +kernel,by decide +kernel⟩
theorem A30:(["shape","thing","level"]:List Str).Nodup:=by decide +kernel
theorem A21 {f:Addr}{fd:FuncData} (F:Fun K "fits" "fits" Oc f fd) (T:Txt K mg Ac) (B8:Has P w K mg base "level_of" ["piece"] 1 (Bg K)) (F3:Has P w K mg base "faces_agree" ["shape","faces"] 1 (Et K)) (Ct:Has P w K mg base "is_place_of_level" ["shape","thing","level"] 3 (Cm K)):FnOk P w K mg base CX0 4 f fd ["shape","thing"] (Sr K):=by
 refine F.ok A00 (fun vs H Q E h=>?_) (fun Bu A outer s H vs Q E hr h=>?_)
 . obtain⟨a,th,e,xs,rfl,hL,hd,k⟩:=h
   rfl
 . obtain⟨a,th,e,xs,rfl,hL,hd,k⟩:=h
   obtain⟨a_FACE_COUNTS,c_FACE_COUNTS,q_FACE_COUNTS⟩:=T.x_FACE_COUNTS
   have hu8:(A.deeper (PyProof.Rows.envOfC "fits" (Ag Oc) s.heap.objs.size f Bu)).units+8<cLine:=by have:=hr.units;omega
   refine⟨_,(Ae (Bi (PW.pt (d3 (Hf (Ea (An (Wm (K:=K)) (by rfl) T.n_isinstance Bn (Ab (pv 1) (Ab (Lm (v:=.ty "tuple") rfl T.n_tuple Dg rfl) Af))))) (U2 (Ao (Fe (K:=K) hu8) (An (Ak (K:=K)) (by rfl) T.n_len PySem.boot_len (Ab (pv 1) Af)) (S8 (v:=.ref a_FACE_COUNTS) (by rfl) c_FACE_COUNTS rfl) rfl)))) (Aj (Av J0)) Ax)
    (Ae (As (i:=2) A30 (by rfl) (by first | exact Or.inl rfl | exact Or.inr rfl) (Am B8 hr (by rfl) (Ab (pv 1) Af)))
    (Ae (Bi (Hf (Ea (An (Rn (K:=K) (by rfl)) (by rfl) T.n_all Wn (Ab (Cn (N':=["face","shape","level"]) (cap:=[none,some 0,some 2]) (by rfl) (by kernel_rfl) (Lz (K:=K) (pv 1)) (fun _ _ _ _=>(Aq (i:=0) Bf4 (by rfl) (by first | exact Or.inl rfl | exact Or.inr rfl))) (fun _ _ _ _=>Dd) (fun _ _ _ _=>(Am Ct hr (by rfl) (Ab (pv 1) (Ab (pv 0) (Ab (Az Gf (pv 2) Ai) Af)))))) Af)))) (Aj (Av J0)) Ax)
    (Aj (Av (A89 (Lk Na (pv 2) Ai (Ay _)) (Oi (Am F3 hr (by rfl) (Ab (pv 0) (Ab (pv 1) Af)))))))))),?_⟩
   refine⟨_,rfl,th,"tuple",.one e,rfl,.inr (.inr (.inr (.inl rfl))),hd,_,rfl,?_⟩
   cases e with
   | nul=>exact k H (Same.refl H)
   | d d =>
     have hd:Rep K H th d:=hd
     have k:∀ H',Same H H'->Q (.bl (Em xs d)) H':=k
     cases d with
     | non=>exact k H (Same.refl H)
     | bl b=>exact k H (Same.refl H)
     | int i=>exact k H (Same.refl H)
     | str z=>exact k H (Same.refl H)
     | lst es=>exact k H (Same.refl H)
     | tup ds =>
       obtain⟨pa,us,rfl,hq,r⟩:=id hd
       have ul:us.length=ds.length:=r.length
       refine ifN (by simp [isT,isE,isD]) ?_
       refine⟨_,rfl,pa,us,rfl,.inr hq,.int (us.length:Int),nums [0,2,3,4],rfl,.inr ⟨_,_,rfl,q_FACE_COUNTS H,Fb.mpr rfl⟩,(by rw [Ku];decide),_,rfl,?_⟩
       rw [ul]
       have cnt:(!(nums [0,2,3,4]).any fun e=>eqD e (.int (ds.length:Int)))=!cntB ds.length:=by
        have:(nums [0,2,3,4]).any (fun e=>eqD e (.int (ds.length:Int)))=cntB ds.length:=by
         simp only [nums,List.map_cons,List.map_nil,List.any_cons,List.any_nil,eqD,cntB]
         rw [Bool.eq_iff_iff]
         simp only [Bool.or_eq_true,beq_iff_eq,Bool.or_false]
         omega
        rw [this]
       by_cases hc:cntB ds.length=true
       rotate_left
       . have hc':cntB ds.length=false:=by simpa using hc
         refine ifP (by rw [if_pos rfl,cnt,hc'];rfl) ?_
         have e2:Em xs (.tup ds)=false:=by rw [Cq];simp [hc']
         rw [e2] at k
         exact k H (Same.refl H)
       refine ifN (by rw [if_pos rfl,cnt,hc];simp) ?_
       have hn4:ds.length<=4:=(Y2 hc).1
       refine⟨_,rfl,_,ds,rfl,.inr hd,?_⟩
       refine⟨_,rfl,pa,rfl,⟨_,hq⟩,fun D hD=>?_⟩
       refine Pk (K:=K) (a:=pa) (xs:=us) (fun i ys τ H1=>Same H H1/\H1 D=some (.lst ys)/\ys=((ds.take i).map fun e=>V.bl (Bb xs e (levI ds.length-1)))/\∃ o,τ=[o,some (.ref a),some (.int (levI ds.length))])
        ⟨Same.new hD,Ad,rfl,none,rfl⟩ (fun i ys τ H1 _ ⟨s1,_⟩=>s1.seqT hq) ?_ ?_
       . rintro i x ys τ H1 hx ⟨s1,hD1,hys,o,rfl⟩
         have hi:i<us.length:=(List.getElem?_eq_some_iff.mp hx).1
         obtain⟨e,he,re⟩:=r.getV hx
         refine⟨_,rfl,_,rfl,_,rfl,_,_,rfl,rfl,a,x,e,_,xs,rfl,Rep.same s1 hL,Rep.same s1 re,?_⟩
         refine⟨hD1,Cc (by rw [hys,List.length_map,List.length_take];omega),s1.turn hD,Ad,?_,_,rfl⟩
         rw [List.take_succ,he,List.map_append,hys]
         rfl
       . rintro ys τ H1 ⟨s1,hD1,hys,_⟩
         rw [ul,List.take_length] at hys
         have hys2:ys=(ds.map fun e=>Bb xs e (levI ds.length-1)).map V.bl:=by rw [hys,List.map_map];rfl
         rw [hys2] at hD1
         refine⟨D,_,rfl,.of hD1,_,rfl,?_⟩
         have eall:(ds.map fun e=>Bb xs e (levI ds.length-1)).all id=ds.all fun e=>Bb xs e (levI ds.length-1):=by rw [List.all_map];rfl
         by_cases ha:(ds.all fun e=>Bb xs e (levI ds.length-1))=true
         rotate_left
         . have ha':(ds.all fun e=>Bb xs e (levI ds.length-1))=false:=by simpa using ha
           refine ifP (by rw [eall,ha'];rfl) ?_
           have e2:Em xs (.tup ds)=false:=by rw [Cq];rw [ha',hc];rfl
           rw [e2] at k
           exact k H1 s1
         refine ifN (by rw [eall,ha];simp) ?_
         have e2:Em xs (.tup ds)=(decide (levI ds.length<2) || Ek xs (ds.map toI)):=by rw [Cq];rw [ha,hc];rfl
         rw [e2] at k
         refine⟨_,rfl,_,_,rfl,rfl,_,rfl,?_⟩
         refine ite2 (fun h1=>?_) (fun h1=>?_)
         . have h2:(decide (levI ds.length<2))=true:=h1
           rw [h2] at k
           exact k H1 s1
         . have h2:(decide (levI ds.length<2))=false:=by simpa using h1
           rw [h2] at k
           have hint:=Uj ha
           have tv:TI K H1 (.ref pa) (ds.map toI):=by
            have:=Rep.same s1 hd
            rw [hint] at this
            exact this
           refine⟨_,rfl,_,rfl,a,_,xs,ds.map toI,rfl,Rep.same s1 hL,tv,by simpa using hn4,?_,k H1 s1⟩
           intro f hf
           rw [List.all_eq_true] at ha
           have hm:L2.D.int f∈ds:=by
            rw [hint]
            exact List.mem_map.mpr ⟨f,hf,rfl⟩
           have:=ha _ hm
           simp only [Bb,Bool.and_eq_true,decide_eq_true_eq] at this
           obtain⟨⟨f0,f1⟩,f2⟩:=this
           refine⟨f0,f1,?_⟩
           rw [List.length_map]
           rw [Ca,Ca] at f2
           have h3:¬levI ds.length<2:=by simpa using h2
           rw [Ca] at h3
           omega
abbrev Bw:Stmt:=Oz (top 35) 0
theorem M8:FnScope ["self","prime"] ["self","prime"] (Ag Bw):=⟨rfl,rfl,rfl,by decide +kernel,rfl,by decide +kernel,by decide +kernel⟩
theorem Gg {f:Addr}{fd:FuncData}{ds0:List Value} (F:FunD K "__init__" "Growth.__init__" Bw f fd ds0) (T:Txt K mg Ac) (Iv:Has P w K mg base "is_prime" ["thing"] 3 (Ny K)):FnOk P w K mg base CX0 4 f fd ["self","prime"] (Kj K Ac):=by
 refine F.ok M8 (fun vs H Q E h=>?_) (fun Bu A outer s H vs Q E hr h=>?_)
 . obtain⟨g,dx,p,rfl,hg,hP,h98,k⟩:=h
   rfl
 . obtain⟨g,dx,p,rfl,hg,hP,h98,k⟩:=h
   refine⟨_,(Ae (Bi (Hf (Ea (Am Iv hr (by rfl) (Ab (pv 1) Af)))) (Aj Kl) Ax)
    (Ae (Ot (K:=K) (pv 0) (pv 1))
    (Ae (Ot (K:=K) (pv 0) (Dv Af))
    (Ae (Ot (K:=K) (pv 0) (Dv Af))
    (Ae (Ot (K:=K) (pv 0) (Dv Af))
    (Aj (Ot (K:=K) (pv 0) S9))))))),?_⟩
   refine⟨_,rfl,p,rfl,hP,h98,fun H0 s0=>⟨_,rfl,?_⟩⟩
   refine ifN (by decide) ?_
   refine⟨_,rfl,_,rfl,g,Ac,dx,[],rfl,s0 _ _ hg,T.cl_Growth,T.na_Growth_prime,by decide,?_⟩
   have sx0:SameX g H (upd H0 g (.ins Ac dx (putF "prime" (.int p) []))):=SameX.upd (SameX.of s0)
   have eg0:upd H0 g (.ins Ac dx (putF "prime" (.int p) [])) g=some (.ins Ac dx (putF "prime" (.int p) [])):=Ad
   generalize upd H0 g (.ins Ac dx (putF "prime" (.int p) []))=H1 at sx0 eg0
   refine⟨A4 (by simp),fun pc hpc=>?_⟩
   have npc:pc≠g:=fun z=>by rw [z,eg0] at hpc;cases hpc
   obtain⟨sx1,eg1,epc,pe0,fpc,_⟩:=init_step (o:=.lst []) (putF "pieces" (.ref pc) (putF "prime" (.int p) [])) sx0 eg0 hpc
   refine⟨_,rfl,g,Ac,dx,_,rfl,(by rw [Ah npc.symm];exact eg0),T.cl_Growth,T.na_Growth_pieces,Nat.lt_of_le_of_lt (lenF (Nat.le_refl 0)) (by decide),?_⟩
   generalize upd (upd H1 pc (.lst [])) g (.ins Ac dx (putF "pieces" (.ref pc) (putF "prime" (.int p) [])))=H2 at sx1 eg1 epc
   refine⟨A4 (by simp),fun sh hsh=>?_⟩
   have nsh:sh≠g:=fun z=>by rw [z,eg1] at hsh;cases hsh
   obtain⟨sx2,eg2,esh,pe1,fsh,_⟩:=init_step (o:=.lst []) (putF "sheets" (.ref sh) (putF "pieces" (.ref pc) (putF "prime" (.int p) []))) sx1 eg1 hsh
   refine⟨_,rfl,g,Ac,dx,_,rfl,(by rw [Ah nsh.symm];exact eg1),T.cl_Growth,T.na_Growth_sheets,Nat.lt_of_le_of_lt (lenF (lenF (Nat.le_refl 0))) (by decide),?_⟩
   have dpcsh:pc≠sh:=fun z=>by rw [←z,epc] at hsh;cases hsh
   replace epc:=pe1 _ _ npc epc
   generalize upd (upd H2 sh (.lst [])) g (.ins Ac dx (putF "sheets" (.ref sh) (putF "pieces" (.ref pc) (putF "prime" (.int p) []))))=H3 at sx2 eg2 esh epc
   refine⟨A4 (by simp),fun ed hed=>?_⟩
   have ned:ed≠g:=fun z=>by rw [z,eg2] at hed;cases hed
   obtain⟨sx3,eg3,eed,pe2,fed,_⟩:=init_step (o:=.lst []) (putF "edges" (.ref ed) (putF "sheets" (.ref sh) (putF "pieces" (.ref pc) (putF "prime" (.int p) [])))) sx2 eg2 hed
   refine⟨_,rfl,g,Ac,dx,_,rfl,(by rw [Ah ned.symm];exact eg2),T.cl_Growth,T.na_Growth_edges,Nat.lt_of_le_of_lt (lenF (lenF (lenF (Nat.le_refl 0)))) (by decide),?_⟩
   have dpced:pc≠ed:=fun z=>by rw [←z,epc] at hed;cases hed
   have dshed:sh≠ed:=fun z=>by rw [←z,esh] at hed;cases hed
   replace epc:=pe2 _ _ npc epc
   replace esh:=pe2 _ _ nsh esh
   generalize upd (upd H3 ed (.lst [])) g (.ins Ac dx (putF "edges" (.ref ed) (putF "sheets" (.ref sh) (putF "pieces" (.ref pc) (putF "prime" (.int p) [])))))=H4 at sx3 eg3 eed epc esh
   refine fun en hen=>?_
   have nen:en≠g:=fun z=>by rw [z,eg3] at hen;cases hen
   obtain⟨sx4,eg4,een,pe3,fen,_⟩:=init_step (o:=.dK []) (putF "enders" (.ref en) (putF "edges" (.ref ed) (putF "sheets" (.ref sh) (putF "pieces" (.ref pc) (putF "prime" (.int p) []))))) sx3 eg3 hen
   refine⟨_,rfl,g,Ac,dx,_,rfl,(by rw [Ah nen.symm];exact eg3),T.cl_Growth,T.na_Growth_enders,Nat.lt_of_le_of_lt (lenF (lenF (lenF (lenF (Nat.le_refl 0))))) (by decide),?_⟩
   have dpcen:pc≠en:=fun z=>by rw [←z,epc] at hen;cases hen
   have dshen:sh≠en:=fun z=>by rw [←z,esh] at hen;cases hen
   have deden:ed≠en:=fun z=>by rw [←z,eed] at hen;cases hen
   replace epc:=pe3 _ _ npc epc
   replace esh:=pe3 _ _ nsh esh
   replace eed:=pe3 _ _ ned eed
   generalize upd (upd H4 en (.dK [])) g (.ins Ac dx (putF "enders" (.ref en) (putF "edges" (.ref ed) (putF "sheets" (.ref sh) (putF "pieces" (.ref pc) (putF "prime" (.int p) []))))))=H5 at sx4 eg4 een epc esh eed
   refine k pc sh ed en H5 fpc fsh fed fen sx4 ⟨⟨dx,_,eg4,by refine⟨?_,?_,?_,?_,?_,?_,?_,?_,?_,?_,?_,?_⟩<;>((repeat (first | rw [Fy,if_pos rfl] | rw [Fy,if_neg (by decide +kernel)]))<;>first | rfl | assumption)⟩,⟨[],epc,rfl⟩,⟨[],eed,rfl,fun i d m e=>by simp at e⟩,⟨[],esh,rfl,fun i d m e=>by simp at e⟩,een,⟨dpcsh,dpced,dshed⟩,Ez.nil p,hP,h98⟩
abbrev B7:Stmt:=Oz (top 35) 7
theorem Ob:FnScope ["self","k","stage","many","now","holes"] ["self","k","stage"] (Ag B7):=⟨rfl,rfl,rfl,by decide +kernel,rfl,by decide +kernel,by decide +kernel⟩
theorem Ed:(["self","k","stage","many","now","holes"]:List Str).Nodup:=by decide +kernel
theorem Hi {f:Addr}{fd:FuncData}{ds0:List Value} (F:FunD K "alive" "Growth.alive" B7 f fd ds0) (T:Txt K mg Ac) (D0:Has P w K mg base "check_level" ["k","bound"] 3 (Nx K)) (Aw:Has P w K mg base "is_whole_below" ["thing","bound"] 2 (Be K)) (C3:HasM P w K mg base Ac "pairs" ["self"] 1 (N5 K Ac)) (B8:Has P w K mg base "level_of" ["piece"] 1 (Bg K)) (Iw:Has P w K mg base "is_alive" ["pair","stage"] 1 (N2 K)):FnOk P w K mg base CX0 4 f fd ["self","k","stage"] (G7 K Ac):=by
 refine F.ok Ob (fun vs H Q E h=>?_) (fun Bu A outer s H vs Q E hr h=>?_)
 . obtain⟨g,pc,sh,ed,en,vst,kk,st,p,xs,es,ss,bs,rfl,x,k0,k4,hst2,k⟩:=h
   rfl
 . obtain⟨g,pc,sh,ed,en,vst,kk,st,p,xs,es,ss,bs,rfl,x,k0,k4,hst2,k⟩:=h
   obtain⟨t_LEVELS,c_LEVELS⟩:=T.x_LEVELS
   refine⟨_,(Ae (B9 (Am D0 hr (by rfl) (Ab (pv 1) (Ab (S8 (v:=.int 4) (by rfl) c_LEVELS ⟨_,rfl⟩) Af))))
    (Ae (As (i:=3) Ed (by rfl) (by first | exact Or.inl rfl | exact Or.inr rfl) (An (Ak (K:=K)) (by rfl) T.n_len PySem.boot_len (Ab (By (K:=K) (pv 0)) Af)))
    (Ae (Bi (PW.pt (Of (Ao A17 (pv 2) U7 (Ay _)) (Jx (Hf (Ea (Am Aw hr (by rfl) (Ab (pv 2) (Ab (Az Dw (pv 3) Ai) Af)))))))) (Aj Kl) Ax)
    (Ae (As (i:=4) Ed (by rfl) (by first | exact Or.inl rfl | exact Or.inr rfl) (Zg (Ao Ax0 (pv 2) U7 (Ay _)) (pv 3) (pv 2)))
    (Ae (Jy (N':=["pair","self","k"]) (cap:=[none,some 0,some 1]) (i:=5) Ed (by rfl) (by first | exact Or.inl rfl | exact Or.inr rfl) (by rfl) (by kernel_rfl) (Bo (K:=K) (Ad4 (pv 0) T.cl_Growth C3 hr)) (fun _ _ _ _=>(Aq (i:=0) Bf1 (by rfl) (by first | exact Or.inl rfl | exact Or.inr rfl))) (fun _ _ _ _=>(D9 (Ao Do (Am B8 hr (by rfl) (Ab (Ba (A3 (K:=K)) (By (K:=K) (pv 1)) (Ba (A7 (K:=K)) (pv 0) Ai (fun _ _=>rfl)) (fun _ _=>rfl)) Af)) (pv 2) (Ay _)))) (fun _ _ _ _=>(pv 0)))
    (Aj (Av (An (Ak (K:=K)) (by rfl) T.n_len PySem.boot_len (Ab (Cn (N':=["pair","now"]) (cap:=[none,some 4]) (by rfl) (by kernel_rfl) (Bo (K:=K) (pv 5)) (fun _ _ _ _=>(Aq (i:=0) Bf2 (by rfl) (by first | exact Or.inl rfl | exact Or.inr rfl))) (fun _ _ _ _=>(D9 (Ea (Am Iw hr (by rfl) (Ab (pv 0) (Ab (pv 1) Af)))))) (fun _ _ _ _=>(pv 0))) Af))))))))),?_⟩
   obtain⟨dx,fs,hg,l1,l2,l3,l4,l5,lm⟩:=x.ob
   obtain⟨us,hpc,r⟩:=x.pcs
   have hul:us.length=xs.length:=by have:=r.length;simpa using this
   have n40:=x.gw.n40
   have hel:=x.gw.le
   refine⟨_,rfl,kk,4,rfl,k0,k4,?_⟩
   refine⟨_,rfl,g,Ac,dx,fs,_,rfl,hg,T.cl_Growth,T.na_Growth_pieces,l2,pc,us,rfl,.inl (.of hpc),?_⟩
   rw [hul]
   refine Ar (fun σ' H'=>σ'=[some (.ref g),some (.int kk),some vst,some (.int (xs.length:Int)),none,none]/\H=H') ?_ fun key0=>key0 _ _ ⟨rfl,rfl⟩
   rintro _ _ ⟨rfl,rfl⟩
   refine Ar (t:=tIfS _ _ _) (fun σ' H'=>σ'=[some (.ref g),some (.int kk),some vst,some (.int (xs.length:Int)),none,none]/\H=H') ?_ fun key=>?_
   rotate_left
   . refine⟨_,rfl,rfl,_,rfl,?_⟩
     rcases hst2 with ⟨hn,_⟩|⟨hn,t0,t1⟩
     . refine ifN (by simp [hn]) ?_
       refine ifN (by decide) ?_
       exact key _ _ ⟨rfl,rfl⟩
     . refine ifP (by simp [hn]) ?_
       subst hn
       have hb:Mx (.int st) ((xs.length:Int)+1)=true:=by
        show (decide (0<=st)&&decide (st<(xs.length:Int)+1))=true
        rw [decide_eq_true t0,decide_eq_true (by omega)]
        rfl
       refine⟨_,rfl,_,rfl,_,_,rfl,rfl,.int st,.int st,_,rfl,rfl,_,rfl,?_⟩
       rw [hb]
       refine ifN (by decide) ?_
       exact key _ _ ⟨rfl,rfl⟩
   rintro _ _ ⟨rfl,rfl⟩
   refine Ar (fun σ' H'=>σ'=[some (.ref g),some (.int kk),some vst,some (.int (xs.length:Int)),some (.int st),none]/\H=H') ?_ fun key=>?_
   rotate_left
   . refine⟨_,rfl,rfl,_,rfl,?_⟩
     rcases hst2 with ⟨hn,rfl⟩|⟨hn,t0,t1⟩
     . refine ifP (by simp [hn]) ?_
       exact ⟨_,rfl,key _ _ ⟨rfl,rfl⟩⟩
     . refine ifN (by simp [hn]) ?_
       subst hn
       exact ⟨_,rfl,key _ _ ⟨rfl,rfl⟩⟩
   rintro _ _ ⟨rfl,rfl⟩
   have fin:=k
   refine Ar (fun σ' H'=>∃ (D:Addr) (ys:List V),σ'=[some (.ref g),some (.int kk),some vst,some (.int (xs.length:Int)),some (.int st),some (.ref D)]/\Same H H'/\H' D=some (.lst ys)/\Reps K H' ys (((D3 es es.length).filter (levB xs kk)).map (Lo bs))) ?_ fun key=>?_
   rotate_left
   . refine⟨_,rfl,g,dx,fs,rfl,hg,lm.2.2.2.2.2.1,g,pc,sh,ed,en,p,xs,es,ss,bs,rfl,x,fun l ws H1 nl s1 el rl=>⟨l,rfl,⟨_,.of el⟩,fun D hD=>?_⟩⟩
     have x1:=x.same s1
     have wl:ws.length=(D3 es es.length).length:=by have:=rl.length;rw [this];exact List.length_map ..
     have bl:=Pw es es.length
     refine Hz (K:=K) (a:=l) (xs:=ws) (fun i ys τ G=>Same H1 G/\G D=some (.lst ys)/\Reps K G ys ((((D3 es es.length).take i).filter (levB xs kk)).map (Lo bs))/\∃ o,τ=[o,some (.ref g),some (.int kk)])
      ⟨Same.new hD,Ad,rfl,none,rfl⟩ (fun i ys τ G _ ⟨h1,_⟩=>.of (h1 _ _ el)) ?_ ?_
     . rintro i v ys τ G hv ⟨h1,hDG,ry,o,rfl⟩
       have hi:i<(D3 es es.length).length:=by rw [←wl];exact (List.getElem?_eq_some_iff.mp hv).1
       obtain⟨j,hj⟩:∃ j,(D3 es es.length)[i]?=some j:=⟨_,List.getElem?_eq_getElem hi⟩
       obtain⟨hjl,_⟩:=An9.mp (List.mem_of_getElem? hj)
       obtain⟨d,hd,rv⟩:=rl.getV hv
       obtain rfl:d=Lo bs j:=by
        rw [show Aw9 es bs=(D3 es es.length).map (Lo bs) from rfl,List.getElem?_map,hj] at hd
        exact (Option.some.inj hd).symm
       have rv1:=Rep.same h1 rv
       obtain⟨t,rfl,sqt⟩:=Zd rv1
       have hLG:LT K G (.ref pc) xs:=⟨pc,us,rfl,.of (h1 _ _ (s1 _ _ hpc)),Reps.same (s1.trans h1) r⟩
       obtain⟨us',v',hus,hat,tv⟩:=LT.get hLG (show (0:Int)<=(j:Int) by omega) (show (j:Int)<(xs.length:Int) by omega)
       rw [Int.toNat_natCast] at tv
       have yl:ys.length<=40:=by
        have h2:=ry.length
        rw [List.length_map] at h2
        have h3:=List.length_filter_le (levB xs kk) ((D3 es es.length).take i)
        rw [List.length_take] at h3
        omega
       refine⟨_,rfl,g,Ac,dx,fs,_,rfl,h1 _ _ (s1 _ _ hg),T.cl_Growth,T.na_Growth_pieces,l2,_,rfl,t,_,_,_,rfl,rfl,sqt,at0 _ _,pc,us',_,_,rfl,rfl,hus,hat,v',nums (xs.getD j []),rfl,.inr tv,_,rfl,rfl,_,rfl,?_⟩
       rw [show (nums (xs.getD j [])).length=(xs.getD j []).length from List.length_map ..]
       have etk:(D3 es es.length).take (i+1)=(D3 es es.length).take i++[j]:=by rw [List.take_succ,hj];rfl
       refine ite2 (fun h2=>?_) (fun h2=>?_)
       . have hb3:levB xs kk j=true:=by
          unfold levB
          have:levI (xs.getD j []).length=kk:=by simpa using h2
          exact decide_eq_true this
         refine⟨_,rfl,hDG,Cc (by omega),h1.turn hD,Ad,?_,_,rfl⟩
         rw [etk,List.filter_append,List.filter_cons_of_pos hb3,List.map_append]
         refine Reps.t (Mp.lst hDG) ?_ (Reps.append ry ⟨_,_,rfl,rv1,rfl⟩)
         have:=Ln bs (((D3 es es.length).take i).filter (levB xs kk)++[j])
         rw [List.map_append] at this
         exact this
       . have hb3:¬levB xs kk j=true:=by
          unfold levB
          intro z
          apply h2
          have:levI (xs.getD j []).length=kk:=by simpa using z
          rw [this]
          simp
         refine⟨h1,hDG,?_,_,rfl⟩
         rw [etk,List.filter_append,List.filter_cons_of_neg hb3,List.filter_nil,List.append_nil]
         exact ry
     . rintro ys τ G ⟨h1,hDG,ry,_⟩
       rw [wl,List.take_length] at ry
       exact key _ _ ⟨D,ys,rfl,s1.trans h1,hDG,ry⟩
   rintro _ H1 ⟨D,ys,rfl,s1,hD1,ry⟩
   obtain⟨L,hL⟩:∃ L,L=(D3 es es.length).filter (levB xs kk):=⟨_,rfl⟩
   rw [←hL] at ry
   have yl:ys.length=L.length:=by have:=ry.length;rw [List.length_map] at this;exact this
   have Ll:L.length<=40:=by
    have h3:=List.length_filter_le (levB xs kk) (D3 es es.length)
    have:=Pw es es.length
    rw [hL]
    omega
   refine⟨_,rfl,D,rfl,⟨_,.of hD1⟩,fun D2 hD2=>?_⟩
   refine Hz (K:=K) (a:=D) (xs:=ys) (fun i zs τ G=>Same H1 G/\G D2=some (.lst zs)/\zs.length=((L.take i).filter (aliveB bs st)).length/\∃ o,τ=[o,some (.int st)])
    ⟨Same.new hD2,Ad,rfl,none,rfl⟩ (fun i zs τ G _ ⟨h1,_⟩=>.of (h1 _ _ hD1)) ?_ ?_
   . rintro i v zs τ G hv ⟨h1,hDG,hzl,o,rfl⟩
     have hi:i<L.length:=by rw [←yl];exact (List.getElem?_eq_some_iff.mp hv).1
     have hj:L[i]?=some L[i]:=List.getElem?_eq_getElem hi
     obtain⟨d,hd,rv⟩:=ry.getV hv
     obtain rfl:d=Lo bs L[i]:=by
      rw [List.getElem?_map,hj] at hd
      exact (Option.some.inj hd).symm
     obtain⟨t,rfl,sqt⟩:=Zd (Rep.same h1 rv)
     have etk:L.take (i+1)=L.take i++[L[i]]:=by rw [List.take_succ,hj];rfl
     have zl:zs.length<=40:=by
      have h3:=List.length_filter_le (aliveB bs st) (L.take i)
      rw [List.length_take] at h3
      omega
     refine⟨_,rfl,_,rfl,t,bs,L[i],st,rfl,sqt,_,rfl,?_⟩
     refine ite2 (fun h2=>?_) (fun h2=>?_)
     . refine⟨_,rfl,hDG,Cc (by omega),h1.turn hD2,Ad,?_,_,rfl⟩
       rw [etk,List.filter_append,List.filter_cons_of_pos h2,List.length_append,List.length_append,hzl]
       rfl
     . refine⟨h1,hDG,?_,_,rfl⟩
       rw [etk,List.filter_append,List.filter_cons_of_neg h2,List.filter_nil,List.append_nil]
       exact hzl
   . rintro zs τ G ⟨h1,hDG,hzl,_⟩
     rw [yl,List.take_length] at hzl
     refine⟨D2,zs,rfl,.inl (.of hDG),?_⟩
     have e:zs.length=K1 xs es bs kk st:=by
      unfold K1
      rw [hzl,hL,List.filter_filter]
      congr 1
      exact List.filter_congr fun j _=>Bool.and_comm ..
     rw [e]
     exact fin G (s1.trans h1)
abbrev Fa:Stmt:=top 50
theorem c7:FnScope ["_law_kind","_law_cells","_law_most","_law_pieces","_law_cell","_law_piece"] ["_law_kind","_law_cells","_law_most"] (Ag Fa):=⟨rfl,rfl,rfl,by decide +kernel,rfl,by decide +kernel,by decide +kernel⟩
theorem Ir:(["_law_kind","_law_cells","_law_most","_law_pieces","_law_cell","_law_piece"]:List Str).Nodup:=by decide +kernel
theorem g7 {f:Addr}{fd:FuncData} (F:Fun K "_law_built" "_law_built" Fa f fd) (T:Txt K mg Ac) (Hr:Has P w K mg base "_law_shape_by" ["_law_kind","_law_cells","_law_most"] 3 (Ju K)) (Np:Has P w K mg base "_law_fits" ["_law_pieces","_law_thing"] 2 (Nz K)) (Tv:Has P w K mg base "_law_next" ["_law_pieces","_law_cell"] 3 (N4 K)):FnOk P w K mg base CX0 4 f fd ["_law_kind","_law_cells","_law_most"] (N1 K):=by
 refine F.ok c7 (fun vs H Q E h=>?_) (fun Bu A outer s H vs Q E hr h=>?_)
 . obtain⟨cl,ns,kind,most,rfl,hS,hl,hm0,hm1,k⟩:=h
   rfl
 . obtain⟨cl,ns,kind,most,rfl,hS,hl,hm0,hm1,k⟩:=h
   refine⟨_,(Ae (As (i:=3) Ir (by rfl) (by first | exact Or.inl rfl | exact Or.inr rfl) (Dv Af))
    (Ae (Bi (Ao Do (Az Bh (pv 0) Ai) Ai (Ay _)) (Ae (Ce PassesOwn.never rfl (Bo (K:=K) (pv 1)) (Aq (i:=4) Ir (by rfl) (by first | exact Or.inl rfl | exact Or.inr rfl)) (Aj (Bi (Ao Na (An (Ak (K:=K)) (by rfl) T.n_len PySem.boot_len (Ab (pv 3) Af)) (pv 2) (Ay _)) (Ae (As (i:=5) Ir (by rfl) (by first | exact Or.inl rfl | exact Or.inr rfl) (Am Tv hr (by rfl) (Ab (pv 3) (Ab (Az Dw (Az Bh (pv 4) Ai) (Az op_mulX Ai (An (Ak (K:=K)) (by rfl) T.n_len PySem.boot_len (Ab (pv 3) Af)))) Af))))
    (Aj (Bi (Ea (Am Np hr (by rfl) (Ab (pv 3) (Ab (pv 5) Af)))) (Aj (B9 (Gj (K:=K) PySem.F.plainAttrs_list PySem.F.slot_list_append PySem.F.type_list_append B5 (pv 3) (Ab (pv 5) Af)))) Ax))) Ax)))
    (Aj (Av (pv 3)))) Ax)
    (Ae (Ce PassesOwn.never rfl (Bo (K:=K) (Am Hr hr (by rfl) (Ab (Az Fv (pv 0) Ai) (Ab (pv 1) (Ab (pv 2) Af))))) (Aq (i:=5) Ir (by rfl) (by first | exact Or.inl rfl | exact Or.inr rfl)) (Aj (Bi (PW.pt (Of (Ao Na (An (Ak (K:=K)) (by rfl) T.n_len PySem.boot_len (Ab (pv 3) Af)) (pv 2) (Ay _)) (Jx (Ea (Am Np hr (by rfl) (Ab (pv 3) (Ab (pv 5) Af))))))) (Aj (B9 (Gj (K:=K) PySem.F.plainAttrs_list PySem.F.slot_list_append PySem.F.type_list_append B5 (pv 3) (Ab (pv 5) Af)))) Ax)))
    (Aj (Av (pv 3)))))),?_⟩
   refine⟨Nat.zero_le _,fun D hD=>?_⟩
   have s0:Same H (upd H D (.lst [])):=Same.new hD
   have hD0:(upd H D (.lst [])) D=some (.lst []):=Ad
   generalize upd H D (.lst [])=H0 at s0 hD0
   refine Ar (fun σ' H'=>σ'=[some (.int kind),some (.ref cl),some (.int most),some (.ref D),none,none]/\H0=H') ?_ fun key0=>key0 _ _ ⟨rfl,rfl⟩
   rintro _ _ ⟨rfl,rfl⟩
   refine Ar (fun σ' H'=>σ'=[some (.int kind),some (.ref cl),some (.int most),some (.ref D),none,none]/\H0=H') ?_ fun key=>?_
   rotate_left
   . refine⟨_,rfl,_,_,rfl,rfl,(by show (0:Int)<2;decide),rfl,_,rfl,?_⟩
     refine ite2 (fun _=>?_) (fun _=>key _ _ ⟨rfl,rfl⟩)
     refine⟨_,rfl,cl,rfl,⟨_,s0.seq hS⟩,for_list (K:=K) (a:=cl) (xs:=ns.map V.int) (fun j σ G=>∃ (du:List V) (xs:List (List Int)) (o4 o5:Option V),σ=[some (.int kind),some (.ref cl),some (.int most),some (.ref D),o4,o5]/\Same H G/\G D=some (.lst du)/\Reps K G du (xs.map tI)/\Cg xs/\(xs.length:Int)<=most)
      ⟨[],[],none,none,rfl,s0,hD0,rfl,Uu,by simpa using hm0⟩ (fun j σ G _ ⟨_,_,_,_,_,g,_⟩=>g.seq hS) ?_ ?_⟩
     . rintro j x σ G hx ⟨du,xs,o4,o5,rfl,g,hDG,rD,hC,hxl⟩
       have hjn:j<ns.length:=by have:=(List.getElem?_eq_some_iff.mp hx).1;simpa using this
       have hxv:x=.int ns[j]:=by
        rw [List.getElem?_map,List.getElem?_eq_getElem hjn] at hx
        simpa using hx.symm
       subst hxv
       have dul:du.length=xs.length:=by have:=rD.length;simpa using this
       refine⟨_,rfl,D,_,rfl,.inl (.of hDG),_,rfl,_,_,rfl,rfl,_,rfl,?_⟩
       refine ite2 (fun h1=>?_) (fun h1=>⟨du,xs,_,_,rfl,g,hDG,rD,hC,by omega⟩)
       have h1:(xs.length:Int)<most:=by rw [dul] at h1;simpa using h1
       refine⟨_,rfl,_,rfl,_,_,rfl,rfl,(by show (0:Int)<1000003;decide),_,rfl,D,_,rfl,.inl (.of hDG),_,_,rfl,rfl,Ko (by decide) (by decide),_,_,rfl,rfl,D,xs,_,rfl,⟨D,du,rfl,.of hDG,rD⟩,E4 hC,by omega,fun w p G1 g1 tw=>?_⟩
       have hDG1:=g1 _ _ hDG
       have rD1:=Reps.same g1 rD
       refine⟨_,rfl,_,rfl,D,w,.d (tI p),xs,rfl,⟨D,du,rfl,.of hDG1,rD1⟩,E4 hC,by omega,tw,fun G2 g2=>?_⟩
       have gg:=g.trans (g1.trans g2)
       have hDG2:=g2 _ _ hDG1
       have rD2:=Reps.same g2 rD1
       refine⟨_,rfl,?_⟩
       refine ite2 (fun h2=>?_) (fun h2=>⟨du,xs,_,_,rfl,gg,hDG2,rD2,hC,by omega⟩)
       refine⟨_,rfl,.inl ⟨rfl,_,.of hDG2⟩,_,rfl,D,_,_,rfl,rfl,hDG2,Cc (by omega),?_⟩
       exact ⟨_,xs++[p],_,_,rfl,gg.turn hD,Ad,Fs hDG2 rD2 (TI.same g2 tw),Lb hC (Yl (E4 hC) h2),by rw [List.length_append];simp;omega⟩
     . rintro σ G ⟨du,xs,o4,o5,rfl,g,hDG,rD,hC,hxl⟩
       exact ⟨_,rfl,k D du xs G hD g hDG rD hC (by omega)⟩
   rintro _ _ ⟨rfl,rfl⟩
   refine⟨_,rfl,_,_,rfl,rfl,⟨by decide,by decide⟩,_,rfl,_,rfl,cl,ns,_,most,rfl,s0.seq hS,hl,hm0,by omega,fun W wu G0 zs hW g0 hW0 rW hsh hzl=>?_⟩
   have g00:=s0.trans g0
   have wul:wu.length=zs.length:=by have:=rW.length;simpa using this
   refine⟨W,rfl,⟨_,.of hW0⟩,for_list (K:=K) (a:=W) (xs:=wu) (fun j σ G=>∃ (du:List V) (xs:List (List Int)) (o5:Option V),σ=[some (.int kind),some (.ref cl),some (.int most),some (.ref D),none,o5]/\SameX D G0 G/\G D=some (.lst du)/\Reps K G du (xs.map tI)/\Cg xs/\(xs.length:Int)<=most)
    ⟨[],[],none,rfl,SameX.refl _ _,g0 _ _ hD0,rfl,Uu,by simpa using hm0⟩ (fun j σ G _ ⟨_,_,_,_,g,_⟩=>.of (g _ _ (Ap hD0 hW).symm hW0)) ?_ ?_⟩
   . rintro j x σ G hx ⟨du,xs,o5,rfl,g,hDG,rD,hC,hxl⟩
     have hj:j<wu.length:=(List.getElem?_eq_some_iff.mp hx).1
     have hjz:j<zs.length:=by omega
     have hjx:(zs.map tI)[j]?=some (tI zs[j]):=by rw [List.getElem?_map,List.getElem?_eq_getElem hjz];rfl
     obtain⟨x',hx',tx⟩:=rW.get hjx
     rw [hx] at hx'
     cases hx'
     have txG:TI K G x zs[j]:=TI.t (g.t (g0 _ _ hD0)) tx
     generalize zs[j]=p at txG
     have dul:du.length=xs.length:=by have:=rD.length;simpa using this
     refine⟨_,rfl,D,_,rfl,.inl (.of hDG),_,rfl,_,_,rfl,rfl,_,rfl,?_⟩
     refine ite2 (fun h1=>?_) (fun h1=>?_)
     rotate_left
     . refine ifN (by simp) ?_
       exact ⟨du,xs,_,rfl,g,hDG,rD,hC,by omega⟩
     have h1:(xs.length:Int)<most:=by rw [dul] at h1;simpa using h1
     refine⟨_,rfl,_,rfl,D,x,.d (tI p),xs,rfl,⟨D,du,rfl,.of hDG,rD⟩,E4 hC,by omega,txG,fun G2 g2=>?_⟩
     have hDG2:=g2 _ _ hDG
     have rD2:=Reps.same g2 rD
     have gx:=g.trans (SameX.of g2)
     refine⟨_,rfl,?_⟩
     refine ite2 (fun h2=>?_) (fun h2=>⟨du,xs,_,rfl,gx,hDG2,rD2,hC,by omega⟩)
     refine⟨_,rfl,.inl ⟨rfl,_,.of hDG2⟩,_,rfl,D,_,_,rfl,rfl,hDG2,Cc (by omega),?_⟩
     exact ⟨_,xs++[p],_,rfl,gx.upd,Ad,Fs hDG2 rD2 (TI.same g2 txG),Lb hC (Yl (E4 hC) h2),by rw [List.length_append];simp;omega⟩
   . rintro σ G ⟨du,xs,o5,rfl,g,hDG,rD,hC,hxl⟩
     exact ⟨_,rfl,k D du xs G hD (g.same g00 hD) hDG rD hC (by omega)⟩
abbrev B1:Stmt:=Oz (top 35) 1
theorem Qg:FnScope ["self","thing","place","faces","papers","birth"] ["self","thing"] (Ag B1):=⟨rfl,rfl,rfl,by decide +kernel,rfl,by decide +kernel,by decide +kernel⟩
theorem Dj:(["self","thing","place","faces","papers","birth"]:List Str).Nodup:=by decide +kernel
theorem Qo {f:Addr}{fd:FuncData} (F:Fun K "grow" "Growth.grow" B1 f fd) (T:Txt K mg Ac) (Hq:Has P w K mg base "check_size" ["pieces"] 1 (So K)) (J4:Has P w K mg base "add_faces" ["chain","faces","number"] 2 (Gw K)) (Df:HasM P w K mg base Ac "settled" ["self","sheet","edge"] 3 (G8 K Ac)) (Ai8:Has P w K mg base "fits" ["shape","thing"] 4 (Sr K)) (Ef:Has P w K mg base "counted" ["chain","prime"] 1 (Ij K)):FnOk P w K mg base CX0 5 f fd ["self","thing"] (N6 K Ac):=by
 refine F.ok Qg (fun vs H Q E h=>?_) (fun Bu A outer s H vs Q E hr h=>?_)
 . obtain⟨g,pc,sh,ed,en,v,p,xs,q,es,ss,bs,rfl,x,hv,hfd,hlt,shx,k3⟩:=h
   rfl
 . obtain⟨g,pc,sh,ed,en,v,p,xs,q,es,ss,bs,rfl,x,hv,hfd,hlt,shx,k3⟩:=h
   have hu8:(A.deeper (PyProof.Rows.envOfC "Growth.grow" (Ag B1) s.heap.objs.size f Bu)).units+8<cLine:=by have:=hr.units;omega
   refine⟨_,(Ae (As (i:=2) Dj (by rfl) (by first | exact Or.inl rfl | exact Or.inr rfl) (An (Ak (K:=K)) (by rfl) T.n_len PySem.boot_len (Ab (By (K:=K) (pv 0)) Af)))
    (Ae (Bi (Hf (Ea (Am Ai8 hr (by rfl) (Ab (By (K:=K) (pv 0)) (Ab (pv 1) Af))))) (Aj Kl) Ax)
    (Ae (B9 (Am Hq hr (by rfl) (Ab (Az (Ou (K:=K)) (By (K:=K) (pv 0)) (Dv (Ab (pv 1) Af))) Af)))
    (Ae (As (i:=3) Dj (by rfl) (by first | exact Or.inl rfl | exact Or.inr rfl) S9)
    (Ae (B9 (Am J4 hr (by rfl) (Ab (pv 3) (Ab (pv 1) (Ab Ai Af)))))
    (Ae (As (i:=4) Dj (by rfl) (by first | exact Or.inl rfl | exact Or.inr rfl) (S7 (pv 0) T.cl_Growth Df hr (Ab (A15 (Aq9 (pv 2) Ai A07) (by rfl) (by rfl) (by intro z;cases z) (Nat.le_of_ble_eq_true rfl)) (Ab (Am Ef hr (by rfl) (Ab (pv 3) (Ab (By (K:=K) (pv 0)) Af))) Af))))
    (Ae (B9 (Gj (K:=K) PySem.F.plainAttrs_list PySem.F.slot_list_append PySem.F.type_list_append B5 (By (K:=K) (pv 0)) (Ab (pv 1) Af)))
    (Ae (B9 (Gj (K:=K) PySem.F.plainAttrs_list PySem.F.slot_list_append PySem.F.type_list_append B5 (By (K:=K) (pv 0)) (Ab (Ba (A7 (K:=K)) (pv 4) Ai (fun _ _=>rfl)) Af)))
    (Ae (B9 (Gj (K:=K) PySem.F.plainAttrs_list PySem.F.slot_list_append PySem.F.type_list_append B5 (By (K:=K) (pv 0)) (Ab (Ba (A7 (K:=K)) (pv 4) Ai (fun _ _=>rfl)) Af)))
    (Ae (Bi (Ao Do (An Pu (by rfl) T.n_len PySem.boot_len (Ab (Ba (A7 (K:=K)) (pv 4) Ai (fun _ _=>rfl)) Af)) Ai (Ay _)) (Aj (Av U7)) Ax)
    (Ae (As (i:=5) Dj (by rfl) (by first | exact Or.inl rfl | exact Or.inr rfl) (An (Pt (by rfl)) (by rfl) T.n_max Id (Ab (Ba (A7 (K:=K)) (pv 4) Ai (fun _ _=>rfl)) Af)))
    (Ae (Ac3 (u1 hu8) (By (K:=K) (pv 0)) (pv 5) (pv 2) (by rfl))
    (Aj (Av (pv 5))))))))))))))),?_⟩
   obtain⟨dx,fs,hg,l1,l2,l3,l4,l5,lm⟩:=x.ob
   obtain⟨us,hpc,r⟩:=x.pcs
   have hul:us.length=xs.length:=by have:=r.length;simpa using this
   have hp2:=x.pr.1.two
   have hp98:=x.pr.2
   have n40:=x.gw.n40
   have hcnt:=E4 x.gw.shp
   refine⟨_,rfl,g,Ac,dx,fs,_,rfl,hg,T.cl_Growth,T.na_Growth_pieces,l2,pc,us,rfl,.inl (.of hpc),?_⟩
   rw [hul]
   refine⟨_,rfl,g,Ac,dx,fs,_,rfl,hg,T.cl_Growth,T.na_Growth_pieces,l2,_,rfl,pc,v,.d (tI q),xs,rfl,⟨pc,us,rfl,.of hpc,r⟩,hv,fun H1 s1=>⟨_,rfl,?_⟩⟩
   have x1:=x.same s1
   have hg1:=s1 _ _ hg
   have hpc1:=s1 _ _ hpc
   have hf:A47 xs (.d (tI q))=true:=hfd
   refine ifN (by rw [hf];decide) ?_
   have hFit:=Yl hcnt hfd
   refine⟨_,rfl,g,Ac,dx,fs,_,rfl,hg1,T.cl_Growth,T.na_Growth_pieces,l2,_,rfl,A4 (by simp),fun m1 hm1=>⟨pc,m1,us,[v],rfl,rfl,?_,.of Ad,A4 (by simp;omega),fun m2 hm2=>?_⟩⟩
   . exact .of (Same.new hm1 _ _ hpc1)
   have s3:=(s1.trans (Same.new (o:=.lst [v]) hm1)).trans (Same.new (o:=.lst (us++[v])) hm2)
   refine⟨m2,us++[v],rfl,.of Ad,by simp;omega,?_⟩
   generalize upd (upd H1 m1 (.lst [v])) m2 (.lst (us++[v]))=H3 at s3
   have x3:=x.same s3
   refine fun D hD=>?_
   have s4:Same H3 (upd H3 D (.dK (cK []))):=Same.new hD
   refine⟨_,rfl,_,rfl,D,v,[],q,1,rfl,Ad,Rep.same (s3.trans s4) hv,?_,fun H5 st hD5=>?_⟩
   . have:=hFit.cnt
     simp;omega
   have s5:Same H H5:=s3.trans (Aa2 hD st)
   have x5:=x.same s5
   have hg5:=s5 _ _ hg
   have kad:∀ y∈A2 (addF [] q 1),y∈q:=fun y hy=>Vq (Nat.le_refl _) hy
   have nad:nd (addF [] q 1):=Tm (ms:=[]) (by simp [nd]) q 1 q.length
   have lev:∀ y∈q,0<=y/\y<(xs.length:Int)/\(xs.getD y.toNat []).length-1+1=q.length-1:=fun y hy=>by
    obtain⟨w,hw,hlv⟩:=hFit.bel y hy
    have h0:=hFit.low y hy
    have hl:=(List.getElem?_eq_some_iff.mp hw).1
    refine⟨h0,by omega,?_⟩
    rw [List.getD_eq_getElem?_getD,hw]
    exact hlv
   have lad:(addF [] q 1).length<=41:=Er nad fun y hy=>by
    have:=lev y (kad y hy)
    omega
   refine⟨_,rfl,g,dx,fs,rfl,hg5,lm.2.1,fun P hP=>⟨_,rfl,Ad,[(.inl (xs.length:Int),.int 1)],rfl,by simp,?_⟩⟩
   obtain⟨H6,e6⟩:∃ Z,Z=upd (upd H5 P (.dK [])) P (.dK (Fd [] [((.inl (xs.length:Int):Key),V.int 1)])):=⟨_,rfl⟩
   have hP6:H6 P=some (.dK (cK [((xs.length:Int),1)])):=by rw [e6];exact Ad
   have s6':Same H5 H6:=by rw [e6];exact (Same.new (o:=.dK []) hP).turn hP
   rw [←e6]
   clear e6
   have s6:=s5.trans s6'
   refine⟨_,rfl,_,rfl,g,Ac,dx,fs,_,rfl,s6 _ _ hg,T.cl_Growth,T.na_Growth_prime,l1,D,addF [] q 1,p,rfl,s6' _ _ hD5,by omega,nad,by omega,fun F H7 hF s7' hF7=>?_⟩
   have s7:=s6.trans s7'
   have x7:=x.same s7
   have en5:=x5.ens
   have en6:=s6 _ _ x.ens
   refine⟨g,pc,sh,ed,en,P,F,p,xs,es,ss,bs,[((xs.length:Int),1)],modI p (addF [] q 1),q.length-1,q,rfl,x7,s7' _ _ hP6,hF7,(Ap en5 hP).symm,(Ap en6 hF).symm,⟨?_,?_⟩,Ag4 nad (by omega),?_,?_,shx,Nk.first (fun f hf=>(lev f hf).1),rfl,?_⟩
   . simp [nd]
   . intro y hy
     simp at hy
     subst hy
     exact ⟨by simp,hp2⟩
   . intro y hy
     simp [A2] at hy
     omega
   . exact fun y hy=>lev y (kad y (At5 hy))
   intro t s' e' ms' me' H8 s8' ht hs' he' ns' ne' ok1 ok2 kk1 kk2 hno nok
   have s8:=s7.trans s8'
   have x8:=x.same s8
   have hg8:=s8 _ _ hg
   have hpc8:=s8 _ _ hpc
   have r8:=Reps.same s8 r
   have hv8:TI K H8 v q:=Rep.same s8 hv
   obtain⟨ds,hed,dl,dg⟩:=x8.eds.ex
   obtain⟨cs,hsh,cl,cg⟩:=x8.shs.ex
   have dsn:=Pn dl dg he' ne'
   have csn:=Pn cl cg hs' ns'
   have dl40:ds.length<=40:=by rw [dl,x.gw.le];exact n40
   have cl40:cs.length<=40:=by rw [cl,x.gw.ls];exact n40
   obtain⟨n1,n2,n3⟩:=x.ne
   have en8:=x8.ens
   have gp:g≠pc:=Fw hg8 hpc8 (fun z=>by cases z)
   have gs:g≠sh:=Fw hg8 hsh (fun z=>by cases z)
   have ge:g≠ed:=Fw hg8 hed (fun z=>by cases z)
   have tp:t≠pc:=Fw ht hpc8 (fun z=>by cases z)
   have ts:t≠sh:=Fw ht hsh (fun z=>by cases z)
   have te:t≠ed:=Fw ht hed (fun z=>by cases z)
   have ep:e'≠pc:=Fw he' hpc8 (fun z=>by cases z)
   have es':e'≠sh:=Fw he' hsh (fun z=>by cases z)
   have ee:e'≠ed:=Fw he' hed (fun z=>by cases z)
   have np:en≠pc:=Fw en8 hpc8 (fun z=>by cases z)
   have nsh:en≠sh:=Fw en8 hsh (fun z=>by cases z)
   have ned:en≠ed:=Fw en8 hed (fun z=>by cases z)
   have rs:Reps K H8 (us++[v]) ((xs++[q]).map tI):=by
    rw [List.map_append]
    exact Reps.append r8 ⟨_,_,rfl,hv8,rfl⟩
   refine⟨_,rfl,g,Ac,dx,fs,_,rfl,hg8,T.cl_Growth,T.na_Growth_pieces,l2,.inl ⟨rfl,us,.of hpc8⟩,_,rfl,pc,us,v,rfl,rfl,hpc8,Cc (by omega),?_⟩
   refine⟨_,rfl,g,Ac,dx,fs,_,rfl,(by rw [Ah gp];exact hg8),T.cl_Growth,T.na_Growth_sheets,l3,.inl ⟨rfl,_,.of (by rw [Ah n1.symm];exact hsh)⟩,_,rfl,t,_,_,_,rfl,rfl,.of (by rw [Ah tp];exact ht),at0 _ _,sh,_,_,rfl,rfl,(by rw [Ah n1.symm];exact hsh),Cc (by rw [List.length_map];omega),?_⟩
   refine⟨_,rfl,g,Ac,dx,fs,_,rfl,(by rw [Ah gs,Ah gp];exact hg8),T.cl_Growth,T.na_Growth_edges,l4,.inl ⟨rfl,_,.of (by rw [Ah n3.symm,Ah n2.symm];exact hed)⟩,_,rfl,t,_,_,_,rfl,rfl,.of (by rw [Ah ts,Ah tp];exact ht),at1 _ _ _,ed,_,_,rfl,rfl,(by rw [Ah n3.symm,Ah n2.symm];exact hed),Cc (by rw [List.length_map];omega),?_⟩
   rw [Zk,Zk]
   have put:=fun bs' gw=>x8.put (us:=us++[v]) (ds:=ds++[e']) (cs:=cs++[s']) (xs':=xs++[q]) (es':=es++[me']) (ss':=ss++[ms']) (bs':=bs') rs dsn.1 dsn.2 csn.1 csn.2 gw
   have gwn:=fun bs' hb=>x.gw.grow (bs':=bs') hFit hlt ⟨ok1,kk1,ok2,kk2,hno⟩ hb
   have frn:=fun bs'=>FrG.four (pc:=pc) (sh:=sh) (ed:=ed) (en:=en) (o1:=.lst (us++[v])) (o2:=.lst ((cs++[s']).map V.ref)) (o3:=.lst ((ds++[e']).map V.ref)) (o4:=.dK (cK bs')) s8
   obtain⟨H9,e9⟩:∃ Z,Z=upd (upd (upd H8 pc (.lst (us++[v]))) sh (.lst ((cs++[s']).map V.ref))) ed (.lst ((ds++[e']).map V.ref)):=⟨_,rfl⟩
   rw [←e9] at put frn ⊢
   have hg9:H9 g=some (.ins Ac dx fs):=by rw [e9,Ah ge,Ah gs,Ah gp];exact hg8
   have ht9:H9 t=some (.tup [.ref s',.ref e']):=by rw [e9,Ah te,Ah ts,Ah tp];exact ht
   have he9:H9 e'=some (.dK (cK me')):=by rw [e9,Ah ee,Ah es',Ah ep];exact he'
   have en9:H9 en=some (.dK (cK bs)):=by rw [e9,Ah ned,Ah nsh,Ah np];exact en8
   clear e9
   refine Ar (fun σ' H'=>σ'=[some (.ref g),some v,some (.int (xs.length:Int)),some (.ref D),some (.ref t),none]/\H9=H') ?_ fun key0=>key0 _ _ ⟨rfl,rfl⟩
   rintro _ _ ⟨rfl,rfl⟩
   refine⟨_,rfl,t,_,_,_,rfl,rfl,.of ht9,at1 _ _ _,e',cK me',rfl,he9,rfl,_,rfl,?_⟩
   rw [Mw]
   by_cases hz:me'=[]
   . subst hz
     refine ifP (by simp) ?_
     have w:=put bs (gwn bs (.inl ⟨rfl,rfl⟩))
     have f:=frn bs
     rw [Aw2 en9] at w f
     exact k3 _ _ _ _ _ f w (shx.grow x.gw nok) (.inl ⟨rfl,rfl⟩)
   refine ifN (by simpa using hz) ?_
   refine⟨_,rfl,t,_,_,_,rfl,rfl,.of ht9,at1 _ _ _,e',A2 me',cK me',rfl,he9,Yc me',Yb hz,fun b hb1 hb2=>?_⟩
   have tb:Top me' b:=⟨hb1,hb2⟩
   refine⟨_,rfl,_,rfl,g,Ac,dx,fs,_,rfl,hg9,T.cl_Growth,T.na_Growth_enders,l5,_,rfl,en,_,rfl,Ak5 en9 (Nat.le_trans x.gw.blen (by decide)),?_⟩
   refine⟨_,rfl,?_⟩
   obtain⟨b1,b2,b3⟩:=kk2 b hb1
   exact k3 _ _ _ _ _ (frn _) (put _ (gwn _ (.inr ⟨b,tb,rfl⟩))) (shx.grow x.gw nok) (.inr ⟨b,tb,rfl⟩)
abbrev S1:Stmt:=top 55
theorem A75:FnScope ["_law_script","_law_kind","_law_prime_here","_law_pieces","_law_growth","_law_piece","_law_stages","_law_stage","_law_k","_law_found"] ["_law_script"] (Ag S1):=⟨rfl,rfl,rfl,by decide +kernel,rfl,by decide +kernel,by decide +kernel⟩
theorem Kn:(["_law_script","_law_kind","_law_prime_here","_law_pieces","_law_growth","_law_piece","_law_stages","_law_stage","_law_k","_law_found"]:List Str).Nodup:=by decide +kernel
theorem A94 {f:Addr}{fd:FuncData} (F:Fun K "law" "law" S1 f fd) (T:Txt K mg Ac) (O0:Has P w K mg base "_law_prime" ["_law_cell"] 1 (Jv K)) (O1:Has P w K mg base "_law_built" ["_law_kind","_law_cells","_law_most"] 4 (N1 K)) (hcd_Growth:Bd4 P w K mg base Ac ["self","prime"] [.int 2] 4 (Kj K Ac)) (hc_Growth:HasC P w K mg base Ac ["self","prime"] 4 (Kj K Ac)) (Eg:Has P w K mg base "_law_cell_at" ["_law_script","_law_k"] 1 (Gz K)) (Ew:HasM P w K mg base Ac "grow" ["self","thing"] 5 (N6 K Ac)) (hmd_Growth_alive:Bd3 P w K mg base Ac "alive" ["self","k","stage"] [.non] 4 (G7 K Ac)) (Ee:HasM P w K mg base Ac "alive" ["self","k","stage"] 4 (G7 K Ac)) (Ff:Has P w K mg base "_law_whole" ["_law_found"] 1 (Ik K)) (Yi:Has P w K mg base "_law_due" ["_law_pieces","_law_k","_law_prime_here"] 3 (W9 K)):FnOk P w K mg base CX0 6 f fd ["_law_script"] (Zc K):=by
 refine F.ok A75 (fun vs H Q E h=>?_) (fun Bu A outer s H vs Q E hr h=>?_)
 . obtain⟨a,ns,rfl,hS,hl,k⟩:=h
   rfl
 . obtain⟨a,ns,rfl,hS,hl,k⟩:=h
   refine⟨_,(Ae (As (i:=1) Kn (by rfl) (by first | exact Or.inl rfl | exact Or.inr rfl) (Az Bh (Am Eg hr (by rfl) (Ab (pv 0) (Ab Ai Af))) Ai))
    (Ae (As (i:=2) Kn (by rfl) (by first | exact Or.inl rfl | exact Or.inr rfl) (Am O0 hr (by rfl) (Ab (Am Eg hr (by rfl) (Ab (pv 0) (Ab Ai Af))) Af)))
    (Ae (As (i:=3) Kn (by rfl) (by first | exact Or.inl rfl | exact Or.inr rfl) (Am O1 hr (by rfl) (Ab (Az Fv (pv 1) Ai) (Ab (Di (To (K:=K)) (pv 0) (Eb Ai) (Eb Ai)) (Ab (Ba (A7 (K:=K)) (Ck (Ab Ai (Ab Ai (Ab Ai (Ab Ai Af))))) (Az Bh (pv 1) Ai) (fun _ _=>rfl)) Af)))))
    (Ae (As (i:=4) Kn (by rfl) (by first | exact Or.inl rfl | exact Or.inr rfl) (Ar5 hc_Growth hr (by rfl) T.m_Growth (Ab (pv 2) Af)))
    (Ae (Ce PassesOwn.never rfl (Bo (K:=K) (pv 3)) (Aq (i:=5) Kn (by rfl) (by first | exact Or.inl rfl | exact Or.inr rfl)) (Aj (B9 (S7 (pv 4) T.cl_Growth Ew hr (Ab (pv 5) Af)))))
    (Ae (Jy (N':=["_law_k","_law_script","_law_pieces"]) (cap:=[none,some 0,some 3]) (i:=6) Kn (by rfl) (by first | exact Or.inl rfl | exact Or.inr rfl) (by rfl) (by kernel_rfl) (Km (by rfl) T.n_range (Ab Ai (Ab Ai Af))) (fun _ _ _ _=>(Aq (i:=0) Ba2 (by rfl) (by first | exact Or.inl rfl | exact Or.inr rfl))) (fun _ _ _ _=>Dd) (fun _ _ _ _=>(Az Bh (Am Eg hr (by rfl) (Ab (pv 1) (Ab (pv 0) Af))) (Az Dw (An (Ak (K:=K)) (by rfl) T.n_len PySem.boot_len (Ab (pv 2) Af)) Ai))))
    (Ae (Ce PassesOwn.never rfl (Bo (K:=K) (Az (Ou (K:=K)) (pv 6) (Dv (Ab (An (Ak (K:=K)) (by rfl) T.n_len PySem.boot_len (Ab (pv 3) Af)) Af)))) (Aq (i:=7) Kn (by rfl) (by first | exact Or.inl rfl | exact Or.inr rfl)) (Aj (Ce PassesOwn.never rfl (B4 (by rfl) T.n_range (Ab Ai Af)) (Aq (i:=8) Kn (by rfl) (by first | exact Or.inl rfl | exact Or.inr rfl)) (Ae (As (i:=9) Kn (by rfl) (by first | exact Or.inl rfl | exact Or.inr rfl) (S7 (pv 4) T.cl_Growth Ee hr (Ab (pv 8) (Ab (pv 7) Af))))
    (Aj (Bi (PW.pt (d3 (Hf (Ea (Am Ff hr (by rfl) (Ab (pv 9) Af)))) (U2 (Ao Ta (pv 9) (Am Yi hr (by rfl) (Ab (Di (To (K:=K)) (pv 3) Ft (Eb (pv 7))) (Ab (pv 8) (Ab (pv 2) Af)))) (Ay _))))) (Aj (Av J0)) Ax))))))
    (Aj (Av J0))))))))),?_⟩
   have p4:(0:Int)<4:=by decide
   refine Ar (fun σ' H'=>∃ kind:Int,σ'=[some (.ref a),some (.int kind),none,none,none,none,none,none,none,none]/\H=H') ?_ fun key=>?_
   rotate_left
   . exact ⟨_,rfl,a,ns,0,rfl,hS,by decide,hl,_,_,rfl,rfl,(by show (0:Int)<1000003;decide),key _ _ ⟨_,rfl,rfl⟩⟩
   rintro _ _ ⟨kind,rfl,rfl⟩
   refine Ar (fun σ' H'=>∃ p:Int,σ'=[some (.ref a),some (.int kind),some (.int p),none,none,none,none,none,none,none]/\Same H H'/\Bs p/\p<98) ?_ fun key=>?_
   rotate_left
   . exact ⟨_,rfl,a,ns,1,rfl,hS,by decide,hl,_,rfl,fun p H' s' hp h98=>key _ _ ⟨p,rfl,s',hp,h98⟩⟩
   rintro _ H1 ⟨p,rfl,s1,hpr,h98⟩
   have hS1:=s1.seq hS
   have k0:=Int.emod_nonneg kind (show (4:Int)≠0 by decide)
   have k1:=Int.emod_lt_of_pos kind p4
   refine Ar (fun σ' H'=>∃ (Pc:Addr) (us:List V) (xs:List (List Int)),σ'=[some (.ref a),some (.int kind),some (.int p),some (.ref Pc),none,none,none,none,none,none]/\Same H1 H'/\H' Pc=some (.lst us)/\Reps K H' us (xs.map tI)/\Cg xs/\xs.length<=40) ?_ fun key=>?_
   rotate_left
   . refine⟨_,rfl,_,_,rfl,rfl,⟨by decide,by decide⟩,_,rfl,_,rfl,_,rfl,a,_,rfl,hS1,fun C hC=>?_⟩
     rw [Av1]
     have s2:=Same.new (o:=.lst ((cutS ns (some 4) (some 62)).map V.int)) hC
     have hC1:(upd H1 C (.lst ((cutS ns (some 4) (some 62)).map V.int))) C=some (.lst ((cutS ns (some 4) (some 62)).map V.int)):=Ad
     have cl1:=Av2 ns (some 4) (some 62)
     generalize cutS ns (some 4) (some 62)=ms at s2 hC1 cl1 ⊢
     generalize upd H1 C (.lst (ms.map V.int))=H2 at s2 hC1 ⊢
     refine⟨A4 (by simp),fun T1 hT1=>?_⟩
     obtain⟨x,hx,x0,x1⟩:∃ x:Int,atI [V.int 8,V.int 14,V.int 20,V.int 14] (kind%4)=some (.int x)/\0<=x/\x<=40:=by
      rcases (show kind%4=0\/kind%4=1\/kind%4=2\/kind%4=3 by omega) with e | e | e | e<;>rw [e]<;>exact ⟨_,rfl,by decide,by decide⟩
     have s3:Same H2 (upd H2 T1 (.tup [.int 8,.int 14,.int 20,.int 14])):=Same.new hT1
     refine⟨_,rfl,_,_,rfl,rfl,p4,T1,_,_,_,rfl,rfl,.of Ad,hx,C,ms,_,x,rfl,.of (s3 _ _ hC1),by omega,x0,x1,fun Pc us xs H' hp s' hp' r' hC hxl=>?_⟩
     exact key _ _ ⟨Pc,us,xs,rfl,(s2.trans s3).trans s',hp',r',hC,by omega⟩
   rintro _ H2 ⟨Pc,us,xs,rfl,s2,hPc,rPc,hsh,hx40⟩
   refine Ar (fun σ' H'=>∃ (g pc sh ed en:Addr),σ'=[some (.ref a),some (.int kind),some (.int p),some (.ref Pc),some (.ref g),none,none,none,none,none]/\Same H2 H'/\C9 K Ac H' g pc sh ed en p [] [] [] []/\∀ c,W4 pc sh ed en c->H2 c=none) ?_ fun key=>?_
   rotate_left
   . refine⟨_,rfl,?_⟩
     intro g dx ng ndx nedx
     have sN:Same H2 (upd (upd H2 dx (.own g)) g (.ins Ac dx [])):=(Same.new ndx).turn ng
     have eg:upd (upd H2 dx (.own g)) g (.ins Ac dx []) g=some (.ins Ac dx []):=Ad
     generalize upd (upd H2 dx (.own g)) g (.ins Ac dx [])=H3 at sN eg ⊢
     refine⟨g,dx,p,rfl,eg,hpr,h98,fun pc sh ed en H4 npc nsh ned nen sx x=>⟨rfl,?_⟩⟩
     refine key _ _ ⟨g,pc,sh,ed,en,rfl,fun c o e=>sx c o (Ap e ng) (sN _ _ e),x,?_⟩
     rintro c (rfl | rfl | rfl | rfl)
     . exact sN.free npc
     . exact sN.free nsh
     . exact sN.free ned
     . exact sN.free nen
   rintro _ H3 ⟨g,pc,sh,ed,en,rfl,s3,x3,new3⟩
   have hPc3:=s3 _ _ hPc
   have r3:=Reps.same s3 rPc
   have usl:us.length=xs.length:=by have:=r3.length;simpa using this
   have nPc:¬W4 pc sh ed en Pc:=fun w=>by rw [new3 Pc w] at hPc;cases hPc
   refine Ar (fun σ' G=>∃ (o5:Option V) (es ss:List Ms) (bs:Ms),σ'=[some (.ref a),some (.int kind),some (.int p),some (.ref Pc),some (.ref g),o5,none,none,none,none]/\FrG pc sh ed en H3 G/\C9 K Ac G g pc sh ed en p xs es ss bs/\Dy p xs es ss) ?_ fun key=>?_
   rotate_left
   . refine⟨_,rfl,Pc,rfl,⟨_,.of hPc3⟩,?_⟩
     refine for_list (K:=K) (a:=Pc) (xs:=us) (fun i σ G=>∃ (o5:Option V) (es ss:List Ms) (bs:Ms),σ=[some (.ref a),some (.int kind),some (.int p),some (.ref Pc),some (.ref g),o5,none,none,none,none]/\FrG pc sh ed en H3 G/\C9 K Ac G g pc sh ed en p (xs.take i) es ss bs/\Dy p (xs.take i) es ss)
      ⟨none,[],[],[],rfl,FrG.of (Same.refl H3),x3,Dy.nil⟩ (fun i σ G _ ⟨_,_,_,_,_,fr,_⟩=>.of (fr _ _ nPc hPc3)) ?_ ?_
     . rintro i v σ G hv ⟨o5,es,ss,bs,rfl,fr,x,shx⟩
       have hi:i<xs.length:=by rw [←usl];exact (List.getElem?_eq_some_iff.mp hv).1
       have hxi:xs[i]?=some xs[i]:=List.getElem?_eq_getElem hi
       obtain⟨dv,hdv,rv⟩:=r3.getV hv
       have edv:dv=tI xs[i]:=by
        rw [List.getElem?_map,hxi] at hdv
        exact (Option.some.inj hdv).symm
       subst edv
       have tv:TI K G v xs[i]:=Rep.t (fr.t x3) (Ai5 _) rv
       have hfit:Em (xs.take i) (tI xs[i])=true:=A46 (hsh i _ hxi)
       have etk:xs.take (i+1)=xs.take i++[xs[i]]:=by rw [List.take_succ,hxi];rfl
       obtain⟨dx,fs,hg,l1,l2,l3,l4,l5,lm⟩:=x.ob
       refine⟨_,rfl,g,dx,fs,rfl,hg,lm.1,_,rfl,g,pc,sh,ed,en,v,p,xs.take i,xs[i],es,ss,bs,rfl,x,tv,hfit,by rw [List.length_take];omega,shx,fun r me ms bs' G1 fr1 x1 sh1 an=>?_⟩
       refine⟨_,es++[me],ss++[ms],bs',rfl,fun c o' n e=>fr1 c o' n (fr c o' n e),?_,?_⟩
       . rw [etk];exact x1
       . rw [etk];exact sh1
     . rintro σ G ⟨o5,es,ss,bs,rfl,fr,x,shx⟩
       rw [usl,List.take_length] at x shx
       exact key _ _ ⟨o5,es,ss,bs,rfl,fr,x,shx⟩
   rintro _ H4 ⟨o5,es,ss,bs,rfl,fr4,x4,sh4⟩
   have hPc4:H4 Pc=some (.lst us):=fr4 _ _ nPc hPc3
   have r4:Reps K H4 us (xs.map tI):=Reps.t (fr4.t x3) (Ks _) r3
   have hS2:SqL K H3 a (ns.map V.int):=s3.seq (s2.seq hS1)
   have hS4:SqL K H4 a (ns.map V.int):=A72 fr4 (fun c w=>new3 c w) s3 (s2.seq hS1)
   refine Ar (fun σ' G=>∃ (S:Addr) (zs:List Int),σ'=[some (.ref a),some (.int kind),some (.int p),some (.ref Pc),some (.ref g),o5,some (.ref S),none,none,none]/\Same H4 G/\G S=some (.lst (zs.map V.int))/\zs.length<=2/\∀ z∈zs,0<=z/\z<=(xs.length:Int)) ?_ fun key=>?_
   rotate_left
   . refine⟨_,_,rfl,⟨by decide,by decide,by decide,by decide⟩,fun D hD=>?_⟩
     refine J9 (fun i ys τ G=>Same H4 G/\(∃ zs:List Int,ys=zs.map V.int/\G D=some (.lst ys)/\zs.length=i/\∀ z∈zs,0<=z/\z<=(xs.length:Int))/\∃ o,τ=[o,some (.ref a),some (.ref Pc)])
      ⟨Same.new hD,⟨[],rfl,Ad,rfl,fun z h=>by cases h⟩,none,rfl⟩ ?_ ?_
     . rintro i ys τ G hi ⟨s5,⟨zs,rfl,hD5,hzl,hz⟩,o,rfl⟩
       have hi2:i<2:=hi
       refine⟨_,rfl,_,rfl,a,ns,_,rfl,s5.seq hS4,by omega,hl,_,rfl,Pc,us,rfl,.inl (.of (s5 _ _ hPc4)),_,_,rfl,rfl,_,_,rfl,rfl,(by show (0:Int)<(us.length:Int)+1;omega),hD5,Cc (by rw [List.length_map];omega),s5.turn hD,⟨zs++[_],by rw [List.map_append];rfl,Ad,by rw [List.length_append,hzl];rfl,fun z h=>?_⟩,_,rfl⟩
       rcases List.mem_append.mp h with h | h
       . exact hz z h
       . rw [List.mem_singleton.mp h]
         have q0:=Int.emod_nonneg (Po ns (2+(i:Int))) (show ((us.length:Int)+1)≠0 by omega)
         have q1:=Int.emod_lt_of_pos (Po ns (2+(i:Int))) (show (0:Int)<(us.length:Int)+1 by omega)
         rw [usl] at q0 q1
         refine⟨?_,?_⟩<;>rw [usl]<;>omega
     . rintro ys τ G ⟨s5,⟨zs,rfl,hD5,hzl,hz⟩,_⟩
       exact key _ _ ⟨D,zs,rfl,s5,hD5,by rw [hzl];exact Nat.le_refl _,hz⟩
   rintro _ H5 ⟨S,zs,rfl,s5,hS5,hzl,hz⟩
   have hPc5:=s5 _ _ hPc4
   have x5:=x4.same s5
   refine Ar (fun σ' G=>∃ (o7 o8 o9:Option V),σ'=[some (.ref a),some (.int kind),some (.int p),some (.ref Pc),some (.ref g),o5,some (.ref S),o7,o8,o9]/\Same H5 G) ?_ fun key=>?_
   rotate_left
   . refine⟨_,rfl,_,rfl,Pc,us,rfl,.inl (.of hPc5),A4 (by simp),fun N hN=>?_⟩
     have s6:Same H5 (upd H5 N (.lst [.int (us.length:Int)])):=Same.new hN
     have hN6:upd H5 N (.lst [.int (us.length:Int)]) N=some (.lst [.int (us.length:Int)]):=Ad
     generalize upd H5 N (.lst [.int (us.length:Int)])=H6 at s6 hN6 ⊢
     refine⟨S,N,_,_,rfl,rfl,.of (s6 _ _ hS5),.of hN6,A4 (by rw [List.length_map];simp;omega),fun B hB=>?_⟩
     have s7:Same H6 (upd H6 B (.lst (zs.map V.int++[.int (us.length:Int)]))):=Same.new hB
     have hB7:upd H6 B (.lst (zs.map V.int++[.int (us.length:Int)])) B=some (.lst (zs.map V.int++[.int (us.length:Int)])):=Ad
     generalize upd H6 B (.lst (zs.map V.int++[.int (us.length:Int)]))=H7 at s7 hB7 ⊢
     have s57:=s6.trans s7
     refine⟨B,rfl,⟨_,.of hB7⟩,?_⟩
     refine for_list (K:=K) (a:=B) (xs:=zs.map V.int++[.int (us.length:Int)]) (fun i σ G=>∃ (o7 o8 o9:Option V),σ=[some (.ref a),some (.int kind),some (.int p),some (.ref Pc),some (.ref g),o5,some (.ref S),o7,o8,o9]/\Same H7 G) ⟨none,none,none,rfl,Same.refl H7⟩ (fun i σ G _ ⟨_,_,_,_,s8⟩=>.of (s8 _ _ hB7)) ?_ ?_
     . rintro i v σ G hv ⟨o7,o8,o9,rfl,s8⟩
       obtain⟨st,rfl,hst⟩:∃ st:Nat,v=.int (st:Int)/\st<=xs.length:=by
        have hm:=List.mem_of_getElem? hv
        rcases List.mem_append.mp hm with h | h
        . obtain⟨z,hz1,rfl⟩:=List.mem_map.mp h
          obtain⟨z0,z1⟩:=hz z hz1
          obtain⟨m,rfl⟩:=Int.eq_ofNat_of_zero_le z0
          exact ⟨m,rfl,by omega⟩
        . rw [List.mem_singleton.mp h]
          exact ⟨us.length,rfl,by omega⟩
       refine⟨_,rfl,by decide,by decide,?_⟩
       refine B6 (lo:=0) (n:=4) (fun j σ' G=>∃ (o8 o9:Option V),σ'=[some (.ref a),some (.int kind),some (.int p),some (.ref Pc),some (.ref g),o5,some (.ref S),some (.int (st:Int)),o8,o9]/\Same H7 G) ⟨_,_,rfl,s8⟩ ?_ ?_
       . rintro j σ' G hj ⟨o8,o9,rfl,s9⟩
         have hj4:j<4:=hj
         have s59:=s57.trans s9
         have xG:=x5.same s59
         obtain⟨dx,fs,hg,l1,l2,l3,l4,l5,lm⟩:=xG.ob
         rw [show (0:Int)+(j:Int)=(j:Int) by omega]
         refine Ar (fun σ2 G2=>σ2=[some (.ref a),some (.int kind),some (.int p),some (.ref Pc),some (.ref g),o5,some (.ref S),some (.int (st:Int)),some (.int (j:Int)),some (.int (K1 xs es bs (j:Int) (st:Int):Nat))]/\Same G G2) ?_ fun key=>?_
         rotate_left
         . exact ⟨_,rfl,g,dx,fs,rfl,hg,lm.2.2.2.2.2.2,_,rfl,_,rfl,g,pc,sh,ed,en,_,_,_,p,xs,es,ss,bs,rfl,xG,by omega,by omega,.inr ⟨rfl,by omega,by omega⟩,fun H' s'=>key _ _ ⟨rfl,s'⟩⟩
         rintro _ G2 ⟨rfl,s10⟩
         refine⟨_,rfl,_,.int (K1 xs es bs (j:Int) (st:Int):Nat),rfl,rfl,_,rfl,?_⟩
         refine ifN (by simp [En,isD]) ?_
         have s510:=s59.trans s10
         refine⟨_,rfl,_,rfl,_,rfl,_,rfl,Pc,us,rfl,.of (s510 _ _ hPc5),fun T1 hT1=>?_⟩
         have hcut:cutV us none (some (st:Int))=us.take st:=Kv us st
         rw [hcut]
         have s11:Same G2 (upd G2 T1 (.lst (us.take st))):=Same.new hT1
         have hT:upd G2 T1 (.lst (us.take st)) T1=some (.lst (us.take st)):=Ad
         generalize upd G2 T1 (.lst (us.take st))=G3 at s11 hT ⊢
         have s411:=(s5.trans s510).trans s11
         have rT:Reps K G3 (us.take st) ((xs.take st).map tI):=by
          rw [List.map_take]
          exact (Reps.same s411 r4).take st
         have LP:LT K G3 (.ref T1) (xs.take st):=⟨T1,_,rfl,.of hT,rT⟩
         refine⟨_,rfl,_,rfl,T1,xs.take st,(j:Int),p,rfl,LP,Ad5 hsh hx40 hst,hpr,h98,fun G4 s12=>?_⟩
         refine⟨rfl,_,rfl,?_⟩
         refine ifN (by rw [←Ap0 hpr x4.gw sh4 hsh hst];simp) ?_
         exact ⟨_,_,rfl,((s9.trans s10).trans s11).trans s12⟩
       . rintro σ' G ⟨o8,o9,rfl,s9⟩
         exact ⟨_,_,_,rfl,s9⟩
     . rintro σ G ⟨o7,o8,o9,rfl,s8⟩
       exact key _ _ ⟨o7,o8,o9,rfl,s57.trans s8⟩
   rintro _ H6 ⟨o7,o8,o9,rfl,s6⟩
   exact k H6
end
end Hb
namespace Hb
open PySem L2
theorem V1 {α:Type}{P:List α->Prop} (h:∀ a0,P [a0]) (us:List α) (hl:us.length=1):P us:=by
 cases us with
 | nil=>exact nomatch hl
 | cons a0 u0 =>
   cases u0 with
   | nil=>exact h a0
   | cons _ _=>simp at hl
theorem Gu {α:Type}{P:List α->Prop} (h:∀ a0 a1,P [a0,a1]) (us:List α) (hl:us.length=2):P us:=by
 cases us with
 | nil=>exact nomatch hl
 | cons a0 u0 =>
   cases u0 with
   | nil=>exact nomatch hl
   | cons a1 u1 =>
     cases u1 with
     | nil=>exact h a0 a1
     | cons _ _=>simp at hl
theorem Pa {α:Type}{P:List α->Prop} (h:∀ a0 a1 a2,P [a0,a1,a2]) (us:List α) (hl:us.length=3):P us:=by
 cases us with
 | nil=>exact nomatch hl
 | cons a0 u0 =>
   cases u0 with
   | nil=>exact nomatch hl
   | cons a1 u1 =>
     cases u1 with
     | nil=>exact nomatch hl
     | cons a2 u2 =>
       cases u2 with
       | nil=>exact h a0 a1 a2
       | cons _ _=>simp at hl
set_option maxHeartbeats 4000000 in
theorem all_mk {l:PySem.W.OpenLaw}{w:World}{K:W.Frag}{h:Heap}{mg:Str->Option Value}{fa:Addr}{Ac:Addr}
 {L8:Addr}{Xx Y5:Option Addr}{Xd:Array (Option Value)}{X1 Ye Yt Xn Pq Yx:Value}
 {Dr:Addr}{Ls Ml:Option Addr}{K8:Array (Option Value)}{Lw L1 Mb Lh Fk Me:Value}
 {L7:Addr}{Xw Y4:Option Addr}{Xc:Array (Option Value)}{X0 Yd Ys Xm Pp Yw:Value}
 {F6:Addr}{Qq Re:Option Addr}{Qa:Array (Option Value)}{Qu Q1 Q5 Qi Jo Q9:Value}
 {Tx:Addr}{Ae7 Ao4:Option Addr}{Aa4:Array (Option Value)}{Af3 Ah4 Al1 Ac5 Wd Al9:Value}
 {Ym:Addr}{As9 Aw0:Option Addr}{Aq0:Array (Option Value)}{At1 Au2 Au8 Ar0 Zs Av3:Value}
 {Hu:Addr}{Te Ug:Option Addr}{Su:Array (Option Value)}{Th Tq T9 S3 Kx Uc:Value}
 {O2:Addr}{g8 x9:Option Addr}{Z8:Array (Option Value)}{i7 m3 p7 d4 Rs u5:Value}
 {Dl:Addr}{On P1:Option Addr}{N8:Array (Option Value)}{Op Ox Pf Oh Ib Pj:Value}
 {Ma:Addr}{Xz Y7:Option Addr}{Xf:Array (Option Value)}{X3 Yg Yv Xp Ps Yz:Value}
 {O3:Addr}{g9 y3:Option Addr}{Z9:Array (Option Value)}{i8 m4 p9 d5 Rt u6:Value}
 {J8:Addr}{Vf Wv:Option Addr}{Ut:Array (Option Value)}{Vi Vt V5 U5 Mv V8:Value}
 {O6:Addr}{i5 y7:Option Addr}{b4:Array (Option Value)}{j4 m7 r9 d8 Rw u9:Value}
 {O5:Addr}{i4 y6:Option Addr}{a9:Array (Option Value)}{j3 m6 r6 d7 Rv u8:Value}
 {T0:Addr}{Af0 Ao7:Option Addr}{Aa7:Array (Option Value)}{Af6 Ah7 Al4 Ac8 Wg Am2:Value}
 {Hw:Addr}{Tg Ui:Option Addr}{Sw:Array (Option Value)}{Tj Ts Ub S5 Kz Ue:Value}
 {J7:Addr}{Ve Wu:Option Addr}{Us:Array (Option Value)}{Vh Vs V4 U4 Mu V7:Value}
 {O4:Addr}{i3 y4:Option Addr}{a8:Array (Option Value)}{i9 m5 q9 d6 Ru u7:Value}
 {Tz:Addr}{Ae9 Ao6:Option Addr}{Aa6:Array (Option Value)}{Af5 Ah6 Al3 Ac7 Wf Am1:Value}
 {Ds:Addr}{Lu Mm:Option Addr}{K9:Array (Option Value)}{Lx L3 Mc Li Fl Mf:Value}
 {Aj8:Addr}{A25 A60:Option Addr}{Az4:Array (Option Value)}{A27 A36 A51 A08 An1 A53:Value}
 {J6:Addr}{Vd Wt:Option Addr}{Ur:Array (Option Value)}{Vg Vr V3 U3 Mt V6:Value}
 {F5:Addr}{Qp Rc:Option Addr}{P9:Array (Option Value)}{Qt Q0 Q4 Qh Jn Q8:Value}
 {T3:Addr}{Af2 Ao9:Option Addr}{Aa9:Array (Option Value)}{Af8 Ah9 Al6 Ad0 Wi Am4:Value}
 {Ty:Addr}{Ae8 Ao5:Option Addr}{Aa5:Array (Option Value)}{Af4 Ah5 Al2 Ac6 We Am0:Value}
 {Ey:Addr}{Om P0:Option Addr}{N7:Array (Option Value)}{Oo Ow Pe Og Ia Pi:Value}
 {Eh:Addr}{Nc Nj:Option Addr}{M6:Array (Option Value)}{Nd Nf Ng M9 Go Nh:Value}
 {Cv:Addr}{Je Jj:Option Addr}{I0:Array (Option Value)}{Jf Jg Jh Jc Dx Ji:Value}
 {F7:Addr}{Qr Rf:Option Addr}{Qb:Array (Option Value)}{Qv Q2 Q6 Qj Jp Ra:Value}
 {L9:Addr}{Xy Y6:Option Addr}{Xe:Array (Option Value)}{X2 Yf Yu Xo Pr Yy:Value}
 {Cs:Addr}{Lv Mn:Option Addr}{La:Array (Option Value)}{Ly L4 Md Lj Fm Mg:Value}
 {T2:Addr}{Af1 Ao8:Option Addr}{Aa8:Array (Option Value)}{Af7 Ah8 Al5 Ac9 Wh Am3:Value}
 {Hv:Addr}{Tf Uh:Option Addr}{Sv:Array (Option Value)}{Ti Tr Ua S4 Ky Ud:Value}
 {Yn:Addr}{At0 Aw1:Option Addr}{Aq1:Array (Option Value)}{At2 Au3 Au9 Ar1 Zt Av4:Value}
 {Aj9:Addr}{A26 A61:Option Addr}{Az6:Array (Option Value)}{A28 A37 A52 A09 An3 A54:Value}
 {Cf:Addr}{Gh Gp:Option Addr}{Gd:Array (Option Value)}{Gi Gk Gm Ge Du Gn:Value}
 {Dt:Addr}{Gb:Nat}{E1:Array (Option Value)}{E2:Option Addr}{tk_Growth__init__0:Tok}
 {Cr:Addr}{Hj Ig:Option Addr}{G9:Array (Option Value)}{Hl Ho Hx Hg Ej Hy:Value}
 {Ei:Addr}{Gv:Nat}{Ga:Array (Option Value)}{Gc:Option Addr}
 {O7:Addr}{i6 y8:Option Addr}{b5:Array (Option Value)}{j5 m8 u4 d9 Rx v4:Value}
 {D1:Addr}{Qs Rg:Option Addr}{Qc:Array (Option Value)}{Qw Q3 Q7 Qk Jq Rb:Value}
 {A48:Addr}{A95 Ay7:Option Addr}{A74:Array (Option Value)}{A96 Ay0 Ay5 Aw6 An2 Ay6:Value}
 {t_MOST_PIECES:Tok}
 {t_PRIME_BOUND:Tok}
 {t_LEVELS:Tok}
 {fc_FACE_COUNTS:Addr}{nc_FACE_COUNTS:Nat}{slc_FACE_COUNTS:Array (Option Value)}{tc_FACE_COUNTS_0 tc_FACE_COUNTS_1 tc_FACE_COUNTS_2 tc_FACE_COUNTS_3:Tok}
 (X:K.In h) (G:h.Ns mainGlobals mg) (hfa:mg "law"=some (.ref fa))
 (ac_Growth:PySem.W.nsIn K mainGlobals "Growth"=some (some (.ref Ac)))
 (zq2u:PySem.W.nsIn K mainGlobals "is_whole"=some (some (.ref L8)))
 (zq2m:K.lookup L8=some ⟨X1,Xx,.func (PySem.W.fnOf "is_whole" "is_whole" (Au D5) (At D5) (Ag D5) .none Ye Yt Xn Y5 Pq Yx),Xd⟩)
 (zq2q:PySem.W.codeIn K Pq "is_whole"=true)
 (zq23:PySem.W.keepIn K (.ref L8)=true)
 (zq0n:PySem.W.nsIn K mainGlobals "shared_divisor"=some (some (.ref Dr)))
 (zq0h:K.lookup Dr=some ⟨Lw,Ls,.func (PySem.W.fnOf "shared_divisor" "shared_divisor" (Au Bj) (At Bj) (Ag Bj) .none L1 Mb Lh Ml Fk Me),K8⟩)
 (zq0k:PySem.W.codeIn K Fk "shared_divisor"=true)
 (zq02:PySem.W.keepIn K (.ref Dr)=true)
 (zq2t:PySem.W.nsIn K mainGlobals "level_of"=some (some (.ref L7)))
 (zq2l:K.lookup L7=some ⟨X0,Xw,.func (PySem.W.fnOf "level_of" "level_of" (Au D4) (At D4) (Ag D4) .none Yd Ys Xm Y4 Pp Yw),Xc⟩)
 (zq2p:PySem.W.codeIn K Pp "level_of"=true)
 (zq22:PySem.W.keepIn K (.ref L7)=true)
 (zq1q:PySem.W.nsIn K mainGlobals "faces_agree"=some (some (.ref F6)))
 (zq1f:K.lookup F6=some ⟨Qu,Qq,.func (PySem.W.fnOf "faces_agree" "faces_agree" (Au Ci) (At Ci) (Ag Ci) .none Q1 Q5 Qi Re Jo Q9),Qa⟩)
 (zq1m:PySem.W.codeIn K Jo "faces_agree"=true)
 (zq0r:PySem.W.keepIn K (.ref F6)=true)
 (zq3z:PySem.W.nsIn K mainGlobals "add_at"=some (some (.ref Tx)))
 (zq3l:K.lookup Tx=some ⟨Af3,Ae7,.func (PySem.W.fnOf "add_at" "add_at" (Au Fp) (At Fp) (Ag Fp) .none Ah4 Al1 Ac5 Ao4 Wd Al9),Aa4⟩)
 (zq3t:PySem.W.codeIn K Wd "add_at"=true)
 (zq2x:PySem.W.keepIn K (.ref Tx)=true)
 (zq49:PySem.W.nsIn K mainGlobals "times"=some (some (.ref Ym)))
 (zq45:K.lookup Ym=some ⟨At1,As9,.func (PySem.W.fnOf "times" "times" (Au Lf) (At Lf) (Ag Lf) .none Au2 Au8 Ar0 Aw0 Zs Av3),Aq0⟩)
 (zq47:PySem.W.codeIn K Zs "times"=true)
 (zq3r:PySem.W.keepIn K (.ref Ym)=true)
 (zq1z:PySem.W.nsIn K mainGlobals "check_size"=some (some (.ref Hu)))
 (zq1t:K.lookup Hu=some ⟨Th,Te,.func (PySem.W.fnOf "check_size" "check_size" (Au Cy) (At Cy) (Ag Cy) .none Tq T9 S3 Ug Kx Uc),Su⟩)
 (zq1w:PySem.W.codeIn K Kx "check_size"=true)
 (zq12:PySem.W.keepIn K (.ref Hu)=true)
 (zq3f:PySem.W.nsIn K mainGlobals "counted"=some (some (.ref O2)))
 (zq33:K.lookup O2=some ⟨i7,g8,.func (PySem.W.fnOf "counted" "counted" (Au E5) (At E5) (Ag E5) .none m3 p7 d4 x9 Rs u5),Z8⟩)
 (zq39:PySem.W.codeIn K Rs "counted"=true)
 (zq2f:PySem.W.keepIn K (.ref O2)=true)
 (zq1d:PySem.W.findIn K (.ref Ac) "pairs"=some (some (.ref Dl)))
 (zq0y:PySem.W.isFn K (.ref Dl)=true)
 (zq16:K.lookup Dl=some ⟨Op,On,.func (PySem.W.fnOf "pairs" "Growth.pairs" (Au Bq) (At Bq) (Ag Bq) .none Ox Pf Oh P1 Ib Pj),N8⟩)
 (zq1a:PySem.W.codeIn K Ib "Growth.pairs"=true)
 (zq0e:PySem.W.keepIn K (.ref Dl)=true)
 (zq2w:PySem.W.nsIn K mainGlobals "is_alive"=some (some (.ref Ma)))
 (zq2o:K.lookup Ma=some ⟨X3,Xz,.func (PySem.W.fnOf "is_alive" "is_alive" (Au D7) (At D7) (Ag D7) .none Yg Yv Xp Y7 Ps Yz),Xf⟩)
 (zq2s:PySem.W.codeIn K Ps "is_alive"=true)
 (zq25:PySem.W.keepIn K (.ref Ma)=true)
 (zq3g:PySem.W.nsIn K mainGlobals "_law_whole"=some (some (.ref O3)))
 (zq34:K.lookup O3=some ⟨i8,g9,.func (PySem.W.fnOf "_law_whole" "_law_whole" (Au E6) (At E6) (Ag E6) .none m4 p9 d5 y3 Rt u6),Z9⟩)
 (zq3a:PySem.W.codeIn K Rt "_law_whole"=true)
 (zq2g:PySem.W.keepIn K (.ref O3)=true)
 (zq2e:PySem.W.nsIn K mainGlobals "_law_cell_at"=some (some (.ref J8)))
 (zq28:K.lookup J8=some ⟨Vi,Vf,.func (PySem.W.fnOf "_law_cell_at" "_law_cell_at" (Au Dc) (At Dc) (Ag Dc) .none Vt V5 U5 Wv Mv V8),Ut⟩)
 (zq2b:PySem.W.codeIn K Mv "_law_cell_at"=true)
 (zq1k:PySem.W.keepIn K (.ref J8)=true)
 (zq3j:PySem.W.nsIn K mainGlobals "_law_level"=some (some (.ref O6)))
 (zq37:K.lookup O6=some ⟨j4,i5,.func (PySem.W.fnOf "_law_level" "_law_level" (Au E9) (At E9) (Ag E9) .none m7 r9 d8 y7 Rw u9),b4⟩)
 (zq3d:PySem.W.codeIn K Rw "_law_level"=true)
 (zq2j:PySem.W.keepIn K (.ref O6)=true)
 (zq3i:PySem.W.nsIn K mainGlobals "_law_meets"=some (some (.ref O5)))
 (zq36:K.lookup O5=some ⟨j3,i4,.func (PySem.W.fnOf "_law_meets" "_law_meets" (Au E8) (At E8) (Ag E8) .none m6 r6 d7 y6 Rv u8),a9⟩)
 (zq3c:PySem.W.codeIn K Rv "_law_meets"=true)
 (zq2i:PySem.W.keepIn K (.ref O5)=true)
 (zq42:PySem.W.nsIn K mainGlobals "_law_pick"=some (some (.ref T0)))
 (zq3o:K.lookup T0=some ⟨Af6,Af0,.func (PySem.W.fnOf "_law_pick" "_law_pick" (Au Io) (At Io) (Ag Io) .none Ah7 Al4 Ac8 Ao7 Wg Am2),Aa7⟩)
 (zq3w:PySem.W.codeIn K Wg "_law_pick"=true)
 (zq30:PySem.W.keepIn K (.ref T0)=true)
 (zq21:PySem.W.nsIn K mainGlobals "_law_faces_by"=some (some (.ref Hw)))
 (zq1v:K.lookup Hw=some ⟨Tj,Tg,.func (PySem.W.fnOf "_law_faces_by" "_law_faces_by" (Au Cz) (At Cz) (Ag Cz) .none Ts Ub S5 Ui Kz Ue),Sw⟩)
 (zq1y:PySem.W.codeIn K Kz "_law_faces_by"=true)
 (zq14:PySem.W.keepIn K (.ref Hw)=true)
 (zq2d:PySem.W.nsIn K mainGlobals "_law_word_by"=some (some (.ref J7)))
 (zq27:K.lookup J7=some ⟨Vh,Ve,.func (PySem.W.fnOf "_law_word_by" "_law_word_by" (Au Db) (At Db) (Ag Db) .none Vs V4 U4 Wu Mu V7),Us⟩)
 (zq2a:PySem.W.codeIn K Mu "_law_word_by"=true)
 (zq1j:PySem.W.keepIn K (.ref J7)=true)
 (zq3h:PySem.W.nsIn K mainGlobals "_law_prime"=some (some (.ref O4)))
 (zq35:K.lookup O4=some ⟨i9,i3,.func (PySem.W.fnOf "_law_prime" "_law_prime" (Au E7) (At E7) (Ag E7) .none m5 q9 d6 y4 Ru u7),a8⟩)
 (zq3b:PySem.W.codeIn K Ru "_law_prime"=true)
 (zq2h:PySem.W.keepIn K (.ref O4)=true)
 (zq41:PySem.W.nsIn K mainGlobals "_law_rank"=some (some (.ref Tz)))
 (zq3n:K.lookup Tz=some ⟨Af5,Ae9,.func (PySem.W.fnOf "_law_rank" "_law_rank" (Au Im) (At Im) (Ag Im) .none Ah6 Al3 Ac7 Ao6 Wf Am1),Aa6⟩)
 (zq3v:PySem.W.codeIn K Wf "_law_rank"=true)
 (zq2z:PySem.W.keepIn K (.ref Tz)=true)
 (zq0o:PySem.W.nsIn K mainGlobals "is_whole_below"=some (some (.ref Ds)))
 (zq0i:K.lookup Ds=some ⟨Lx,Lu,.func (PySem.W.fnOf "is_whole_below" "is_whole_below" (Au Bk) (At Bk) (Ag Bk) .none L3 Mc Li Mm Fl Mf),K9⟩)
 (zq0l:PySem.W.codeIn K Fl "is_whole_below"=true)
 (zq03:PySem.W.keepIn K (.ref Ds)=true)
 (zq4h:PySem.W.nsIn K mainGlobals "plus"=some (some (.ref Aj8)))
 (zq4d:K.lookup Aj8=some ⟨A27,A25,.func (PySem.W.fnOf "plus" "plus" (Au Rk) (At Rk) (Ag Rk) .none A36 A51 A08 A60 An1 A53),Az4⟩)
 (zq4f:PySem.W.codeIn K An1 "plus"=true)
 (zq4b:PySem.W.keepIn K (.ref Aj8)=true)
 (zq2c:PySem.W.nsIn K mainGlobals "add_faces"=some (some (.ref J6)))
 (zq26:K.lookup J6=some ⟨Vg,Vd,.func (PySem.W.fnOf "add_faces" "add_faces" (Au Da) (At Da) (Ag Da) .none Vr V3 U3 Wt Mt V6),Ur⟩)
 (zq29:PySem.W.codeIn K Mt "add_faces"=true)
 (zq1i:PySem.W.keepIn K (.ref J6)=true)
 (zq1p:PySem.W.nsIn K mainGlobals "turned_over"=some (some (.ref F5)))
 (zq1e:K.lookup F5=some ⟨Qt,Qp,.func (PySem.W.fnOf "turned_over" "turned_over" (Au Ch) (At Ch) (Ag Ch) .none Q0 Q4 Qh Rc Jn Q8),P9⟩)
 (zq1l:PySem.W.codeIn K Jn "turned_over"=true)
 (zq0q:PySem.W.keepIn K (.ref F5)=true)
 (zq44:PySem.W.nsIn K mainGlobals "_law_fits"=some (some (.ref T3)))
 (zq3q:K.lookup T3=some ⟨Af8,Af2,.func (PySem.W.fnOf "_law_fits" "_law_fits" (Au Fq) (At Fq) (Ag Fq) .none Ah9 Al6 Ad0 Ao9 Wi Am4),Aa9⟩)
 (zq3y:PySem.W.codeIn K Wi "_law_fits"=true)
 (zq32:PySem.W.keepIn K (.ref T3)=true)
 (zq40:PySem.W.nsIn K mainGlobals "_law_side"=some (some (.ref Ty)))
 (zq3m:K.lookup Ty=some ⟨Af4,Ae8,.func (PySem.W.fnOf "_law_side" "_law_side" (Au Il) (At Il) (Ag Il) .none Ah5 Al2 Ac6 Ao5 We Am0),Aa5⟩)
 (zq3u:PySem.W.codeIn K We "_law_side"=true)
 (zq2y:PySem.W.keepIn K (.ref Ty)=true)
 (zq1c:PySem.W.nsIn K mainGlobals "_law_words_with"=some (some (.ref Ey)))
 (zq15:K.lookup Ey=some ⟨Oo,Om,.func (PySem.W.fnOf "_law_words_with" "_law_words_with" (Au Bp) (At Bp) (Ag Bp) .none Ow Pe Og P0 Ia Pi),N7⟩)
 (zq19:PySem.W.codeIn K Ia "_law_words_with"=true)
 (zq0d:PySem.W.keepIn K (.ref Ey)=true)
 (zq11:PySem.W.nsIn K mainGlobals "_law_border_rows"=some (some (.ref Eh)))
 (zq0v:K.lookup Eh=some ⟨Nd,Nc,.func (PySem.W.fnOf "_law_border_rows" "_law_border_rows" (Au Bv) (At Bv) (Ag Bv) .none Nf Ng M9 Nj Go Nh),M6⟩)
 (zq0z:PySem.W.codeIn K Go "_law_border_rows"=true)
 (zq09:PySem.W.keepIn K (.ref Eh)=true)
 (zq08:PySem.W.nsIn K mainGlobals "is_place_of_level"=some (some (.ref Cv)))
 (zq06:K.lookup Cv=some ⟨Jf,Je,.func (PySem.W.fnOf "is_place_of_level" "is_place_of_level" (Au A8) (At A8) (Ag A8) .none Jg Jh Jc Jj Dx Ji),I0⟩)
 (zq07:PySem.W.codeIn K Dx "is_place_of_level"=true)
 (zq00:PySem.W.keepIn K (.ref Cv)=true)
 (zq1r:PySem.W.nsIn K mainGlobals "check_level"=some (some (.ref F7)))
 (zq1g:K.lookup F7=some ⟨Qv,Qr,.func (PySem.W.fnOf "check_level" "check_level" (Au Cj) (At Cj) (Ag Cj) .none Q2 Q6 Qj Rf Jp Ra),Qb⟩)
 (zq1n:PySem.W.codeIn K Jp "check_level"=true)
 (zq0s:PySem.W.keepIn K (.ref F7)=true)
 (zq2v:PySem.W.nsIn K mainGlobals "is_prime"=some (some (.ref L9)))
 (zq2n:K.lookup L9=some ⟨X2,Xy,.func (PySem.W.fnOf "is_prime" "is_prime" (Au D6) (At D6) (Ag D6) .none Yf Yu Xo Y6 Pr Yy),Xe⟩)
 (zq2r:PySem.W.codeIn K Pr "is_prime"=true)
 (zq24:PySem.W.keepIn K (.ref L9)=true)
 (zq0p:PySem.W.findIn K (.ref Ac) "settled"=some (some (.ref Cs)))
 (zq0c:PySem.W.isFn K (.ref Cs)=true)
 (zq0j:K.lookup Cs=some ⟨Ly,Lv,.func (PySem.W.fnOf "settled" "Growth.settled" (Au Bc) (At Bc) (Ag Bc) .none L4 Md Lj Mn Fm Mg),La⟩)
 (zq0m:PySem.W.codeIn K Fm "Growth.settled"=true)
 (zq04:PySem.W.keepIn K (.ref Cs)=true)
 (zq43:PySem.W.nsIn K mainGlobals "_law_next"=some (some (.ref T2)))
 (zq3p:K.lookup T2=some ⟨Af7,Af1,.func (PySem.W.fnOf "_law_next" "_law_next" (Au Ip) (At Ip) (Ag Ip) .none Ah8 Al5 Ac9 Ao8 Wh Am3),Aa8⟩)
 (zq3x:PySem.W.codeIn K Wh "_law_next"=true)
 (zq31:PySem.W.keepIn K (.ref T2)=true)
 (zq20:PySem.W.nsIn K mainGlobals "_law_shape_by"=some (some (.ref Hv)))
 (zq1u:K.lookup Hv=some ⟨Ti,Tf,.func (PySem.W.fnOf "_law_shape_by" "_law_shape_by" (Au Cd) (At Cd) (Ag Cd) .none Tr Ua S4 Uh Ky Ud),Sv⟩)
 (zq1x:PySem.W.codeIn K Ky "_law_shape_by"=true)
 (zq13:PySem.W.keepIn K (.ref Hv)=true)
 (zq4a:PySem.W.nsIn K mainGlobals "_law_due"=some (some (.ref Yn)))
 (zq46:K.lookup Yn=some ⟨At2,At0,.func (PySem.W.fnOf "_law_due" "_law_due" (Au Lg) (At Lg) (Ag Lg) .none Au3 Au9 Ar1 Aw1 Zt Av4),Aq1⟩)
 (zq48:PySem.W.codeIn K Zt "_law_due"=true)
 (zq3s:PySem.W.keepIn K (.ref Yn)=true)
 (zq4i:PySem.W.nsIn K mainGlobals "fits"=some (some (.ref Aj9)))
 (zq4e:K.lookup Aj9=some ⟨A28,A26,.func (PySem.W.fnOf "fits" "fits" (Au Oc) (At Oc) (Ag Oc) .none A37 A52 A09 A61 An3 A54),Az6⟩)
 (zq4g:PySem.W.codeIn K An3 "fits"=true)
 (zq4c:PySem.W.keepIn K (.ref Aj9)=true)
 (zq0b:PySem.W.findIn K (.ref Ac) "__init__"=some (some (.ref Cf)))
 (zq05:PySem.W.isFn K (.ref Cf)=true)
 (zq0w:K.lookup Cf=some ⟨Gi,Gh,.func (PySem.W.fnOf "__init__" "Growth.__init__" (Au Bw) (At Bw) (Ag Bw) (.ref Dt) Gk Gm Ge Gp Du Gn),Gd⟩)
 (zq0g:K.lookup Dt=some ⟨.type "tuple",E2,.seq #[.int 2 tk_Growth__init__0] Gb,E1⟩)
 (zq10:PySem.W.codeIn K Du "Growth.__init__"=true)
 (zq0x:PySem.W.keepIn K (.ref Cf)=true)
 (zq0f:PySem.W.findIn K (.ref Ac) "alive"=some (some (.ref Cr)))
 (zq0a:PySem.W.isFn K (.ref Cr)=true)
 (zq17:K.lookup Cr=some ⟨Hl,Hj,.func (PySem.W.fnOf "alive" "Growth.alive" (Au B7) (At B7) (Ag B7) (.ref Ei) Ho Hx Hg Ig Ej Hy),G9⟩)
 (zq0u:K.lookup Ei=some ⟨.type "tuple",Gc,.seq #[.none] Gv,Ga⟩)
 (zq1b:PySem.W.codeIn K Ej "Growth.alive"=true)
 (zq01:PySem.W.keepIn K (.ref Cr)=true)
 (zq3k:PySem.W.nsIn K mainGlobals "_law_built"=some (some (.ref O7)))
 (zq38:K.lookup O7=some ⟨j5,i6,.func (PySem.W.fnOf "_law_built" "_law_built" (Au Fa) (At Fa) (Ag Fa) .none m8 u4 d9 y8 Rx v4),b5⟩)
 (zq3e:PySem.W.codeIn K Rx "_law_built"=true)
 (zq2k:PySem.W.keepIn K (.ref O7)=true)
 (zq1s:PySem.W.findIn K (.ref Ac) "grow"=some (some (.ref D1)))
 (zq18:PySem.W.isFn K (.ref D1)=true)
 (zq1h:K.lookup D1=some ⟨Qw,Qs,.func (PySem.W.fnOf "grow" "Growth.grow" (Au B1) (At B1) (Ag B1) .none Q3 Q7 Qk Rg Jq Rb),Qc⟩)
 (zq1o:PySem.W.codeIn K Jq "Growth.grow"=true)
 (zq0t:PySem.W.keepIn K (.ref D1)=true)
 (zq4m:PySem.W.nsIn K mainGlobals "law"=some (some (.ref A48)))
 (zq4j:K.lookup A48=some ⟨A96,A95,.func (PySem.W.fnOf "law" "law" (Au S1) (At S1) (Ag S1) .none Ay0 Ay5 Aw6 Ay7 An2 Ay6),A74⟩)
 (zq4l:PySem.W.codeIn K An2 "law"=true)
 (zq4k:PySem.W.keepIn K (.ref A48)=true)
 (mk_Growth:PySem.W.makesIn K Ac=true)
 (kc_Growth:PySem.W.keepIn K (.ref Ac)=true)
 (pg_Growth:PySem.W.plainGet K Ac Str.empty=true)
 (hd_Growth:PySem.W.hasDictIn K Ac=true)
 (po_Growth:PySem.W.plainOver K Ac=true)
 (sa_Growth:PySem.W.findIn K (.ref Ac) "__setattr__"=some (some (.builtin "object.__setattr__")))
 (na_Growth_prime:PySem.W.findIn K (.ref Ac) "prime"=some none)
 (na_Growth_pieces:PySem.W.findIn K (.ref Ac) "pieces"=some none)
 (na_Growth_sheets:PySem.W.findIn K (.ref Ac) "sheets"=some none)
 (na_Growth_edges:PySem.W.findIn K (.ref Ac) "edges"=some none)
 (na_Growth_enders:PySem.W.findIn K (.ref Ac) "enders"=some none)
 (ac_FACE_COUNTS:PySem.W.nsIn K mainGlobals "FACE_COUNTS"=some (some (.ref fc_FACE_COUNTS)))
 (lc_FACE_COUNTS:K.lookup fc_FACE_COUNTS=some ⟨.type "tuple",none,.seq #[.int 0 tc_FACE_COUNTS_0,.int 2 tc_FACE_COUNTS_1,.int 3 tc_FACE_COUNTS_2,.int 4 tc_FACE_COUNTS_3] nc_FACE_COUNTS,slc_FACE_COUNTS⟩)
 (aq_MOST_PIECES:PySem.W.nsIn K mainGlobals "MOST_PIECES"=some (some (.int 40 t_MOST_PIECES)))
 (aq_PRIME_BOUND:PySem.W.nsIn K mainGlobals "PRIME_BOUND"=some (some (.int 98 t_PRIME_BOUND)))
 (aq_LEVELS:PySem.W.nsIn K mainGlobals "LEVELS"=some (some (.int 4 t_LEVELS)))
 (z_isinstance:PySem.W.nsIn K mainGlobals "isinstance"=some none)
 (z_int:PySem.W.nsIn K mainGlobals "int"=some none)
 (z_bool:PySem.W.nsIn K mainGlobals "bool"=some none)
 (z_tuple:PySem.W.nsIn K mainGlobals "tuple"=some none)
 (z_zip:PySem.W.nsIn K mainGlobals "zip"=some none)
 (z_max:PySem.W.nsIn K mainGlobals "max"=some none)
 (z_len:PySem.W.nsIn K mainGlobals "len"=some none)
 (z_all:PySem.W.nsIn K mainGlobals "all"=some none)
 (z_range:PySem.W.nsIn K mainGlobals "range"=some none)
 (z_dict:PySem.W.nsIn K mainGlobals "dict"=some none)
 (z_enumerate:PySem.W.nsIn K mainGlobals "enumerate"=some none)
 (z_list:PySem.W.nsIn K mainGlobals "list"=some none) :
 ∃ fd:FuncData,(∀ (s:Shared) (v:Value),BindsTo s fd ⟨[v],[]⟩ [("_law_script",v)])/\∀ base:Heap,K.In base->base.Ns mainGlobals mg->FnOk l.prog w K mg base CX0 6 fa fd ["_law_script"] (Zc K):=by
 have e:=hfa.symm.trans (PySem.W.mg_of X G zq4m)
 cases e
 have T:Txt K mg Ac:=⟨PySem.W.mg_of X G ac_Growth,⟨pg_Growth,hd_Growth,po_Growth,sa_Growth⟩,na_Growth_prime,na_Growth_pieces,na_Growth_sheets,na_Growth_edges,na_Growth_enders,⟨fc_FACE_COUNTS,PySem.W.mg_of X G ac_FACE_COUNTS,fun H=>.inr ⟨_,_,_,lc_FACE_COUNTS,rfl,rfl,rfl,(by show (4:Nat)<=sizeLine;decide),.cons ⟨_,rfl⟩ (.cons ⟨_,rfl⟩ (.cons ⟨_,rfl⟩ (.cons ⟨_,rfl⟩ (.nil))))⟩⟩,⟨_,PySem.W.mg_of X G aq_MOST_PIECES⟩,⟨_,PySem.W.mg_of X G aq_PRIME_BOUND⟩,⟨_,PySem.W.mg_of X G aq_LEVELS⟩,PySem.W.mg_none_of X G z_isinstance,PySem.W.mg_none_of X G z_int,PySem.W.mg_none_of X G z_bool,PySem.W.mg_none_of X G z_tuple,PySem.W.mg_none_of X G z_zip,PySem.W.mg_none_of X G z_max,PySem.W.mg_none_of X G z_len,PySem.W.mg_none_of X G z_all,PySem.W.mg_none_of X G z_range,PySem.W.mg_none_of X G z_dict,PySem.W.mg_none_of X G z_enumerate,PySem.W.mg_none_of X G z_list⟩
 have Sc:=A6 (st:=D5) zq2m zq2q zq23
 have Gq:=A6 (st:=Bj) zq0h zq0k zq02
 have Sb:=A6 (st:=D4) zq2l zq2p zq22
 have K4:=A6 (st:=Ci) zq1f zq1m zq0r
 have Zu:=A6 (st:=Fp) zq3l zq3t zq2x
 have Ap2:=A6 (st:=Lf) zq45 zq47 zq3r
 have Mz:=A6 (st:=Cy) zq1t zq1w zq12
 have Wx:=A6 (st:=E5) zq33 zq39 zq2f
 have Jt:=A6 (st:=Bq) zq16 zq1a zq0e
 have Se:=A6 (st:=D7) zq2o zq2s zq25
 have Wy:=A6 (st:=E6) zq34 zq3a zq2g
 have P7:=A6 (st:=Dc) zq28 zq2b zq1k
 have W2:=A6 (st:=E9) zq37 zq3d zq2j
 have W1:=A6 (st:=E8) zq36 zq3c zq2i
 have Zx:=A6 (st:=Io) zq3o zq3w zq30
 have M3:=A6 (st:=Cz) zq1v zq1y zq14
 have P6:=A6 (st:=Db) zq27 zq2a zq1j
 have Wz:=A6 (st:=E7) zq35 zq3b zq2h
 have Zw:=A6 (st:=Im) zq3n zq3v zq2z
 have Gr:=A6 (st:=Bk) zq0i zq0l zq03
 have Ay8:=A6 (st:=Rk) zq4d zq4f zq4b
 have P5:=A6 (st:=Da) zq26 zq29 zq1i
 have K3:=A6 (st:=Ch) zq1e zq1l zq0q
 have Zz:=A6 (st:=Fq) zq3q zq3y zq32
 have Zv:=A6 (st:=Il) zq3m zq3u zq2y
 have Js:=A6 (st:=Bp) zq15 zq19 zq0d
 have Ih:=A6 (st:=Bv) zq0v zq0z zq09
 have El:=A6 (st:=A8) zq06 zq07 zq00
 have K5:=A6 (st:=Cj) zq1g zq1n zq0s
 have Sd:=A6 (st:=D6) zq2n zq2r zq24
 have Gs:=A6 (st:=Bc) zq0j zq0m zq04
 have Zy:=A6 (st:=Ip) zq3p zq3x zq31
 have M0:=A6 (st:=Cd) zq1u zq1x zq13
 have Ap3:=A6 (st:=Lg) zq46 zq48 zq3s
 have Ay9:=A6 (st:=Oc) zq4e zq4g zq4c
 have C8:FunD K "__init__" "Growth.__init__" Bw Cf _ [.int 2 tk_Growth__init__0]:=⟨⟨Gi,Gh,Gk,Gm,Ge,Gp,Du,Gn,Gd,Dt,Gb,E1,E2,rfl,zq0w,zq10,zq0g⟩,zq0x⟩
 have Dm:FunD K "alive" "Growth.alive" B7 Cr _ [.none]:=⟨⟨Hl,Hj,Ho,Hx,Hg,Ig,Ej,Hy,G9,Ei,Gv,Ga,Gc,rfl,zq17,zq1b,zq0u⟩,zq01⟩
 have W3:=A6 (st:=Fa) zq38 zq3e zq2k
 have K6:=A6 (st:=B1) zq1h zq1o zq0t
 have Bg5:=A6 (st:=S1) zq4j zq4l zq4k
 refine⟨PySem.W.fnOf "law" "law" (Au S1) (At S1) (Ag S1) .none Ay0 Ay5 Aw6 Ay7 An2 Ay6,fun s v=>.of_eq rfl,fun base _ _=>?_⟩
 have L5:Has l.prog w K mg base "is_whole" ["thing"] 1 (Fo K):=⟨_,_,PySem.W.mg_of X G zq2u,zq23,Sc.binds (ps:=["thing"]) (fun _ _ _ _ _ _=>V1 (fun _=>rfl)),Xt Sc T ⟩
 have Dq:Has l.prog w K mg base "shared_divisor" ["one","other"] 1 (Xa K):=⟨_,_,PySem.W.mg_of X G zq0n,zq02,Gq.binds (ps:=["one","other"]) (fun _ _ _ _ _ _=>Gu (fun _ _=>rfl)),Lp Gq T ⟩
 have B8:Has l.prog w K mg base "level_of" ["piece"] 1 (Bg K):=⟨_,_,PySem.W.mg_of X G zq2t,zq22,Sb.binds (ps:=["piece"]) (fun _ _ _ _ _ _=>V1 (fun _=>rfl)),Xs Sb T ⟩
 have F3:Has l.prog w K mg base "faces_agree" ["shape","faces"] 1 (Et K):=⟨_,_,PySem.W.mg_of X G zq1q,zq0r,K4.binds (ps:=["shape","faces"]) (fun _ _ _ _ _ _=>Gu (fun _ _=>rfl)),Qm K4 T ⟩
 have Ix:Has l.prog w K mg base "add_at" ["chain","place","number"] 1 (Gx K):=⟨_,_,PySem.W.mg_of X G zq3z,zq2x,Zu.binds (ps:=["chain","place","number"]) (fun _ _ _ _ _ _=>Pa (fun _ _ _=>rfl)),Ad8 Zu T ⟩
 have Tt:Has l.prog w K mg base "times" ["number","chain"] 1 (Sl K):=⟨_,_,PySem.W.mg_of X G zq49,zq3r,Ap2.binds (ps:=["number","chain"]) (fun _ _ _ _ _ _=>Gu (fun _ _=>rfl)),As5 Ap2 T ⟩
 have Hq:Has l.prog w K mg base "check_size" ["pieces"] 1 (So K):=⟨_,_,PySem.W.mg_of X G zq1z,zq12,Mz.binds (ps:=["pieces"]) (fun _ _ _ _ _ _=>V1 (fun _=>rfl)),Tb Mz T ⟩
 have Ef:Has l.prog w K mg base "counted" ["chain","prime"] 1 (Ij K):=⟨_,_,PySem.W.mg_of X G zq3f,zq2f,Wx.binds (ps:=["chain","prime"]) (fun _ _ _ _ _ _=>Gu (fun _ _=>rfl)),f7 Wx T ⟩
 have C3:HasM l.prog w K mg base Ac "pairs" ["self"] 1 (N5 K Ac):=⟨_,_,⟨zq1d,zq0y,zq0e⟩,Jt.binds (ps:=["self"]) (fun _ _ _ _ _ _=>V1 (fun _=>rfl)),Ol Jt T ⟩
 have Iw:Has l.prog w K mg base "is_alive" ["pair","stage"] 1 (N2 K):=⟨_,_,PySem.W.mg_of X G zq2w,zq25,Se.binds (ps:=["pair","stage"]) (fun _ _ _ _ _ _=>Gu (fun _ _=>rfl)),Xv Se T ⟩
 have Ff:Has l.prog w K mg base "_law_whole" ["_law_found"] 1 (Ik K):=⟨_,_,PySem.W.mg_of X G zq3g,zq2g,Wy.binds (ps:=["_law_found"]) (fun _ _ _ _ _ _=>V1 (fun _=>rfl)),f8 Wy T ⟩
 have Eg:Has l.prog w K mg base "_law_cell_at" ["_law_script","_law_k"] 1 (Gz K):=⟨_,_,PySem.W.mg_of X G zq2e,zq1k,P7.binds (ps:=["_law_script","_law_k"]) (fun _ _ _ _ _ _=>Gu (fun _ _=>rfl)),Vb P7 T ⟩
 have Bz:Has l.prog w K mg base "_law_level" ["_law_piece"] 1 (Bg K):=⟨_,_,PySem.W.mg_of X G zq3j,zq2j,W2.binds (ps:=["_law_piece"]) (fun _ _ _ _ _ _=>V1 (fun _=>rfl)),g6 W2 T ⟩
 have Fg:Has l.prog w K mg base "_law_meets" ["_law_pieces","_law_faces","_law_face"] 1 (Kh K):=⟨_,_,PySem.W.mg_of X G zq3i,zq2i,W1.binds (ps:=["_law_pieces","_law_faces","_law_face"]) (fun _ _ _ _ _ _=>Pa (fun _ _ _=>rfl)),g5 W1 T ⟩
 have F4:Has l.prog w K mg base "_law_pick" ["_law_cell","_law_j","_law_many"] 1 (Ki K):=⟨_,_,PySem.W.mg_of X G zq42,zq30,Zx.binds (ps:=["_law_cell","_law_j","_law_many"]) (fun _ _ _ _ _ _=>Pa (fun _ _ _=>rfl)),Ae1 Zx T ⟩
 have C0:Has l.prog w K mg base "_law_faces_by" ["_law_word","_law_family"] 1 (Dz K):=⟨_,_,PySem.W.mg_of X G zq21,zq14,M3.binds (ps:=["_law_word","_law_family"]) (fun _ _ _ _ _ _=>Gu (fun _ _=>rfl)),Td M3 T ⟩
 have J5:Has l.prog w K mg base "_law_word_by" ["_law_cell","_law_family","_law_letters"] 1 (Gy K):=⟨_,_,PySem.W.mg_of X G zq2d,zq1j,P6.binds (ps:=["_law_cell","_law_family","_law_letters"]) (fun _ _ _ _ _ _=>Pa (fun _ _ _=>rfl)),Va P6 T ⟩
 have O0:Has l.prog w K mg base "_law_prime" ["_law_cell"] 1 (Jv K):=⟨_,_,PySem.W.mg_of X G zq3h,zq2h,Wz.binds (ps:=["_law_cell"]) (fun _ _ _ _ _ _=>V1 (fun _=>rfl)),f9 Wz T ⟩
 have No:Has l.prog w K mg base "_law_rank" ["_law_rows","_law_prime_here"] 1 (Sn K):=⟨_,_,PySem.W.mg_of X G zq41,zq2z,Zw.binds (ps:=["_law_rows","_law_prime_here"]) (fun _ _ _ _ _ _=>Gu (fun _ _=>rfl)),Ae0 Zw T ⟩
 have Aw:Has l.prog w K mg base "is_whole_below" ["thing","bound"] 2 (Be K):=⟨_,_,PySem.W.mg_of X G zq0o,zq03,Gr.binds (ps:=["thing","bound"]) (fun _ _ _ _ _ _=>Gu (fun _ _=>rfl)),Lq Gr T L5⟩
 have Zm:Has l.prog w K mg base "plus" ["one","other"] 2 (W8 K):=⟨_,_,PySem.W.mg_of X G zq4h,zq4b,Ay8.binds (ps:=["one","other"]) (fun _ _ _ _ _ _=>Gu (fun _ _=>rfl)),A20 Ay8 T Ix⟩
 have J4:Has l.prog w K mg base "add_faces" ["chain","faces","number"] 2 (Gw K):=⟨_,_,PySem.W.mg_of X G zq2c,zq1i,P5.binds (ps:=["chain","faces","number"]) (fun _ _ _ _ _ _=>Pa (fun _ _ _=>rfl)),U9 P5 T Ix⟩
 have F2:Has l.prog w K mg base "turned_over" ["number","prime"] 2 (Sq K):=⟨_,_,PySem.W.mg_of X G zq1p,zq0q,K3.binds (ps:=["number","prime"]) (fun _ _ _ _ _ _=>Gu (fun _ _=>rfl)),Ql K3 T Dq⟩
 have Np:Has l.prog w K mg base "_law_fits" ["_law_pieces","_law_thing"] 2 (Nz K):=⟨_,_,PySem.W.mg_of X G zq44,zq32,Zz.binds (ps:=["_law_pieces","_law_thing"]) (fun _ _ _ _ _ _=>Gu (fun _ _=>rfl)),Ae3 Zz T Bz Fg Ff⟩
 have Tu:Has l.prog w K mg base "_law_side" ["_law_pieces","_law_cell"] 2 (N3 K):=⟨_,_,PySem.W.mg_of X G zq40,zq2y,Zv.binds (ps:=["_law_pieces","_law_cell"]) (fun _ _ _ _ _ _=>Gu (fun _ _=>rfl)),Ad9 Zv T F4⟩
 have Ex:Has l.prog w K mg base "_law_words_with" ["_law_words","_law_word","_law_family"] 2 (D8 K):=⟨_,_,PySem.W.mg_of X G zq1c,zq0d,Js.binds (ps:=["_law_words","_law_word","_law_family"]) (fun _ _ _ _ _ _=>Pa (fun _ _ _=>rfl)),Oj Js T C0⟩
 have C4:Has l.prog w K mg base "_law_border_rows" ["_law_pieces","_law_k"] 2 (Sm K):=⟨_,_,PySem.W.mg_of X G zq11,zq09,Ih.binds (ps:=["_law_pieces","_law_k"]) (fun _ _ _ _ _ _=>Gu (fun _ _=>rfl)),Nb Ih T Bz⟩
 have Ct:Has l.prog w K mg base "is_place_of_level" ["shape","thing","level"] 3 (Cm K):=⟨_,_,PySem.W.mg_of X G zq08,zq00,El.binds (ps:=["shape","thing","level"]) (fun _ _ _ _ _ _=>Pa (fun _ _ _=>rfl)),Jd El T Aw B8⟩
 have D0:Has l.prog w K mg base "check_level" ["k","bound"] 3 (Nx K):=⟨_,_,PySem.W.mg_of X G zq1r,zq0s,K5.binds (ps:=["k","bound"]) (fun _ _ _ _ _ _=>Gu (fun _ _=>rfl)),Qn K5 T Aw⟩
 have Iv:Has l.prog w K mg base "is_prime" ["thing"] 3 (Ny K):=⟨_,_,PySem.W.mg_of X G zq2v,zq24,Sd.binds (ps:=["thing"]) (fun _ _ _ _ _ _=>V1 (fun _=>rfl)),Xu Sd T Aw⟩
 have Df:HasM l.prog w K mg base Ac "settled" ["self","sheet","edge"] 3 (G8 K Ac):=⟨_,_,⟨zq0p,zq0c,zq04⟩,Gs.binds (ps:=["self","sheet","edge"]) (fun _ _ _ _ _ _=>Pa (fun _ _ _=>rfl)),Lr Gs T Ef F2 Zm Tt⟩
 have Tv:Has l.prog w K mg base "_law_next" ["_law_pieces","_law_cell"] 3 (N4 K):=⟨_,_,PySem.W.mg_of X G zq43,zq31,Zy.binds (ps:=["_law_pieces","_law_cell"]) (fun _ _ _ _ _ _=>Gu (fun _ _=>rfl)),Ae2 Zy T Tu Fg F4 Bz⟩
 have Hr:Has l.prog w K mg base "_law_shape_by" ["_law_kind","_law_cells","_law_most"] 3 (Ju K):=⟨_,_,PySem.W.mg_of X G zq20,zq13,M0.binds (ps:=["_law_kind","_law_cells","_law_most"]) (fun _ _ _ _ _ _=>Pa (fun _ _ _=>rfl)),Tc M0 T Ex J5 C0⟩
 have Yi:Has l.prog w K mg base "_law_due" ["_law_pieces","_law_k","_law_prime_here"] 3 (W9 K):=⟨_,_,PySem.W.mg_of X G zq4a,zq3s,Ap3.binds (ps:=["_law_pieces","_law_k","_law_prime_here"]) (fun _ _ _ _ _ _=>Pa (fun _ _ _=>rfl)),As6 Ap3 T No C4 Bz⟩
 have Ai8:Has l.prog w K mg base "fits" ["shape","thing"] 4 (Sr K):=⟨_,_,PySem.W.mg_of X G zq4i,zq4c,Ay9.binds (ps:=["shape","thing"]) (fun _ _ _ _ _ _=>Gu (fun _ _=>rfl)),A21 Ay9 T B8 F3 Ct⟩
 have hcd_Growth:Bd4 l.prog w K mg base Ac ["self","prime"] [.int 2] 4 (Kj K Ac):=⟨_,_,[.int 2 tk_Growth__init__0],⟨mk_Growth,zq0b,zq05,kc_Growth⟩,C8.binds (ps:=["self","prime"]) (dd:=[.int 2 tk_Growth__init__0]) (fun _ _ _ _ _ _ _ us hl=>by obtain⟨x,rfl⟩:∃ x,us=[x]:=List.length_eq_one_iff.mp (by simpa using hl);exact ⟨_,rfl,rfl⟩),.cons ⟨_,rfl⟩ (.nil),Gg C8 T Iv⟩
 have hc_Growth:HasC l.prog w K mg base Ac ["self","prime"] 4 (Kj K Ac):=⟨_,_,⟨mk_Growth,zq0b,zq05,kc_Growth⟩,C8.binds (ps:=["self","prime"]) (dd:=[]) (fun _ _ _ _ _ _ _ us hl=>by obtain⟨x,y,rfl⟩:∃ x y,us=[x,y]:=Ax8 (by simpa using hl);exact ⟨_,rfl,rfl⟩),Gg C8 T Iv⟩
 have hmd_Growth_alive:Bd3 l.prog w K mg base Ac "alive" ["self","k","stage"] [.non] 4 (G7 K Ac):=⟨_,_,[.none],⟨zq0f,zq0a,zq01⟩,Dm.binds (ps:=["self","k","stage"]) (dd:=[.none]) (fun _ _ _ _ _ _ _ us hl=>by obtain⟨x,y,rfl⟩:∃ x y,us=[x,y]:=Ax8 (by simpa using hl);exact ⟨_,rfl,rfl⟩),.cons rfl (.nil),Hi Dm T D0 Aw C3 B8 Iw⟩
 have Ee:HasM l.prog w K mg base Ac "alive" ["self","k","stage"] 4 (G7 K Ac):=⟨_,_,⟨zq0f,zq0a,zq01⟩,Dm.binds (ps:=["self","k","stage"]) (dd:=[]) (fun _ _ _ _ _ _ _ us hl=>by obtain⟨x,y,z,rfl⟩:∃ x y z,us=[x,y,z]:=Au0 (by simpa using hl);exact ⟨_,rfl,rfl⟩),Hi Dm T D0 Aw C3 B8 Iw⟩
 have O1:Has l.prog w K mg base "_law_built" ["_law_kind","_law_cells","_law_most"] 4 (N1 K):=⟨_,_,PySem.W.mg_of X G zq3k,zq2k,W3.binds (ps:=["_law_kind","_law_cells","_law_most"]) (fun _ _ _ _ _ _=>Pa (fun _ _ _=>rfl)),g7 W3 T Hr Np Tv⟩
 have Ew:HasM l.prog w K mg base Ac "grow" ["self","thing"] 5 (N6 K Ac):=⟨_,_,⟨zq1s,zq18,zq0t⟩,K6.binds (ps:=["self","thing"]) (fun _ _ _ _ _ _=>Gu (fun _ _=>rfl)),Qo K6 T Hq J4 Df Ai8 Ef⟩
 exact A94 Bg5 T O0 O1 hcd_Growth hc_Growth Eg Ew hmd_Growth_alive Ee Ff Yi
theorem walk {l:PySem.W.OpenLaw}{q:Program}{loose:List Str}{XP:(Str->Option Value)->Heap->Prop}{YP:World->Heap->Prop}{d:DefRec}{K:Params->PySem.W.Frag} (hn:l.most=some 63) (hdf:d.params.defaults=[])
 (hY:∀ (w:World) (h:Heap),YP w h->(K w.params).In h)
 (F:∀ (w:World) (mg:Str->Option Value) (fa:Addr) (h:Heap),(K w.params).In h->h.Ns mainGlobals mg->mg d.name=some (.ref fa) →
   ∃ fd:FuncData,(∀ (s:Shared) (u:Value),BindsTo s fd ⟨[u],[]⟩ [("_law_script",u)])/\∀ base:Heap,(K w.params).In base->base.Ns mainGlobals mg->FnOk l.prog w (K w.params) mg base CX0 6 fa fd ["_law_script"] (Zc (K w.params))) :
 PySem.W.WalkO q loose XP YP l.row.toRowW d [] (fun f vs=>PySem.call f vs) :=
 L2.walk_of (n:=63) (k:=6) (x:="_law_script") (CX:=fun _=>CX0) (sp:=fun w=>Zc (K w.params)) hn (by decide) hdf ⟨rfl,by decide,by decide,rfl⟩ hY F (fun _ _ a ns hl _ hS=>⟨a,ns,rfl,hS,hl,fun _=>rfl⟩) fun _ _ _ _ _ z=>z
end Hb
namespace PySem.W.Fast
def tw5869670383416271425:=0
def tw6164274732409434780:=0
def tw13547979804686334476:=0
def tw1905231995968386264:=0
def tw4253696512968182026:=0
def tw10553717198259916970:=0
def tw9332507942792228754:=0
def tw18420189586050559546:=0
def tw1145722290848959079:=0
def tw8626062081009357081:=0
def tw15231786212813013897:=0
def tw4438333108750316227:=0
def tw15792018254095339327:=0
def tw12219712874235885824:=0
def tw15902861789157160251:=0
def tw1924800685876971247:=0
def tw6762763405380448:=0
def tw17724811574060546746:=0
def tw11328266323338058624:=0
def tw7309384329888701665:=0
def tw16428374353584043031:=0
def tw10443646039588232854:=0
def tw6927129065116507263:=0
def tw4580942246188172216:=0
def tw6859435582768094204:=0
def tw17044375901663129226:=0
def tw12674386872547456738:=0
def tw16456002514068168558:=0
def tw2606705605649505399:=0
def tw9474522612481902321:=0
def tw14868454247506782612:=0
def tw363972057301808941:=0
def tw1137917753104078126:=0
def tw8297140070523822091:=0
def tw51982810984913680:=0
def tw14103812496987439241:=0
def tw8428742337757595242:=0
def tw5730759613827450230:=0
def tw5197045368831088020:=0
def tw13646724069578440721:=0
def tw11734487402651503677:=0
def tw12957551892025064641:=0
def tw8378452515369023052:=0
def tw13423231342030669879:=0
def tw5233105265091335004:=0
def tw6346836203275314541:=0
def tw5763803917908398633:=0
def tw14655894686207033524:=0
def tw9209490617187494731:=0
def tw6144729319346701711:=0
def tw595599535810450777:=0
def tw1562343144939103659:=0
def tw14137295713926621320:=0
def tw16581727279827645246:=0
def tw11866091116622145851:=0
def tw13814448517065724725:=0
def tw13767360083899982945:=0
def tw16721283104493048718:=0
def tw14655956124335282374:=0
def tw2053138573837466589:=0
def tw8625515940292670397:=0
def tw67400848549546765:=0
def tw5996082913128518196:=0
def tw12253904672342705131:=0
def tw505471846149661461:=0
def tw17371041483190267389:=0
def tw13566290188691017435:=0
def tw4485077801384535312:=0
def tw17223690138426146238:=0
def tw12449680184621065115:=0
def tw7895705713786420069:=0
def tw11547300442945925742:=0
def tw3907537168043690897:=0
def tw11147748928909271443:=0
def tw11777270898318935429:=0
def tw15320993190525063810:=0
def tw9658207484810332507:=0
def tw10345413830245429737:=0
def tw2282689452903510508:=0
def tw2730847082090138345:=0
def tw8579797246920463851:=0
def tw1770783459862417818:=0
def tw3885399129453790245:=0
def tw8967132212836053105:=0
def tw17404505319525773804:=0
def tw2741166358795273986:=0
def tw15669297536774973949:=0
def tw16812653723522890877:=0
def tw1002465522492559638:=0
def tw1523815496413617978:=0
def tw18196328766566761892:=0
def tw17264928699094374737:=0
def tw5353224559253684028:=0
def tw15467803353591402311:=0
def tw17280072255433722383:=0
def tw2662907133144256365:=0
def tw12047101003544406563:=0
def tw6296187851812704479:=0
def tw1460814685308806487:=0
def tw8509089486125663885:=0
def tw5835668903937494688:=0
def tw10093857704735779467:=0
def tw12239443717839038466:=0
def tw17325049137186469557:=0
def tw13946761955013479621:=0
def tw9063223881841148011:=0
def tw6354684798216437112:=0
def tw3619476767420430666:=0
def tw1139547841058648700:=0
def tw3814581231226415930:=0
def tw15707272810797274628:=0
def tw2252354731823605056:=0
def tw11530436787700377279:=0
def tw9962643513757342400:=0
def tw18083356215469626610:=0
def tw12433193708222069519:=0
def tw10519294874942723285:=0
def tw7104395855037225033:=0
def tw13852623785614280022:=0
def tw12422729842721260975:=0
def tw14737730946124245727:=0
def tw14456324029057275058:=0
def tw14642661536000597045:=0
def tw776806513536388474:=0
def tw17206386819091599401:=0
def tw8720104060755243960:=0
def tw10490887344127206173:=0
def tw17483522520241699344:=0
def tw1935337798526970665:=0
def tw9513863992202274532:=0
def tw17882485536167740646:=0
def tw2509622305455833702:=0
def tw2832412107704911641:=0
def tw11878120913090885367:=0
def tw3749589177338005373:=0
def tw11438230584467685296:=0
def tw5970034943112958656:=0
def tw8266122165976436993:=0
def tw10019049747429851302:=0
def tw4474977903986014525:=0
def tw17846865964728110494:=0
def tw16370644543877401549:=0
def tw6688694708502282574:=0
def tw17841362739984774289:=0
def tw11518215680780381099:=0
def tw3867771099189791513:=0
def tw10777308259507741311:=0
def tw17986604801132871003:=0
def tw13942122478668055357:=0
def tw17894397364562094870:=0
def tw8197389443816186764:=0
def tw2292472191563470022:=0
def tw102959343088069227:=0
def tw7916333226362773684:=0
def tw4072505859739031515:=0
def tw371291698933262065:=0
def tw244312135606329769:=0
def tw3689075433023233174:=0
def tw1608729149742380985:=0
def tw13238509415541360529:=0
def tw4729764144491319350:=0
def tw13434480999853442426:=0
def tw4232361052714459957:=0
def tw392697227245071120:=0
def tw5700875065094125781:=0
def tw9365888609093017292:=0
def tw6285653942305582861:=0
def tw14764971396898525221:=0
def tw13590953326369872757:=0
def tw8255505474009042209:=0
def tw11964777565771553187:=0
def tw7311766569167238994:=0
def tw10442721271456602164:=0
def tw15170270058557419695:=0
def tw14058907649920516196:=0
def tw3940552726842879217:=0
def tw5600740439864808897:=0
def tw700751358624189343:=0
def tw18173687254542094434:=0
def tw7326696983708434090:=0
def tw7747794747834859349:=0
def tw6583970601092301156:=0
def tw14603322965604102650:=0
def tw6939155049254415828:=0
def tw8789027429641342059:=0
def tw13188522146334603976:=0
def tw11968126826143893783:=0
def tw5162741774027374432:=0
def tw17085501408836200566:=0
def tw17325968890437399237:=0
def tw1283303791311423367:=0
def tw6806736027961231220:=0
def tw6998622322499999836:=0
def tw1361078361383392419:=0
def tw2299897263740023561:=0
def tw4354783700303203324:=0
def tw17460432039195333357:=0
def tw16267154853380296262:=0
def tw8972557241037532500:=0
def tw14478757948462855028:=0
def tw7355341163631857855:=0
def tw17047665879874648892:=0
def tw18083178000930985689:=0
def tw4189384379640941715:=0
def tw15368204674313988076:=0
def tw3683466756067062449:=0
def tw3633463037981787153:=0
def tw6970807025236481761:=0
def tw16452850792655521827:=0
def tw9926157360427998505:=0
def tw15741916242284034278:=0
def tw15259730474398253421:=0
def tw13458407712631085255:=0
def tw890097123029394304:=0
def tw13769647727771616579:=0
def tw16260698478237026882:=0
def tw17315135725104041088:=0
def tw17362986286305350297:=0
def tw17988214474033085415:=0
def tw6817508177077344788:=0
def tw17785312582038124962:=0
def tw13791224904405194292:=0
def tw17652939669329576553:=0
def tw6136824664749942099:=0
def tw2033921353573228502:=0
def tw15806042358294055928:=0
def tw9230392408102770645:=0
def tw6741229116640442467:=0
def tw437287812083726028:=0
def tw2197638612111822164:=0
def tw8894602424840390932:=0
def tw12306230550427639324:=0
def tw10896039482261458149:=0
def tw6663784103770615680:=0
def tw1109876643609088168:=0
def tw14789196852869440260:=0
def tw13047195073351139587:=0
def tw12537246859787071670:=0
def tw17101316449827839976:=0
def tw17557470437744990025:=0
def tw4542433913357926830:=0
def tw14981498056344232487:=0
def tw9281409535877833249:=0
def tw18417212543841082624:=0
def tw9516819098571855610:=0
def tw9055761164723098044:=0
def tw6069716072797213088:=0
def tw17021465346545898268:=0
def tw8109451799317021605:=0
def tw16832211421112222237:=0
def tw11923214483731298835:=0
def tw13204429109794897894:=0
def tw17373996019351639447:=0
def tw3914476162690986013:=0
def tw3218862653163521217:=0
def tw15624521097148102726:=0
def tw1961104206827623143:=0
def tw12405819748580227002:=0
def tw16465714946821972984:=0
def tw4260662336211856353:=0
def tw16571610692493043220:=0
def tw6881573689277983404:=0
def tw15701750641284783027:=0
def tw2328508917840040701:=0
def tw3094132206199658001:=0
def tw18233478124998183580:=0
def tw1656887723594564384:=0
def tw7760056208018020664:=0
def tw4506348482142035088:=0
def tw5320966111623199812:=0
def tw3686252294800436027:=0
def tw10885889491501445244:=0
def tw948468458074022699:=0
def tw15326702995557721209:=0
def tw12614674487147137243:=0
def tw4260678378982708628:=0
def tw6937205101011865709:=0
def tw6448777473158373390:=0
def tw2562289650847305435:=0
def tw7539177995675363236:=0
def tw591775890276707340:=0
def tw543434909573390194:=0
def tw3345582278492092991:=0
def tw14442476711571031796:=0
def tw2919583788673690490:=0
def tw12922749254999871878:=0
def tw1046838297272203549:=0
def tw6950523938267837686:=0
def tw11375726295052701922:=0
def tw8920943888740702936:=0
def tw16059341341817157:=0
def tw6604166257213449426:=0
def tw4537924727203432947:=0
def tw15774834300379647586:=0
def tw8953771377396570614:=0
def tw10437708107929436954:=0
def tw7308727917747779700:=0
def tw15393923573179872718:=0
def tw12275745736550992286:=0
def tw2896410900642038697:=0
def tw18251677294397279426:=0
def tw10613236024047625678:=0
def tw7420291323944786262:=0
def tw15399565515654630073:=0
def tw3792279927473801991:=0
def tw13886250490932598975:=0
def tw4498001783527666037:=0
def tw15819793547930539801:=0
def tw16488005077208408340:=0
def tw11625835739217832144:=0
def tw14257378558067689210:=0
def tw13767729834263127364:=0
def tw4135565292799991794:=0
def tw6120786200738683999:=0
def tw17762971355004556546:=0
def tw10882081278795693550:=0
def tw16567915683413675264:=0
def tw1516060192204643889:=0
def tw8773409927730452050:=0
def tw12134703107913509470:=0
def tw16138940016872261181:=0
def tw18300174225323048277:=0
def tw4581744267728038330:=0
def tw10112369722960003562:=0
def tw13957272338441906826:=0
def tw1984642539250969767:=0
def tw9137702584557345949:=0
def tw13314591368746897458:=0
def tw13260901263492786437:=0
def tw17852439724819193957:=0
def tw12742090309459527443:=0
def tw17087044788671871848:=0
def tw11510762590902178302:=0
def tw12332297879351526304:=0
def tw15606823488743833449:=0
def tw10985277757591940368:=0
def tw1246750463055955181:=0
def tw4172334291653824427:=0
def tw4375878643663483376:=0
def tw16873925403880752780:=0
def tw5233230635945271962:=0
def tw8235044555295063071:=0
def tw9042596242100477206:=0
def tw5797533452657849159:=0
def tw13002902627493853561:=0
def tw15354402812647206763:=0
def tw10326438287558544802:=0
def tw1537667042947983660:=0
def tw7013824313526044887:=0
def tw5795477923710790365:=0
def tw6835191087774271241:=0
def tw10813934670124102202:=0
def tw11412523651143451081:=0
def tw15869449584641479040:=0
def tw5445047672135104826:=0
def tw2204034631525420106:=0
def tw18002236093050654719:=0
def tw17835476016981174666:=0
def tw4617000167954928459:=0
def tw8747782312815584575:=0
def tw12496406394706690774:=0
def tw10864873912174925645:=0
def tw8907688235886587736:=0
def tw9952865296808359861:=0
def tw13852016440150734423:=0
def tw3571996697955224985:=0
def tw9537712750760265807:=0
def tw7430544368085787429:=0
def tw13404661304347874656:=0
def tw12017842340623658356:=0
def tw8613575016576135528:=0
def tw5369977623086252666:=0
def tw4841112145366748529:=0
def tw14300533825783441638:=0
def tw3312899471133668764:=0
def tw736590170253305103:=0
def tw1819063348802166667:=0
def tw7179796940883322111:=0
def tw17236894091538689460:=0
def tw18422354858329192963:=0
def tw9578632539192955451:=0
def tw9015693946065780484:=0
def tw3791124680035694356:=0
def tw17776013322462915852:=0
def tw10185614685890627756:=0
def tw13208471894530436002:=0
def tw11949957565882811982:=0
def tw14318494125733709774:=0
def tw16210734632064563308:=0
def tw14341343786784293493:=0
def tw9081572480124714346:=0
def tw10798719305009357850:=0
def tw12871081960882629925:=0
def tw5800542843373771899:=0
def tw16456127251141526702:=0
def tw6445683733604983277:=0
def tw17416254290753551399:=0
def tw11340873885620529719:=0
def tw14036381148201625834:=0
def tw1538565541879466227:=0
def tw13940199189574453101:=0
def tw3284008010762888232:=0
def tw7514946512914052419:=0
def tw9728341532526311935:=0
def tw7109969729130417557:=0
def tw6042537924866573558:=0
def tw10107515242260259348:=0
def tw1663894203240807733:=0
def tw16043572532799776012:=0
def tw10913345836568802463:=0
def tw3686417970575916916:=0
def tw14522292482865394938:=0
def tw5068218186822588538:=0
def tw17766392583286538445:=0
def tw6915393780098504963:=0
def tw15136682016731790901:=0
def tw14150427410545128163:=0
def tw12318568900937490015:=0
def tw6106949190888262548:=0
def tw11069526870936225506:=0
def tw8590682409024185063:=0
def tw1499707884685999964:=0
def tw12938610783928249849:=0
def tw5220257900727533823:=0
def tw4071742534621938004:=0
def tw886547743109805316:=0
def tw11476156882363453306:=0
def tw1149188450172375895:=0
def tw10516885606283568152:=0
end PySem.W.Fast
open PySem PySem.W PyProof.Rows
set_option maxRecDepth 100000 in
set_option maxHeartbeats 0 in
theorem PySem.Challenge.cw_holebook_k59_alive_by_ranks_holds : PySem.Challenge.rw_holebook_k59_alive_by_ranks.Holds := by
 w_on;o_law;k_head;(case hw=>w_witness2)
 k_fill
 refine Hb.walk (l:=PySem.Challenge.rw_holebook_k59_alive_by_ranks) rfl rfl (fun w h Y=>PySem.W.kIn_of Y) ?F
 case F =>
  intro w mg fa h KX G hmg
  refine' Hb.all_mk KX G hmg ?ac_Growth ?zq2u ?zq2m ?zq2q ?zq23 ?zq0n ?zq0h ?zq0k ?zq02 ?zq2t ?zq2l ?zq2p ?zq22 ?zq1q ?zq1f ?zq1m ?zq0r ?zq3z ?zq3l ?zq3t ?zq2x ?zq49 ?zq45 ?zq47 ?zq3r ?zq1z ?zq1t ?zq1w ?zq12 ?zq3f ?zq33 ?zq39 ?zq2f ?zq1d ?zq0y ?zq16 ?zq1a ?zq0e ?zq2w ?zq2o ?zq2s ?zq25 ?zq3g ?zq34 ?zq3a ?zq2g ?zq2e ?zq28 ?zq2b ?zq1k ?zq3j ?zq37 ?zq3d ?zq2j ?zq3i ?zq36 ?zq3c ?zq2i ?zq42 ?zq3o ?zq3w ?zq30 ?zq21 ?zq1v ?zq1y ?zq14 ?zq2d ?zq27 ?zq2a ?zq1j ?zq3h ?zq35 ?zq3b ?zq2h ?zq41 ?zq3n ?zq3v ?zq2z ?zq0o ?zq0i ?zq0l ?zq03 ?zq4h ?zq4d ?zq4f ?zq4b ?zq2c ?zq26 ?zq29 ?zq1i ?zq1p ?zq1e ?zq1l ?zq0q ?zq44 ?zq3q ?zq3y ?zq32 ?zq40 ?zq3m ?zq3u ?zq2y ?zq1c ?zq15 ?zq19 ?zq0d ?zq11 ?zq0v ?zq0z ?zq09 ?zq08 ?zq06 ?zq07 ?zq00 ?zq1r ?zq1g ?zq1n ?zq0s ?zq2v ?zq2n ?zq2r ?zq24 ?zq0p ?zq0c ?zq0j ?zq0m ?zq04 ?zq43 ?zq3p ?zq3x ?zq31 ?zq20 ?zq1u ?zq1x ?zq13 ?zq4a ?zq46 ?zq48 ?zq3s ?zq4i ?zq4e ?zq4g ?zq4c ?zq0b ?zq05 ?zq0w ?zq0g ?zq10 ?zq0x ?zq0f ?zq0a ?zq17 ?zq0u ?zq1b ?zq01 ?zq3k ?zq38 ?zq3e ?zq2k ?zq1s ?zq18 ?zq1h ?zq1o ?zq0t ?zq4m ?zq4j ?zq4l ?zq4k ?mk_Growth ?kc_Growth ?pg_Growth ?hd_Growth ?po_Growth ?sa_Growth ?na_Growth_prime ?na_Growth_pieces ?na_Growth_sheets ?na_Growth_edges ?na_Growth_enders ?ac_FACE_COUNTS ?lc_FACE_COUNTS ?aq_MOST_PIECES ?aq_PRIME_BOUND ?aq_LEVELS ?z_isinstance ?z_int ?z_bool ?z_tuple ?z_zip ?z_max ?z_len ?z_all ?z_range ?z_dict ?z_enumerate ?z_list
  (case ac_Growth=>k_is);(case ac_FACE_COUNTS=>k_is);(case zq2u=>k_is);(case zq2m=>k_is)
  (case zq2q=>k_is);(case zq23=>k_is);(case zq0n=>k_is);(case zq0h=>k_is)
  (case zq0k=>k_is);(case zq02=>k_is);(case zq2t=>k_is);(case zq2l=>k_is)
  (case zq2p=>k_is);(case zq22=>k_is);(case zq1q=>k_is);(case zq1f=>k_is)
  (case zq1m=>k_is);(case zq0r=>k_is);(case zq3z=>k_is);(case zq3l=>k_is)
  (case zq3t=>k_is);(case zq2x=>k_is);(case zq49=>k_is);(case zq45=>k_is)
  (case zq47=>k_is);(case zq3r=>k_is);(case zq1z=>k_is);(case zq1t=>k_is)
  (case zq1w=>k_is);(case zq12=>k_is);(case zq3f=>k_is);(case zq33=>k_is)
  (case zq39=>k_is);(case zq2f=>k_is);(case zq1d=>k_is);(case zq0y=>k_is)
  (case zq16=>k_is);(case zq1a=>k_is);(case zq0e=>k_is);(case zq2w=>k_is)
  (case zq2o=>k_is);(case zq2s=>k_is);(case zq25=>k_is);(case zq3g=>k_is)
  (case zq34=>k_is);(case zq3a=>k_is);(case zq2g=>k_is);(case zq2e=>k_is)
  (case zq28=>k_is);(case zq2b=>k_is);(case zq1k=>k_is);(case zq3j=>k_is)
  (case zq37=>k_is);(case zq3d=>k_is);(case zq2j=>k_is);(case zq3i=>k_is)
  (case zq36=>k_is);(case zq3c=>k_is);(case zq2i=>k_is);(case zq42=>k_is)
  (case zq3o=>k_is);(case zq3w=>k_is);(case zq30=>k_is);(case zq21=>k_is)
  (case zq1v=>k_is);(case zq1y=>k_is);(case zq14=>k_is);(case zq2d=>k_is)
  (case zq27=>k_is);(case zq2a=>k_is);(case zq1j=>k_is);(case zq3h=>k_is)
  (case zq35=>k_is);(case zq3b=>k_is);(case zq2h=>k_is);(case zq41=>k_is)
  (case zq3n=>k_is);(case zq3v=>k_is);(case zq2z=>k_is);(case zq0o=>k_is)
  (case zq0i=>k_is);(case zq0l=>k_is);(case zq03=>k_is);(case zq4h=>k_is)
  (case zq4d=>k_is);(case zq4f=>k_is);(case zq4b=>k_is);(case zq2c=>k_is)
  (case zq26=>k_is);(case zq29=>k_is);(case zq1i=>k_is);(case zq1p=>k_is)
  (case zq1e=>k_is);(case zq1l=>k_is);(case zq0q=>k_is);(case zq44=>k_is)
  (case zq3q=>k_is);(case zq3y=>k_is);(case zq32=>k_is);(case zq40=>k_is)
  (case zq3m=>k_is);(case zq3u=>k_is);(case zq2y=>k_is);(case zq1c=>k_is)
  (case zq15=>k_is);(case zq19=>k_is);(case zq0d=>k_is);(case zq11=>k_is)
  (case zq0v=>k_is);(case zq0z=>k_is);(case zq09=>k_is);(case zq08=>k_is)
  (case zq06=>k_is);(case zq07=>k_is);(case zq00=>k_is);(case zq1r=>k_is)
  (case zq1g=>k_is);(case zq1n=>k_is);(case zq0s=>k_is);(case zq2v=>k_is)
  (case zq2n=>k_is);(case zq2r=>k_is);(case zq24=>k_is);(case zq0p=>k_is)
  (case zq0c=>k_is);(case zq0j=>k_is);(case zq0m=>k_is);(case zq04=>k_is)
  (case zq43=>k_is);(case zq3p=>k_is);(case zq3x=>k_is);(case zq31=>k_is)
  (case zq20=>k_is);(case zq1u=>k_is);(case zq1x=>k_is);(case zq13=>k_is)
  (case zq4a=>k_is);(case zq46=>k_is);(case zq48=>k_is);(case zq3s=>k_is)
  (case zq4i=>k_is);(case zq4e=>k_is);(case zq4g=>k_is);(case zq4c=>k_is)
  (case zq0b=>k_is);(case zq05=>k_is);(case zq0w=>k_is);(case zq0g=>k_is)
  (case zq10=>k_is);(case zq0x=>k_is);(case zq0f=>k_is);(case zq0a=>k_is)
  (case zq17=>k_is);(case zq0u=>k_is);(case zq1b=>k_is);(case zq01=>k_is)
  (case zq3k=>k_is);(case zq38=>k_is);(case zq3e=>k_is);(case zq2k=>k_is)
  (case zq1s=>k_is);(case zq18=>k_is);(case zq1h=>k_is);(case zq1o=>k_is)
  (case zq0t=>k_is);(case zq4m=>k_is);(case zq4j=>k_is);(case zq4l=>k_is)
  (case zq4k=>k_is);(case mk_Growth=>k_is);(case kc_Growth=>k_is);(case pg_Growth=>k_is)
  (case hd_Growth=>k_is);(case po_Growth=>k_is);(case sa_Growth=>k_is);(case na_Growth_prime=>k_is)
  (case na_Growth_pieces=>k_is);(case na_Growth_sheets=>k_is);(case na_Growth_edges=>k_is);(case na_Growth_enders=>k_is)
  (case lc_FACE_COUNTS=>k_is);(case aq_MOST_PIECES=>k_is);(case aq_PRIME_BOUND=>k_is);(case aq_LEVELS=>k_is)
  (case z_isinstance=>k_is);(case z_int=>k_is);(case z_bool=>k_is);(case z_tuple=>k_is)
  (case z_zip=>k_is);(case z_max=>k_is);(case z_len=>k_is);(case z_all=>k_is)
  (case z_range=>k_is);(case z_dict=>k_is);(case z_enumerate=>k_is);(case z_list=>k_is)