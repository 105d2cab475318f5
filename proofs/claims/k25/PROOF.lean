import PyProof.Rows.All
import Wide.All
import OpenK.AllK
import Wide.FinOn
import Lean
import PyProof.EqAt
import PyProof.EqKinds
import PyProof.TupleCall
import PySem.Challenge.RW_holebook_k25_whole_built_diagonal
set_option linter.all false
set_option Elab.async false
set_option maxRecDepth 100000
set_option maxHeartbeats 4000000
noncomputable section
namespace L2
open PySem PySem.Spec PyProof.Rows
abbrev Key:=Sum Int Str
def A47:Key->Value->Bool
 | .inl k,v=>Value.isInt k v
 | .inr x,v=>Value.isStrOf x v
def keyH (w:World):Key->Int
 | .inl k=>hashInt k
 | .inr x=>hashStr w x
theorem Cc:∀{k:Key}{v:Value},A47 k v=true->(∃ i t,k=Sum.inl i/\v=Value.int i t)\/(∃ x t,k=Sum.inr x/\v=Value.str x t)
 | .inl i,v,h=>by
   obtain⟨t,e⟩:=Value.isInt_shape (k:=i) (v:=v) h
   exact .inl ⟨i,t,rfl,e⟩
 | .inr x,v,h=>by
   obtain⟨t,e⟩:=Value.isStrOf_shape (x:=x) (v:=v) h
   exact .inr ⟨x,t,rfl,e⟩
theorem A46 (a b:Int):decide ((Sum.inl a:Key)=Sum.inl b)=(a==b):=by
 by_cases e:a=b
 . subst e;simp
 . have h:¬(Sum.inl a:Key)=Sum.inl b:=fun q=>e (Sum.inl.inj q)
   rw [decide_eq_false h]
   exact (beq_eq_false_iff_ne.mpr e).symm
theorem A43 (a b:Str):decide ((Sum.inr a:Key)=Sum.inr b)=decide (a=b):=by
 by_cases e:a=b
 . subst e;simp
 . have h:¬(Sum.inr a:Key)=Sum.inr b:=fun q=>e (Sum.inr.inj q)
   rw [decide_eq_false h,decide_eq_false e]
theorem A45 (a:Int) (b:Str):decide ((Sum.inl a:Key)=Sum.inr b)=false:=decide_eq_false (fun q=>nomatch q)
theorem A44 (a:Str) (b:Int):decide ((Sum.inr a:Key)=Sum.inl b)=false:=decide_eq_false (fun q=>nomatch q)
def Ae7 (prog:Program) (w:World):PySem.KeyKind prog w Key where
 is:=A47
 hash:=keyH w
 inj:=fun v a b ha hb=>by
  rcases Cc ha with ⟨i,t,rfl,rfl⟩|⟨x,t,rfl,rfl⟩
  . rcases Cc hb with ⟨j,u,rfl,e⟩|⟨y,u,rfl,e⟩
    . injection e with e1 _;rw [e1]
    . exact nomatch e
  . rcases Cc hb with ⟨j,u,rfl,e⟩|⟨y,u,rfl,e⟩
    . exact nomatch e
    . injection e with e1 _;rw [e1]
 byValue:=fun k v h=>by
  rcases Cc h with ⟨i,t,rfl,rfl⟩|⟨x,t,rfl,rfl⟩<;>rfl
 pyHash:=fun hv h=>by
  rcases Cc hv with ⟨i,t,rfl,rfl⟩|⟨x,t,rfl,rfl⟩
  . exact wpAny_pyHash_int h
  . exact wpAny_pyHash_str h
 eqBool:=fun hu hv h=>by
  rcases Cc hu with ⟨i,t,rfl,rfl⟩|⟨x,t,rfl,rfl⟩
  . rcases Cc hv with ⟨j,u,rfl,rfl⟩|⟨y,u,rfl,rfl⟩
    . rw [A46] at h;exact wpAny_eqBool_int h
    . rw [A45] at h;exact SeqAt.EqAt.int_str i t y u _ _ _ _ h
  . rcases Cc hv with ⟨j,u,rfl,rfl⟩|⟨y,u,rfl,rfl⟩
    . rw [A44] at h;exact SeqAt.EqAt.str_int x t j u _ _ _ _ h
    . rw [A43] at h;exact wpAny_eqBool_str h
 «strs»:=fun k x t v h=>by
  rcases Cc h with ⟨i,u,rfl,e⟩|⟨y,u,rfl,e⟩
  . exact nomatch e
  . injection e with e1 _
    subst e1
    cases v<;>rfl
end L2
namespace L2
open PySem PySem.Spec PyProof.Rows
inductive V where
 | non | bl (b:Bool) | int (i:Int) | str (x:Str) | byt (b:Array UInt8) | flt (b:UInt64) | ref (a:Addr) | ty (n:String)
 deriving DecidableEq
def RelV:V->Value->Prop
 | .non,u=>u=Value.none
 | .bl b,u=>u=Value.bool b
 | .int i,u=>∃ t,u=Value.int i t
 | .str x,u=>∃ t,u=Value.str x t
 | .byt b,u=>∃ t,u=Value.bytes b t
 | .flt b,u=>∃ t,u=Value.float b t
 | .ref a,u=>u=Value.ref a
 | .ty n,u=>u=Value.type n
abbrev Vals:List V->List Value->Prop:=Paired RelV
theorem Vals.length {xs:List V}{us:List Value} (r:Vals xs us):xs.length=us.length:=Paired.length r
theorem Vals.get:∀{xs:List V}{us:List Value}{i:Nat}{x:V},Vals xs us->xs[i]?=some x->∃ u,us[i]?=some u/\RelV x u
 | _,_,_,_,.nil,e=>by simp at e
 | _,_,0,_,.cons r _,e=>by simp at e;subst e;exact ⟨_,rfl,r⟩
 | _,_,i+1,x,.cons _ t,e=>by
   obtain⟨u,h1,h2⟩:=Vals.get (i:=i) (x:=x) t (by simpa using e)
   exact ⟨u,by simpa using h1,h2⟩
theorem Vals.set {x:V}{u:Value} (r:RelV x u):∀{xs:List V}{us:List Value} (i:Nat),Vals xs us->Vals (xs.set i x) (us.set i u)
 | _,_,_,.nil=>.nil
 | _,_,0,.cons _ t=>.cons r t
 | _,_,i+1,.cons q t=>.cons q (Vals.set r i t)
theorem Vals.append:∀{xs ys:List V}{us ws:List Value},Vals xs us->Vals ys ws->Vals (xs++ys) (us++ws)
 | _,_,_,_,.nil,s=>s
 | _,_,_,_,.cons r t,s=>.cons r (Vals.append t s)
theorem Vals.take:∀{xs:List V}{us:List Value} (n:Nat),Vals xs us->Vals (xs.take n) (us.take n)
 | _,_,0,_=>.nil
 | _,_,_+1,.nil=>.nil
 | _,_,n+1,.cons r t=>.cons r (Vals.take n t)
theorem Vals.drop:∀{xs:List V}{us:List Value} (n:Nat),Vals xs us->Vals (xs.drop n) (us.drop n)
 | _,_,0,r=>r
 | _,_,_+1,.nil=>.nil
 | _,_,n+1,.cons _ t=>Vals.drop n t
def RelO:Option V->Option Value->Prop
 | some v,some u=>RelV v u
 | none,none=>True
 | _,_=>False
def KV {κ:Type}:List (κ × V)->List (κ × Value)->Prop:=Paired fun (p:κ × V) (q:κ × Value)=>p.1=q.1/\RelV p.2 q.2
def kV:Key->V
 | .inl i=>.int i
 | .inr x=>.str x
inductive HO where
 | lst (xs:List V)
 | tup (xs:List V)
 | dK (Si:List (Key × V)) | dT (Si:List (List Key × V))
 | set (S:Int->Bool) (n:Nat)
 | ins (C dx:Addr) (fs:List (Str × V))
 | own (x:Addr)
 | xd (fs:List (Str × V))
 | met (f x:Addr)
 | rng (lo hi:Int)
 | frz (o:Obj) (u:HO)
 | tbl (ps:Array Value)
 | ext (φ:Heap->Prop)
abbrev Hp:=Addr->Option HO
def upd (H:Hp) (a:Addr) (o:HO):Hp:=fun b=>if b=a then some o else H b
theorem Ag {H:Hp}{a:Addr}{o:HO}:upd H a o a=some o:=by unfold upd;rw [if_pos rfl]
theorem Aq {H:Hp}{a b:Addr}{o:HO} (h:b≠a):upd H a o b=H b:=by unfold upd;rw [if_neg h]
theorem F6 {H:Hp}{a b:Addr}{o u:HO} (h:H a=some o) (h':H b=some u) (d:o≠u):a≠b:=by
 intro e;subst e;rw [h] at h';exact d (Option.some.inj h')
theorem Ar {H:Hp}{a b:Addr}{o:HO} (h:H a=some o) (h':H b=none):a≠b:=by
 intro e;subst e;rw [h] at h';cases h'
def M5 (h:Heap) (a:Addr) (items:Array Value):Prop:=∃ o,h.get? a=some o/\o.cls=.type "tuple"/\o.dict=none/\∃ n,o.data=.seq items n
theorem M5.tup {h:Heap}{a:Addr}{items:Array Value} (x:M5 h a items):IsTup h a items:=let ⟨o,e,c,_,d⟩:=x;⟨o,e,c,d⟩
theorem M5.lt {h:Heap}{a:Addr}{items:Array Value} (x:M5 h a items):a<h.objs.size:=x.tup.lt
theorem M5.new (h:Heap) (items:Array Value):M5 (h.push { cls:=.type "tuple",data:=.seq items }) h.objs.size items:=⟨_,Heap.get?_push_size _ rfl,rfl,rfl,_,rfl⟩
section
variable (P:Program) (w:World)
def Kl (H:Hp) (h:Heap) (a:Addr):HO->Prop
 | .lst xs=>xs.length<=sizeLine/\∃ (its:List Value) (n:Nat),Vals xs its/\h.get? a=some { cls:=.type "list",data:=.seq its.toArray n }
 | .tup xs=>xs.length<=sizeLine/\∃ its:List Value,Vals xs its/\M5 h a its.toArray
 | .dK Si=>Si.length<=sizeLine/\(a==sysModules)=false/\∃ vs,KV Si vs/\h.DictOf (Ae7 P w) a vs
 | .dT Si=>Si.length<=sizeLine/\(a==sysModules)=false/\∃ xs:List (List Key × Addr × Value),
    Paired (fun (p:List Key × V) (q:List Key × Addr × Value)=>p.1=q.1/\H q.2.1=some (.tup (p.1.map kV))/\RelV p.2 q.2.2) Si xs ∧
    ∃ o es ep,h.get? a=some o/\o.ExactDict/\o.data=.dict es ep/\es.toList=xs.map (entryOfKey (tupleKind (Ae7 P w)))/\(xs.map (·.1)).Nodup
 | .set S n=>h.SetOf (intKind P w) a S n
 | .ins C dx fs=>H dx=some (.own a)/\fs.length<=1000/\dx≠a/\h.get? a=some (PySem.W.instObj C dx) ∧
    ∃ mA,h.Ns1 dx mA/\(∀ f,RelO (fs.lookup f) (mA f))/\PySem.Within mA (fs.map (·.1))
 | .own _=>∃ o,h.get? a=some o
 | .xd fs=>∃ mA,h.Ns1 a mA/\∀ f,RelO (fs.lookup f) (mA f)
 | .rng lo hi=>∃ t u v,h.get? a=some { cls:=.type "range",data:=.fields #[.int lo t,.int hi u,.int 1 v] }
 | .frz o u=>h.get? a=some o/\Kl H h a u
 | .tbl ps=>h.get? a=some { cls:=.none,data:=.fields ps }
 | .met f x=>h.get? a=some (PySem.W.methodObj (.ref f) (.ref x))
 | .ext φ=>φ h/\(∃ o,h.get? a=some o)/\∀ h1 h2:Heap,φ h1->(∀ o,h1.get? a=some o->h2.get? a=some o)->φ h2
def HOk (H:Hp) (h:Heap):Prop:=∀ a o,H a=some o->Kl P w H h a o
end
section
variable {P:Program}{w:World}{H H':Hp}{h h':Heap}{a:Addr}{o:HO}
theorem Kl.lt (x:Kl P w H h a o):a<h.objs.size:=by
 cases o with
 | lst xs=>obtain⟨_,_,_,_,e⟩:=x;exact Heap.lt_size e
 | tup xs=>obtain⟨_,_,_,p⟩:=x;exact p.lt
 | dK Si=>obtain⟨_,_,_,_,o,_,_,e,_⟩:=x;exact Heap.lt_size e
 | dT Si=>obtain⟨_,_,_,_,o,_,_,e,_⟩:=x;exact Heap.lt_size e
 | set S n=>obtain⟨o,_,_,_,e,_⟩:=x;exact Heap.lt_size e
 | ins C dx fs=>obtain⟨_,_,_,e,_⟩:=x;exact Heap.lt_size e
 | own y=>obtain⟨_,e⟩:=x;exact Heap.lt_size e
 | xd fs=>obtain⟨_,⟨_,_,_,e,_⟩,_⟩:=x;exact Heap.lt_size e
 | rng lo hi=>obtain⟨_,_,_,e⟩:=x;exact Heap.lt_size e
 | frz ob u=>obtain⟨e,_⟩:=x;exact Heap.lt_size e
 | tbl ps=>exact Heap.lt_size (show h.get? a=some _ from x)
 | met f y=>exact Heap.lt_size (show h.get? a=some _ from x)
 | ext φ=>obtain⟨_,⟨_,e⟩,_⟩:=x;exact Heap.lt_size e
theorem Paired.mapP {α β:Type}{F G:α->β->Prop}:∀{l₁:List α}{l₂:List β},Paired F l₁ l₂->(∀ a b,F a b->G a b)->Paired G l₁ l₂
 | _,_,.nil,_=>.nil
 | _,_,.cons r t,f=>.cons (f _ _ r) (Paired.mapP t f)
theorem Kl.stay (x:Kl P w H h a o) (k:∀ b u,(b=a\/H b=some (.own a))->h.get? b=some u->h'.get? b=some u)
 (ho:∀ b,H b=some (.own a)->H' b=some (.own a)) (ht:∀ b xs,H b=some (.tup xs)->H' b=some (.tup xs)):Kl P w H' h' a o:=by
 induction o with
 | lst xs=>obtain⟨z,its,n,r,e⟩:=x;exact ⟨z,its,n,r,k _ _ (.inl rfl) e⟩
 | tup xs=>obtain⟨z,its,r,ob,e,c⟩:=x;exact ⟨z,its,r,ob,k _ _ (.inl rfl) e,c⟩
 | dK Si=>obtain⟨z,y,vs,r,ob,es,ep,e,c⟩:=x;exact ⟨z,y,vs,r,ob,es,ep,k _ _ (.inl rfl) e,c⟩
 | dT Si =>
   obtain⟨z,y,xs,r,ob,es,ep,e,c⟩:=x
   exact ⟨z,y,xs,Paired.mapP r fun p q z=>⟨z.1,ht _ _ z.2.1,z.2.2⟩,ob,es,ep,k _ _ (.inl rfl) e,c⟩
 | set S n=>obtain⟨ob,es,ep,t,e,c⟩:=x;exact ⟨ob,es,ep,t,k _ _ (.inl rfl) e,c⟩
 | ins C dx fs =>
   obtain⟨d,z,ne,e,mA,⟨od,es,ep,e2,c⟩,r⟩:=x
   exact ⟨ho _ d,z,ne,k _ _ (.inl rfl) e,mA,⟨od,es,ep,k _ _ (.inr d) e2,c⟩,r⟩
 | own y=>obtain⟨ob,e⟩:=x;exact ⟨ob,k _ _ (.inl rfl) e⟩
 | xd fs=>obtain⟨mA,⟨od,es,ep,e,c⟩,r⟩:=x;exact ⟨mA,⟨od,es,ep,k _ _ (.inl rfl) e,c⟩,r⟩
 | rng lo hi=>obtain⟨t,u,v,e⟩:=x;exact ⟨t,u,v,k _ _ (.inl rfl) e⟩
 | frz ob u ih=>obtain⟨e,q⟩:=x;exact ⟨k _ _ (.inl rfl) e,ih q⟩
 | tbl ps =>
   have e:h.get? a=some { cls:=.none,data:=.fields ps }:=x
   show h'.get? a=some { cls:=.none,data:=.fields ps }
   exact k a _ (.inl rfl) e
 | met f y =>
   have e:h.get? a=some (PySem.W.methodObj (.ref f) (.ref y)):=x
   show h'.get? a=some (PySem.W.methodObj (.ref f) (.ref y))
   exact k a _ (.inl rfl) e
 | ext φ=>obtain⟨p,⟨o,e⟩,st⟩:=x;exact ⟨st _ _ p fun o q=>k _ _ (.inl rfl) q,⟨o,k _ _ (.inl rfl) e⟩,st⟩
theorem HOk.lt (x:HOk P w H h) (e:H a=some o):a<h.objs.size:=(x a o e).lt
theorem HOk.fresh (x:HOk P w H h) (e:h.objs.size<=a):H a=none:=by
 cases q:H a with
 | none=>rfl
 | some u=>exact absurd (Nat.lt_of_lt_of_le (x.lt q) e) (Nat.lt_irrefl _)
theorem HOk.kept (x:HOk P w H h) (k:∀ b u,h.get? b=some u->h'.get? b=some u):HOk P w H h':=fun a o e =>
 (x a o e).stay (fun b u _ q=>k b u q) (fun _ q=>q) fun _ _ q=>q
theorem HOk.laid (x:HOk P w H h) (k:∀ b u,h.get? b=some u->h'.get? b=some u) (hp:h.objs.size<=a) (new:Kl P w (upd H a o) h' a o):HOk P w (upd H a o) h':=fun b u e=>by
 have hn:=x.fresh hp
 by_cases hb:b=a
 . subst hb;rw [Ag] at e;cases e;exact new
 . rw [Aq hb] at e
   exact (x b u e).stay (fun c v _ q=>k c v q) (fun c q=>by rw [Aq (Ar q hn)];exact q) fun c xs q=>by rw [Aq (Ar q hn)];exact q
end
def Rd (H:Hp) (a:Addr) (u:HO):Prop:=H a=some u\/∃ o,H a=some (.frz o u)
theorem Rd.ok {P:Program}{w:World}{H:Hp}{h:Heap}{a:Addr}{u:HO} (r:Rd H a u) (x:HOk P w H h):Kl P w H h a u:=by
 rcases r with r|⟨o,r⟩
 . exact x a u r
 . obtain⟨_,q⟩:=x a _ r
   exact q
def Mut:Option HO->Prop
 | some (.lst _)=>True
 | some (.dK _)=>True
 | some (.dT _)=>True
 | some (.set _ _)=>True
 | some (.ins _ _ _)=>True
 | some (.ext _)=>True
 | _=>False
section
variable {P:Program}{w:World}{H:Hp}{h h':Heap}{x e:Addr}{o':HO}
theorem HOk.write (ok:HOk P w H h) (mu:Mut (H x)) (he:e=x\/H e=some (.own x)) (k:∀ b u,b≠e->h.get? b=some u->h'.get? b=some u) (heo:∃ u,h'.get? e=some u)
 (new:Kl P w (upd H x o') h' x o'):HOk P w (upd H x o') h':=fun b u q=>by
 have nown:∀ c y,H c=some (.own y)->c≠x:=fun c y r z=>by subst z;rw [r] at mu;exact mu
 have ntup:∀ c xs,H c=some (.tup xs)->c≠x:=fun c xs r z=>by subst z;rw [r] at mu;exact mu
 by_cases hb:b=x
 . subst hb;rw [Ag] at q;cases q;exact new
 . rw [Aq hb] at q
   by_cases hbe:b=e
   . have q':H b=some (.own x):=by
      rcases he with z | z
      . exact absurd (hbe.trans z) hb
      . rw [hbe];exact z
     rw [q] at q';cases q'
     obtain⟨v,hv⟩:=heo
     exact ⟨v,by rw [hbe];exact hv⟩
   . refine (ok b u q).stay (fun c v hc r=>k c v ?_ r) (fun c r=>by rw [Aq (nown c b r)];exact r) fun c xs r=>by rw [Aq (ntup c xs r)];exact r
     rcases hc with rfl | hc
     . exact hbe
     . rintro rfl
       rcases he with z | z
       . exact nown c b hc z
       . rw [hc] at z;cases z;exact hb rfl
end
structure Un (fs ex:List Addr) (H H':Hp) (h h':Heap):Prop where
 keep:∀ b o,h.get? b=some o->H b=none->b ∉ fs->b ∉ ex->h'.get? b=some o
 slot:∀ b o,h.get? b=some o->H b=none->b∈fs->b ∉ ex->∃ sl,h'.get? b=some { o with slots:=sl }
 free:∀ b o,h.get? b=some o->H b=none->b ∉ ex->H' b=none
 there:∀ b o,h.get? b=some o->b ∉ ex->∃ o',h'.get? b=some o'
 tups:∀ b xs,H b=some (.tup xs)->H' b=some (.tup xs)
 frzs:∀ b o u,H b=some (.frz o u)->H' b=some (.frz o u)
 tbls:∀ b ps,H b=some (.tbl ps)->∃ more,H' b=some (.tbl (ps++more))
section
variable {fs fs' ex ex':List Addr}{H H1 H2:Hp}{h h1 h2 h':Heap}{a x e:Addr}{o:HO}
theorem Un.any (u:Un fs ex H H1 h h1) {b:Addr}{ob:Obj} (q:h.get? b=some ob) (n:H b=none) (hx:b ∉ ex):∃ sl,h1.get? b=some { ob with slots:=sl }:=by
 by_cases hb:b∈fs
 . exact u.slot b ob q n hb hx
 . exact ⟨ob.slots,u.keep b ob q n hb hx⟩
theorem Un.kept (k:∀ b u,h.get? b=some u->h'.get? b=some u):Un fs ex H H h h' :=
 ⟨fun b ob q _ _ _=>k b ob q,fun b ob q _ _ _=>⟨ob.slots,k b ob q⟩,fun _ _ _ n _=>n,fun b ob q _=>⟨ob,k b ob q⟩,fun _ _ q=>q,fun _ _ _ q=>q,fun _ ps q=>⟨#[],by rw [q];simp⟩⟩
theorem Un.refl:Un fs ex H H h h:=Un.kept fun _ _ q=>q
theorem Un.laid (k:∀ b u,h.get? b=some u->h'.get? b=some u) (hp:h.objs.size<=a) (hn:H a=none):Un fs ex H (upd H a o) h h' where
 keep:=fun b u q _ _ _=>k b u q
 slot:=fun b u q _ _ _=>⟨u.slots,k b u q⟩
 free:=fun b u q n _=>by rw [Aq (Nat.ne_of_lt (Nat.lt_of_lt_of_le (Heap.lt_size q) hp))];exact n
 there:=fun b u q _=>⟨u,k b u q⟩
 tups:=fun b xs q=>by rw [Aq (Ar q hn)];exact q
 frzs:=fun b u xs q=>by rw [Aq (Ar q hn)];exact q
 tbls:=fun b ps q=>⟨#[],by rw [Aq (Ar q hn),q];simp⟩
theorem Un.write (mu:Mut (H x)) (he:e=x\/H e=some (.own x)) (k:∀ b u,b≠e->h.get? b=some u->h'.get? b=some u) (heo:∃ u,h'.get? e=some u):Un fs ex H (upd H x o) h h':=by
 have hx:∀ b,H b=none->b≠x:=fun b n z=>by subst z;rw [n] at mu;exact mu
 have hb:∀ b,H b=none->b≠e:=fun b n z=>by
  subst z
  rcases he with r | r
  . exact hx b n r
  . rw [n] at r;cases r
 have hm:∀ b u,H b=some u->¬Mut (some u)->b≠x:=fun b u q nm z=>by subst z;rw [q] at mu;exact nm mu
 refine⟨fun b u q n _ _=>k b u (hb b n) q,fun b u q n _ _=>⟨u.slots,k b u (hb b n) q⟩,fun b u q n _=>by rw [Aq (hx b n)];exact n,fun b u q _=>?_,
  fun b xs q=>by rw [Aq (hm b _ q fun z=>z)];exact q,fun b u xs q=>by rw [Aq (hm b _ q fun z=>z)];exact q,fun b ps q=>⟨#[],by rw [Aq (hm b _ q fun z=>z),q];simp⟩⟩
 by_cases hbe:b=e
 . subst hbe;exact heo
 . exact ⟨u,k b u hbe q⟩
end
def trk (h:Heap) (H:Hp):List Addr:=(List.range h.objs.size).filter fun a=>(H a).isSome
def hidT (h:Heap) (H:Hp):Heap:=PySem.W.hideAll h (trk h H)
theorem Ag5 (h:Heap) (H:Hp):(hidT h H).objs.size=h.objs.size:=PySem.W.hideAll_size _ _
theorem Ap8 {h:Heap}{H:Hp}{b:Addr}{o:Obj} (e:h.get? b=some o) (n:H b=none):(hidT h H).get? b=some o :=
 PySem.W.hideAll_get _ e fun hm=>by
  have q:(H b).isSome=true:=(List.mem_filter.mp hm).2
  rw [n] at q;simp at q
theorem Aw9 {h:Heap}{H:Hp}{b:Addr}{o:Obj} (e:(hidT h H).get? b=some o):h.get? b=some o/\H b=none:=by
 have e':h.get? b=some o:=PySem.W.of_hideAll (trk h H) e
 refine⟨e',?_⟩
 cases q:H b with
 | none=>rfl
 | some x =>
   have hm:b∈trk h H:=List.mem_filter.mpr ⟨List.mem_range.mpr (Heap.lt_size e'),by simp [q]⟩
   have z:(hidT h H).get? b=none:=PySem.W.hideAll_none (trk h H) hm
   rw [z] at e;cases e
def A04 (g h:Heap) (L:Addr):List (Addr × Obj):=(List.range h.objs.size).filterMap fun a=>if a=L\/(g.get? a).isSome=true then none else (h.get? a).map fun o=>(a,o)
def rest (g h:Heap) (L d:Addr):List (Addr × Obj):=(A04 g h L).filter fun p=>decide (p.1≠d)
end L2
namespace L2
open PySem PySem.Spec PyProof.Rows
structure Mod (K:W.Frag) (mg:Str->Option Value) (base:Heap):Prop where
 kin:K.In base
 glob:base.Ns mainGlobals mg
 blt:∃ mb,base.Ns builtinsNs mb/\∀ x:Str,x≠"__name__"->mb x=bootBuiltins x
 nolimit:base.NoLimit
structure Cx where
 prog:Program
 w:World
 K:PySem.W.Frag
 mg:Str->Option Value
 base:Heap
 A:Around
 N:List Str
 s₀:Shared
 H₀:Hp
 env:Env
 outer:List Env
 stack:List Env
 ex:List Addr
 fn:Str->Bool
 calm:Bool
 pn:List (Addr × Obj)
 xe:Value->Shared->Prop
def frs (l:List Env):List Addr:=l.filterMap (·.frame)
abbrev Cx.fs (X:Cx):List Addr:=frs X.outer
def Vis (sc:Scope) (x:Str):Prop:=sc.names.lookup x=some .local\/sc.names.lookup x=some .cell\/sc.names.lookup x=some .free
def Loc (sc:Scope) (x:Str):Prop:=sc.names.lookup x=some .local\/sc.names.lookup x=some .cell
def Look (env:Env) (h:Heap) (m:Str->Option Value) (x:Str) (u:Value):Prop :=
 (env.kindOf x=some .local/\m x=some u)\/((env.kindOf x=some .cell\/env.kindOf x=some .free)/\∃ c,env.cells.lookup x=some c/\h.IsCell c (some u))
structure Cx.Ok (X:Cx):Prop where
 mod:Mod X.K X.mg X.base
 kind:X.env.scope.kind=.function
 glob:X.env.globals=mainGlobals
 blt:X.env.builtins=builtinsNs
 above:X.s₀.heap.objs.size<=X.env.locals
 inj:∀ x y c,X.env.cells.lookup x=some c->X.env.cells.lookup y=some c->x=y
 has:∀ x,(X.env.kindOf x=some .cell\/X.env.kindOf x=some .free)->∃ c,X.env.cells.lookup x=some c
 cab:∀ x c,X.fn x=true->X.env.cells.lookup x=some c->X.s₀.heap.objs.size<=c
 hd:X.calm=true->X.A.handled=none
 frames:X.A.frames=some X.stack
 stk:X.stack=X.outer\/(X.stack=X.env::X.outer/\X.env.frame=some X.env.locals)
 exf:∀ b∈X.ex,b≠X.env.locals/\∀ x c,X.env.cells.lookup x=some c->c≠b
 bs:∀ b o,X.base.get? b=some o->X.s₀.heap.get? b=some o/\X.H₀ b=none
 bsz:X.base.objs.size<=X.s₀.heap.objs.size
 noex:∀ b o,X.base.get? b=some o->b ∉ X.ex
 exfs:∀ b∈X.ex,b ∉ X.fs
 funs:X.s₀.heap.FunFrames X.base X.outer
 frf:∀ b∈X.fs,X.H₀ b=none
structure Inv (X:Cx) (Ac:List (Addr × Obj)) (σ:List (Option V)) (H:Hp) (s:Shared):Prop where
 ok:X.Ok
 os:s.os=X.s₀.os
 bare:AllBare s.gens
 base:Un X.fs X.ex X.H₀ H X.s₀.heap s.heap
 loc:∃ m,s.heap.Ns X.env.locals m/\∀ (i:Nat) (x:Str) (v:V),X.N[i]?=some x->σ[i]?=some (some v)->Vis X.env.scope x->∃ u,RelV v u/\Look X.env s.heap m x u
 cell:∀ x c,X.env.cells.lookup x=some c->∃ v,s.heap.IsCell c v
 free:H X.env.locals=none
 freeC:∀ x c,X.env.cells.lookup x=some c->H c=none
 pin:∀ p∈X.pn++Ac,s.heap.get? p.1=some p.2/\H p.1=none/\p.1≠X.env.locals/\p.1 ∉ X.fs/\∀ v,p.2.data≠.cell v
 hok:HOk X.prog X.w H s.heap
 len:σ.length=X.N.length
section
variable {X:Cx}{Ac:List (Addr × Obj)}{σ:List (Option V)}{H H':Hp}{s:Shared}{h':Heap}
theorem Cx.Ok.nofr (ok:X.Ok) {b:Addr}{o:Obj} (e:X.base.get? b=some o):b ∉ X.fs:=fun hb=>by
 have:=(ok.funs.mem hb).1
 rw [e] at this;cases this
theorem Inv.bs (I:Inv X Ac σ H s):∀ b o,X.base.get? b=some o->s.heap.get? b=some o/\H b=none:=fun b o e =>
 ⟨I.base.keep b o (I.ok.bs b o e).1 (I.ok.bs b o e).2 (I.ok.nofr e) (I.ok.noex b o e),I.base.free b o (I.ok.bs b o e).1 (I.ok.bs b o e).2 (I.ok.noex b o e)⟩
theorem Inv.bk (I:Inv X Ac σ H s):∀ b o,X.base.get? b=some o->s.heap.get? b=some o:=fun b o e=>(I.bs b o e).1
theorem Inv.mod (I:Inv X Ac σ H s):Mod X.K X.mg X.base:=I.ok.mod
theorem Inv.kIn (I:Inv X Ac σ H s):X.K.In s.heap:=I.ok.mod.kin.keeps I.bk
theorem Inv.lt (I:Inv X Ac σ H s):X.env.locals<s.heap.objs.size:=let ⟨_,hn,_⟩:=I.loc;hn.lt
theorem Inv.sz (I:Inv X Ac σ H s):X.s₀.heap.objs.size<=s.heap.objs.size:=Nat.le_trans I.ok.above (Nat.le_of_lt I.lt)
theorem Inv.nofs (I:Inv X Ac σ H s) {a:Addr} (h:s.heap.objs.size<=a):a ∉ X.fs:=fun hb=>by
 obtain⟨_,o,ho,_⟩:=I.ok.funs.mem hb
 exact absurd (Nat.lt_of_lt_of_le (Heap.lt_size ho) (Nat.le_trans I.sz h)) (Nat.lt_irrefl _)
theorem Inv.cne (I:Inv X Ac σ H s):∀ x c,X.env.cells.lookup x=some c->c≠X.env.locals:=fun x c e z=>by
 obtain⟨v,o,ho,hd⟩:=I.cell x c e
 obtain⟨m,⟨o',es,ep,ho',hd',_⟩,_⟩:=I.loc
 rw [z,ho'] at ho;cases ho;rw [hd'] at hd;cases hd
theorem Inv.funs (I:Inv X Ac σ H s):s.heap.FunFrames X.base X.outer:=by
 have all:∀ (l:List Env),(∀ b∈frs l,b∈X.fs)->X.s₀.heap.FunFrames X.base l->s.heap.FunFrames X.base l:=by
  intro l
  induction l with
  | nil=>intro _ _;trivial
  | cons env r ih =>
    intro hs hl
    obtain⟨hk,⟨L,o,hf,hn,ho,hd⟩,hr⟩:=hl
    have hL:L∈X.fs:=hs L (by unfold frs;rw [List.filterMap_cons,hf];exact List.mem_cons_self)
    obtain⟨sl,e⟩:=I.base.slot L o ho (I.ok.frf L hL) hL fun z=>I.ok.exfs L z hL
    exact ⟨hk,⟨L,_,hf,hn,e,hd⟩,ih (fun b hb=>hs b (by unfold frs;rw [List.filterMap_cons,hf];exact List.mem_cons_of_mem _ hb)) hr⟩
 exact all X.outer (fun _ hb=>hb) I.ok.funs
theorem Inv.stack (I:Inv X Ac σ H s):s.heap.FunFrames X.base X.stack:=by
 rcases I.ok.stk with e|⟨e,hf⟩
 . rw [e];exact I.funs
 . rw [e]
   obtain⟨m,hn,_⟩:=I.loc
   refine .cons (by rw [I.ok.kind];decide) hf hn ?_ I.funs
   exact Heap.get?_none_of_le (Nat.le_trans I.ok.bsz I.ok.above)
theorem Inv.stkSub (I:Inv X Ac σ H s):∀ b∈frs X.stack,b∈X.env.locals::X.fs:=fun b hb=>by
 rcases I.ok.stk with e|⟨e,hf⟩
 . rw [e] at hb;exact List.mem_cons_of_mem _ hb
 . rw [e] at hb
   unfold frs at hb
   rw [List.filterMap_cons,hf] at hb
   exact hb
theorem Inv.stkFree (I:Inv X Ac σ H s):∀ b∈frs X.stack,H b=none:=fun b hb=>by
 rcases List.mem_cons.mp (I.stkSub b hb) with e | hb
 . rw [e];exact I.free
 . obtain⟨_,o,ho,_⟩:=I.ok.funs.mem hb
   exact I.base.free b o ho (I.ok.frf b hb) fun z=>I.ok.exfs b z hb
theorem Inv.step {g':Array GenState}{t':Nat}{d':Drawn}{ch:List Addr} (I:Inv X Ac σ H s)
 (hch:∀ b∈ch,(b∈X.ex\/X.s₀.heap.objs.size<=b)/\b≠X.env.locals/\(∀ x c,X.env.cells.lookup x=some c->c≠b)/\∀ p∈X.pn++Ac,p.1≠b)
 (keep:∀ b o,b≠X.env.locals->b ∉ X.fs->b ∉ ch->s.heap.get? b=some o->H b=none->h'.get? b=some o)
 (slot:∀ b o,b≠X.env.locals->b∈X.fs->b ∉ ch->s.heap.get? b=some o->H b=none->∃ sl,h'.get? b=some { o with slots:=sl }) (free:∀ b o,b ∉ ch->s.heap.get? b=some o->H b=none->H' b=none)
 (there:∀ b o,b ∉ ch->s.heap.get? b=some o->∃ o',h'.get? b=some o')
 (tups:∀ b xs,H b=some (.tup xs)->H' b=some (.tup xs)) (frzs:∀ b o u,H b=some (.frz o u)->H' b=some (.frz o u)) (tbls:∀ b ps,H b=some (.tbl ps)->∃ more,H' b=some (.tbl (ps++more)))
 (ns:∀ m,s.heap.Ns X.env.locals m->h'.Ns X.env.locals m) (hok:HOk X.prog X.w H' h') (hg:AllBare g') :
 Inv X Ac σ H' { s with heap:=h',gens:=g',drawn:=d',toks:=t' }:=by
 have neL:∀ b o,X.s₀.heap.get? b=some o->b≠X.env.locals:=fun b o e=>Nat.ne_of_lt (Nat.lt_of_lt_of_le (Heap.lt_size e) I.ok.above)
 have neC:∀ b o,X.s₀.heap.get? b=some o->b ∉ X.ex->b ∉ ch:=fun b o e hx hb=>by
  rcases (hch b hb).1 with z | z
  . exact hx z
  . exact absurd (Nat.lt_of_lt_of_le (Heap.lt_size e) z) (Nat.lt_irrefl _)
 have cellK:∀ x c,X.env.cells.lookup x=some c->∀ v,s.heap.IsCell c v->h'.IsCell c v:=fun x c e v ⟨o,ho,hd⟩=>by
  have nch:c ∉ ch:=fun z=>(hch c z).2.2.1 x c e rfl
  by_cases hc:c∈X.fs
  . obtain⟨sl,q⟩:=slot c o (I.cne x c e) hc nch ho (I.freeC x c e)
    exact ⟨_,q,hd⟩
  . exact ⟨o,keep c o (I.cne x c e) hc nch ho (I.freeC x c e),hd⟩
 refine⟨I.ok,I.os,hg,⟨fun b o e n hb hx=>?_,fun b o e n hb hx=>?_,fun b o e n hx=>?_,fun b o e hx=>?_,fun b xs e=>tups b xs (I.base.tups b xs e),fun b o xs e=>frzs b o xs (I.base.frzs b o xs e),fun b ps e=>?_⟩,?_,fun x c e=>?_,?_,fun x c e=>?_,fun p hp=>?_,hok,I.len⟩
 . exact keep b o (neL b o e) hb (neC b o e hx) (I.base.keep b o e n hb hx) (I.base.free b o e n hx)
 . obtain⟨sl,e1⟩:=I.base.slot b o e n hb hx
   obtain⟨sl',e2⟩:=slot b _ (neL b o e) hb (neC b o e hx) e1 (I.base.free b o e n hx)
   exact ⟨sl',e2⟩
 . obtain⟨o',e1⟩:=I.base.there b o e hx
   exact free b o' (neC b o e hx) e1 (I.base.free b o e n hx)
 . obtain⟨o',e1⟩:=I.base.there b o e hx
   exact there b o' (neC b o e hx) e1
 . obtain⟨m1,e1⟩:=I.base.tbls b ps e
   obtain⟨m2,e2⟩:=tbls b _ e1
   exact ⟨m1++m2,by rw [e2,Array.append_assoc]⟩
 . obtain⟨m,hn,hl⟩:=I.loc
   refine⟨m,ns m hn,fun i x v e1 e2 e3=>?_⟩
   obtain⟨u,r,l⟩:=hl i x v e1 e2 e3
   refine⟨u,r,?_⟩
   rcases l with l|⟨k,c,e,z⟩
   . exact .inl l
   . exact .inr ⟨k,c,e,cellK x c e _ z⟩
 . obtain⟨v,z⟩:=I.cell x c e
   exact ⟨v,cellK x c e v z⟩
 . obtain⟨m,⟨o,_,_,ho,_⟩,_⟩:=I.loc
   exact free _ o (fun z=>(hch _ z).2.1 rfl) ho I.free
 . obtain⟨v,o,ho,hd⟩:=I.cell x c e
   exact free c o (fun z=>(hch c z).2.2.1 x c e rfl) ho (I.freeC x c e)
 . obtain⟨e,n,ne,nf,d⟩:=I.pin p hp
   have nch:p.1 ∉ ch:=fun z=>(hch p.1 z).2.2.2 p hp rfl
   exact ⟨keep p.1 p.2 ne nf nch e n,free p.1 p.2 nch e n,ne,nf,d⟩
theorem Inv.un {t':Nat} (I:Inv X Ac σ H s) (u:Un X.fs [] H H' s.heap h') (hok:HOk X.prog X.w H' h'):Inv X Ac σ H' { s with heap:=h',toks:=t' }:=by
 obtain⟨m,⟨o,es,ep,ho,r⟩,_⟩:=id I.loc
 obtain⟨sl,hL⟩:=u.any ho I.free (by simp)
 exact I.step (g':=s.gens) (d':=s.drawn) (ch:=[]) (fun _ z=>nomatch z) (fun b o _ hb _ e n=>u.keep b o e n hb (by simp)) (fun b o _ hb _ e n=>u.slot b o e n hb (by simp)) (fun b o _ e n=>u.free b o e n (by simp)) (fun b o _ e=>u.there b o e (by simp)) u.tups u.frzs u.tbls (fun m' hm=>by
  obtain⟨o',es',ep',ho',r'⟩:=hm
  rw [ho] at ho';cases ho'
  exact ⟨_,es',ep',hL,r'⟩) hok I.bare
theorem Inv.call {g':Array GenState}{t':Nat}{d':Drawn}{ch:List Addr} (I:Inv X Ac σ H s) (u:Un (frs X.stack) ch H H' s.heap h') (hok:HOk X.prog X.w H' h') (hg:AllBare g')
 (hch:∀ b∈ch,(b∈X.ex\/X.s₀.heap.objs.size<=b)/\b≠X.env.locals/\(∀ x c,X.env.cells.lookup x=some c->c≠b)/\∀ p∈X.pn++Ac,p.1≠b) :
 Inv X Ac σ H' { s with heap:=h',gens:=g',drawn:=d',toks:=t' }:=by
 obtain⟨m,⟨o,es,ep,ho,r⟩,_⟩:=id I.loc
 obtain⟨sl,hL⟩:=u.any ho I.free fun z=>(hch _ z).2.1 rfl
 exact I.step (ch:=ch) hch (fun b o hL hb hc e n=>u.keep b o e n (fun z=>(List.mem_cons.mp (I.stkSub b z)).elim hL hb) hc) (fun b o _ _ hc e n=>u.any e n hc) (fun b o hc e n=>u.free b o e n hc) (fun b o hc e=>u.there b o e hc) u.tups u.frzs u.tbls (fun m' hm=>by
  obtain⟨o',es',ep',ho',r'⟩:=hm
  rw [ho] at ho';cases ho'
  exact ⟨_,es',ep',hL,r'⟩) hok hg
theorem Inv.turned {t':Nat}{it:Addr} (I:Inv X Ac σ H s) (k:∀ b o,b≠it->s.heap.get? b=some o->h'.get? b=some o) (hn:H it=none) (hL:it≠X.env.locals)
 (h1:it∈X.ex\/X.s₀.heap.objs.size<=it) (h2:∀ x c,X.env.cells.lookup x=some c->c≠it) (h3:∀ p∈X.pn++Ac,p.1≠it):Inv X Ac σ H { s with heap:=h',toks:=t' }:=by
 have nit:∀ b u,H b=some u->b≠it:=fun b u e z=>by rw [z,hn] at e;cases e
 refine I.step (g':=s.gens) (d':=s.drawn) (ch:=[it]) (fun b hb=>?_) (fun b o _ _ hc e _=>k b o (fun z=>hc (by simp [z])) e) (fun b o _ _ hc e _=>⟨o.slots,k b o (fun z=>hc (by simp [z])) e⟩) (fun _ _ _ _ n=>n)
  (fun b o hc e=>⟨o,k b o (fun z=>hc (by simp [z])) e⟩) (fun _ _ e=>e) (fun _ _ _ e=>e) (fun b ps e=>⟨#[],by rw [e];simp⟩) (fun m hm=>?_) (fun b u e=>?_) I.bare
 . have e:b=it:=by simpa using hb
   subst e
   exact ⟨h1,hL,h2,h3⟩
 . obtain⟨o,es,ep,ho,r⟩:=hm
   exact ⟨o,es,ep,k _ o (Ne.symm hL) ho,r⟩
 . refine (I.hok b u e).stay (fun c v hc q=>k c v ?_ q) (fun _ q=>q) fun _ _ q=>q
   rcases hc with z | z
   . rw [z];exact nit b u e
   . exact nit c _ z
theorem Inv.tok (I:Inv X Ac σ H s) (t:Nat):Inv X Ac σ H { s with toks:=t }:=I.un (h':=s.heap) (t':=t) Un.refl I.hok
theorem Inv.kept {t':Nat} (I:Inv X Ac σ H s) (k:∀ b u,s.heap.get? b=some u->h'.get? b=some u):Inv X Ac σ H { s with heap:=h',toks:=t' }:=I.un (Un.kept k) (I.hok.kept k)
theorem Inv.laid {a:Addr}{o:HO}{t':Nat} (I:Inv X Ac σ H s) (k:∀ b u,s.heap.get? b=some u->h'.get? b=some u) (hp:s.heap.objs.size<=a) (new:Kl X.prog X.w (upd H a o) h' a o) :
 Inv X Ac σ (upd H a o) { s with heap:=h',toks:=t' }:=I.un (Un.laid k hp (I.hok.fresh hp)) (I.hok.laid k hp new)
theorem Inv.write {x e:Addr}{o:HO}{t':Nat} (I:Inv X Ac σ H s) (mu:Mut (H x)) (he:e=x\/H e=some (.own x)) (k:∀ b u,b≠e->s.heap.get? b=some u->h'.get? b=some u) (heo:∃ u,h'.get? e=some u)
 (new:Kl X.prog X.w (upd H x o) h' x o):Inv X Ac σ (upd H x o) { s with heap:=h',toks:=t' }:=I.un (Un.write mu he k heo) (I.hok.write mu he k heo new)
theorem Inv.pins_of {pins':List (Addr × Obj)} (I:Inv X Ac σ H s) (h:∀ p∈pins',s.heap.get? p.1=some p.2/\H p.1=none/\p.1≠X.env.locals/\p.1 ∉ X.fs/\∀ v,p.2.data≠.cell v):Inv X pins' σ H s :=
 ⟨I.ok,I.os,I.bare,I.base,I.loc,I.cell,I.free,I.freeC,fun p hp=>(List.mem_append.mp hp).elim (fun z=>I.pin p (List.mem_append_left _ z)) (h p),I.hok,I.len⟩
theorem Zp {N:List Str} (hN:N.Nodup) {i j:Nat}{x:Str} (a:N[i]?=some x) (b:N[j]?=some x):i=j:=by
 obtain⟨h1,e1⟩:=List.getElem?_eq_some_iff.mp a
 obtain⟨h2,e2⟩:=List.getElem?_eq_some_iff.mp b
 exact (List.getElem_inj hN).mp (e1.trans e2.symm)
theorem y6 {M:Model}{A:Around}{E:Value->Shared->Prop}{i:Nat}{x:Str}{v:V}{u:Value}{Q:Unit->Shared->Prop} (I:Inv X Ac σ H s) (hN:X.N.Nodup) (hi:X.N[i]?=some x) (hx:Loc X.env.scope x) (r:RelV v u)
 (h:∀ s',Inv X Ac (σ.set i (some v)) H s'->(∃ a,Heap.SameBut a s.heap s'.heap/\(a=X.env.locals\/X.env.cells.lookup x=some a))->Q () s') (hf:X.fn x=true\/X.env.scope.names.lookup x=some .local:=by first | exact .inl rfl | exact .inr rfl | assumption):wpAny M A (storeName X.env x u) Q E s:=by
 obtain⟨m,hn,hl⟩:=id I.loc
 have hcls:(X.env.scope.kind==.class || (X.env.scope.kind==.module&&X.env.locals != X.env.globals))=false:=by rw [I.ok.kind];rfl
 have hiσ:i<σ.length:=by rw [I.len];exact (List.getElem?_eq_some_iff.mp hi).1
 have cne:=I.cne
 have tracked:∀{a:Addr}{h':Heap},(∃ o,s.heap.get? a=some o/\H a=none)->Heap.SameBut a s.heap h'->HOk X.prog X.w H h':=fun {a h'} ha hs b ob e=>by
  obtain⟨_,_,hfree⟩:=ha
  refine (I.hok b ob e).stay (fun c w' hc q=>(hs.2 c ?_).trans q) (fun _ q=>q) fun _ _ q=>q
  rintro rfl
  rcases hc with rfl | hc
  . rw [hfree] at e;cases e
  . rw [hfree] at hc;cases hc
 rcases hx with hk | hk
 . refine wpAny_storeName_local hk hn (fun h' hn' hs=>?_) hcls
   obtain⟨oL,_,_,hoL,_⟩:=id hn
   refine h _ ⟨I.ok,I.os,I.bare,⟨fun b o e n hb hx=>?_,fun b o e n hb hx=>?_,I.base.free,fun b o e hx=>?_,I.base.tups,I.base.frzs,I.base.tbls⟩,⟨_,hn',fun j y v' e1 e2 e3=>?_⟩,fun y c e=>?_,I.free,I.freeC,fun p hp=>?_,tracked ⟨oL,hoL,I.free⟩ hs,by simpa using I.len⟩ ⟨_,hs,.inl rfl⟩
   . exact (hs.2 b (Nat.ne_of_lt (Nat.lt_of_lt_of_le (Heap.lt_size e) I.ok.above))).trans (I.base.keep b o e n hb hx)
   . obtain⟨sl,e1⟩:=I.base.slot b o e n hb hx
     exact ⟨sl,(hs.2 b (Nat.ne_of_lt (Nat.lt_of_lt_of_le (Heap.lt_size e) I.ok.above))).trans e1⟩
   . obtain⟨o',e1⟩:=I.base.there b o e hx
     exact ⟨o',(hs.2 b (Nat.ne_of_lt (Nat.lt_of_lt_of_le (Heap.lt_size e) I.ok.above))).trans e1⟩
   . by_cases hj:j=i
     . subst hj
       rw [hi] at e1;cases e1
       rw [List.getElem?_set_self hiσ] at e2
       cases e2
       exact ⟨u,r,.inl ⟨hk,by simp⟩⟩
     . rw [List.getElem?_set_ne (Ne.symm hj)] at e2
       obtain⟨u',r',q⟩:=hl j y v' e1 e2 e3
       refine⟨u',r',?_⟩
       rcases q with ⟨k,e⟩|⟨k,c,e,z⟩
       . refine .inl ⟨k,?_⟩
         have:y≠x:=fun e=>hj (Zp hN e1 (e▸hi))
         simp [this,e]
       . exact .inr ⟨k,c,e,z.sameBut hs (cne y c e)⟩
   . obtain⟨w',z⟩:=I.cell y c e
     exact ⟨w',z.sameBut hs (cne y c e)⟩
   . obtain⟨e,n,ne,nf,d⟩:=I.pin p hp
     exact ⟨(hs.2 p.1 ne).trans e,n,ne,nf,d⟩
 . have hfn:X.fn x=true:=by
    rcases hf with z | z
    . exact z
    . rw [z] at hk;cases hk
   obtain⟨c,hc⟩:=I.ok.has x (.inl hk)
   obtain⟨w',z⟩:=I.cell x c hc
   refine wpAny_storeName_cell I.ok.kind hk hc z (fun h' hc' hs=>?_)
   obtain⟨oc,hoc,hocd⟩:=id z
   refine h { s with heap:=h' } ⟨I.ok,I.os,I.bare,⟨fun b o e n hb hx=>?_,fun b o e n hb hx=>?_,I.base.free,fun b o e hx=>?_,I.base.tups,I.base.frzs,I.base.tbls⟩,⟨m,hn.sameBut hs (Ne.symm (cne x c hc)),fun j y v' e1 e2 e3=>?_⟩,fun y c' e=>?_,I.free,I.freeC,fun p hp=>?_,tracked ⟨oc,hoc,I.freeC x c hc⟩ hs,by simpa using I.len⟩ ⟨c,hs,.inr hc⟩
   . exact (hs.2 b (Nat.ne_of_lt (Nat.lt_of_lt_of_le (Heap.lt_size e) (I.ok.cab x c hfn hc)))).trans (I.base.keep b o e n hb hx)
   . obtain⟨sl,e1⟩:=I.base.slot b o e n hb hx
     exact ⟨sl,(hs.2 b (Nat.ne_of_lt (Nat.lt_of_lt_of_le (Heap.lt_size e) (I.ok.cab x c hfn hc)))).trans e1⟩
   . obtain⟨o',e1⟩:=I.base.there b o e hx
     exact ⟨o',(hs.2 b (Nat.ne_of_lt (Nat.lt_of_lt_of_le (Heap.lt_size e) (I.ok.cab x c hfn hc)))).trans e1⟩
   . by_cases hj:j=i
     . subst hj
       rw [hi] at e1;cases e1
       rw [List.getElem?_set_self hiσ] at e2
       cases e2
       exact ⟨u,r,.inr ⟨.inl hk,c,hc,hc'⟩⟩
     . rw [List.getElem?_set_ne (Ne.symm hj)] at e2
       obtain⟨u',r',q⟩:=hl j y v' e1 e2 e3
       refine⟨u',r',?_⟩
       rcases q with q|⟨k,c',e,z'⟩
       . exact .inl q
       . refine .inr ⟨k,c',e,z'.sameBut hs ?_⟩
         rintro rfl
         exact hj (Zp hN e1 (I.ok.inj _ _ _ e hc▸hi))
   . by_cases hcc:c'=c
     . subst hcc;exact ⟨_,hc'⟩
     . obtain⟨w2,z2⟩:=I.cell y c' e
       exact ⟨w2,z2.sameBut hs hcc⟩
   . obtain⟨e,n,ne,nf,d⟩:=I.pin p hp
     refine⟨(hs.2 p.1 ?_).trans e,n,ne,nf,d⟩
     intro q
     rw [q,hoc] at e
     have q':oc=p.2:=Option.some.inj e
     exact d w' (by rw [←q'];exact hocd)
theorem Zf {M:Model}{A:Around}{E:Value->Shared->Prop}{i:Nat}{x:Str}{v:V}{u:Value}{Q:Unit->Shared->Prop} (I:Inv X Ac σ H s) (hN:X.N.Nodup) (hi:X.N[i]?=some x) (hx:Loc X.env.scope x) (r:RelV v u)
 (h:∀ s',Inv X Ac (σ.set i (some v)) H s'->Q () s') (hf:X.fn x=true\/X.env.scope.names.lookup x=some .local:=by first | exact .inl rfl | exact .inr rfl | assumption):wpAny M A (storeName X.env x u) Q E s :=
 y6 I hN hi hx r (fun s' I' _=>h s' I') hf
theorem Inv.call' {s':Shared}{ch:List Addr} (I:Inv X Ac σ H s) (ho:s'.os=s.os) (u:Un (frs X.stack) ch H H' s.heap s'.heap) (hok:HOk X.prog X.w H' s'.heap) (hg:AllBare s'.gens)
 (hch:∀ b∈ch,(b∈X.ex\/X.s₀.heap.objs.size<=b)/\b≠X.env.locals/\(∀ x c,X.env.cells.lookup x=some c->c≠b)/\∀ p∈X.pn++Ac,p.1≠b):Inv X Ac σ H' s':=by
 obtain⟨h',g',d',t',o'⟩:=s'
 have e:o'=s.os:=ho
 subst e
 exact I.call (g':=g') (t':=t') (d':=d') u hok hg hch
end
abbrev XK:=Value->Option Addr->Hp->Prop
abbrev St:=List (Option V)
abbrev VK:=V->Hp->Prop
abbrev TE:=St->Hp->VK->Prop
abbrev TT:=St->Hp->(Bool->Hp->Prop)->Prop
abbrev TA:=St->Hp->(List V->Hp->Prop)->Prop
structure Ends where
 nx:St->Hp->Prop
 rt:VK
 bk:St->Hp->Prop:=fun _ _=>False
 ct:St->Hp->Prop:=fun _ _=>False
abbrev TS:=Ends->St->Hp->Prop
def EP (X:Cx) (Ac:List (Addr × Obj)) (σ:St) (Q:VK) (u:Value) (s':Shared):Prop:=∃ v H',Inv X Ac σ H' s'/\RelV v u/\Q v H'
def TP (X:Cx) (Ac:List (Addr × Obj)) (σ:St) (Q:Bool->Hp->Prop) (b:Bool) (s':Shared):Prop:=∃ H',Inv X Ac σ H' s'/\Q b H'
def AP (X:Cx) (Ac:List (Addr × Obj)) (σ:St) (Q:List V->Hp->Prop) (us:List Value) (s':Shared):Prop:=∃ vs H',Inv X Ac σ H' s'/\Vals vs us/\Q vs H'
def SP (X:Cx) (Ac:List (Addr × Obj)) (D:Ends) (f:Flow) (s':Shared):Prop :=
 match f with
 | .next=>∃ σ' H',Inv X Ac σ' H' s'/\D.nx σ' H'
 | .brk=>∃ σ' H',Inv X Ac σ' H' s'/\D.bk σ' H'
 | .cont=>∃ σ' H',Inv X Ac σ' H' s'/\D.ct σ' H'
 | .ret u=>∃ v σ' H',Inv X Ac σ' H' s'/\RelV v u/\D.rt v H'
def PE (X:Cx) (e:Expr) (t:TE):Prop :=
 ∀ (Ac:List (Addr × Obj)) (s:Shared) (σ:St) (H:Hp) (Q:VK),Inv X Ac σ H s->t σ H Q->wpAny (model X.prog X.w) X.A (eval e X.env) (EP X Ac σ Q) X.xe s
def PT (X:Cx) (e:Expr) (t:TT):Prop :=
 ∀ (Ac:List (Addr × Obj)) (s:Shared) (σ:St) (H:Hp) (Q:Bool->Hp->Prop),Inv X Ac σ H s->t σ H Q->wpAny (model X.prog X.w) X.A (isTrue e X.env (eval e X.env)) (TP X Ac σ Q) X.xe s
def PW (X:Cx) (e:Expr) (t:TT):Prop :=
 ∀ (whole:Sem Value) (Ac:List (Addr × Obj)) (s:Shared) (σ:St) (H:Hp) (Q:Bool->Hp->Prop),Inv X Ac σ H s->t σ H Q->wpAny (model X.prog X.w) X.A (isTrue e X.env whole) (TP X Ac σ Q) X.xe s
theorem PW.pt {X:Cx}{e:Expr}{t:TT} (h:PW X e t):PT X e t:=h _
def PA (X:Cx) (es:List Expr) (t:TA):Prop :=
 ∀ (pos:Pos) (Ac:List (Addr × Obj)) (s:Shared) (σ:St) (H:Hp) (Q:List V->Hp->Prop),Inv X Ac σ H s->t σ H Q->wpAny (model X.prog X.w) X.A (spliced (backTo pos (starEach es X.env))) (AP X Ac σ Q) X.xe s
def PS (X:Cx) (st:Stmt) (t:TS):Prop :=
 ∀ (Ac:List (Addr × Obj)) (s:Shared) (σ:St) (H:Hp) (D:Ends),Inv X Ac σ H s->t D σ H->wpAny (model X.prog X.w) X.A (exec st X.env) (SP X Ac D) X.xe s
def PSs (X:Cx) (st:List Stmt) (t:TS):Prop :=
 ∀ (Ac:List (Addr × Obj)) (s:Shared) (σ:St) (H:Hp) (D:Ends),Inv X Ac σ H s->t D σ H->wpAny (model X.prog X.w) X.A (execs st X.env) (SP X Ac D) X.xe s
theorem thn {α:Type}{t:Sem α}{Q Q':α->Shared->Prop}{M:Model}{A:Around}{E:Value->Shared->Prop}{s:Shared} (h:wpAny M A t Q E s) (hQ:∀ a s,Q a s->Q' a s):wpAny M A t Q' E s:=wpAny_mono h hQ fun _ _ x=>x
end L2
namespace L2
open PySem PySem.Spec PyProof.Rows
section
variable {X:Cx}
theorem bin {a b:Expr}{ta tb:TE} (ha:PE X a ta) (hb:PE X b tb) {Ac:List (Addr × Obj)}{s:Shared}{σ:St}{H:Hp}{R:V->V->Hp->Prop} (I:Inv X Ac σ H s) (h:ta σ H fun x H1=>tb σ H1 fun y H2=>R x y H2)
 {α:Type}{Q:α->Shared->Prop}{f:Value->Value->Sem α}
 (hf:∀ v u s2 x y H2,Inv X Ac σ H2 s2->RelV x v->RelV y u->R x y H2->wpAny (model X.prog X.w) X.A (f v u) Q X.xe s2) :
 wpAny (model X.prog X.w) X.A (eval a X.env) (fun v s₁=>wpAny (model X.prog X.w) X.A (eval b X.env) (fun u s₂=>wpAny (model X.prog X.w) X.A (f v u) Q X.xe s₂) X.xe s₁) X.xe s:=by
 refine thn (ha Ac s σ H _ I h) fun v s1 ⟨x,H1,I1,r1,q1⟩=>?_
 refine thn (hb Ac s1 σ H1 _ I1 q1) fun u s2 ⟨y,H2,I2,r2,q2⟩=>?_
 exact hf v u s2 x y H2 I2 r1 r2 q2
def tVar (i:Nat):TE:=fun σ H Q=>∃ v,σ[i]?=some (some v)/\Q v H
def tC (v:V):TE:=fun _ H Q=>Q v H
theorem A24 {i:Nat}{x:Str}{pos:Pos} (hN:X.N[i]?=some x) (hv:Vis X.env.scope x) (hd:(x==("__debug__":Str))=false:=by decide) (hcd:(x==("__classdict__":Str))=false:=by decide):PE X (.Name x pos) (tVar i):=by
 intro Ac s σ H Q I h
 obtain⟨v,e,h⟩:=h
 obtain⟨m,hn,hl⟩:=I.loc
 obtain⟨u,r,l⟩:=hl i x v hN e hv
 have fin:EP X Ac σ Q u s:=⟨v,H,I,r,h⟩
 rcases l with ⟨hk,hm⟩|⟨hk,c,hc,hcell⟩
 . exact wpAny_Name (wpAny_loadName_local I.ok.kind hk hn hm fin) hd
 . rcases hk with hk | hk
   . exact wpAny_Name (wpAny_loadName_cell I.ok.kind hk hc hcell fin) hd
   . exact wpAny_Name (wpAny_loadName_free I.ok.kind hk hc hcell fin hcd) hd
theorem Am {i j pos}:PE X (.Constant (.int i) j pos) (tC (.int i)):=fun _ _ _ H _ I h=>wpAny_Constant_int ⟨.int i,H,I.tok _,⟨_,rfl⟩,h⟩
theorem Ao2 {b j pos}:PE X (.Constant (.bool b) j pos) (tC (.bl b)):=fun _ _ _ H _ I h=>Constant_bool ⟨.bl b,H,I,rfl,h⟩
theorem Sg {j pos}:PE X (.Constant .none j pos) (tC .non):=fun _ _ _ H _ I h=>Constant_none ⟨.non,H,I,rfl,h⟩
theorem Fk {x j pos}:PE X (.Constant (.str x) j pos) (tC (.str x)):=fun _ _ _ H _ I h=>Calls.Constant_str ⟨.str x,H,I.tok _,⟨_,rfl⟩,h⟩
def Gl (X:Cx) (x:Str):Prop:=X.env.kindOf x=some .globalImplicit
theorem T0 {E:Value->Shared->Prop}{Ac:List (Addr × Obj)}{s:Shared}{σ:St}{H:Hp}{x:Str}{u:Value}{pos:Pos}{Q:Value->Shared->Prop} (I:Inv X Ac σ H s) (hg:Gl X x) (hm:X.mg x=some u) (h:Q u s)
 (hd:(x==("__debug__":Str))=false:=by decide):wpAny (model X.prog X.w) X.A (eval (.Name x pos) X.env) Q E s :=
 Calls.Name_function_global I.ok.kind hg (Calls.loadGlobal_global (by rw [I.ok.glob];exact I.mod.glob.keeps I.bk) hm h) hd
theorem K8 {E:Value->Shared->Prop}{Ac:List (Addr × Obj)}{s:Shared}{σ:St}{H:Hp}{x:Str}{u:Value}{pos:Pos}{Q:Value->Shared->Prop} (I:Inv X Ac σ H s) (hg:Gl X x) (hm:X.mg x=none) (hv:bootBuiltins x=some u) (h:Q u s)
 (hn:x≠"__name__":=by decide) (hd:(x==("__debug__":Str))=false:=by decide):wpAny (model X.prog X.w) X.A (eval (.Name x pos) X.env) Q E s:=by
 obtain⟨mb,h1,h2⟩:=I.mod.blt
 exact Calls.Name_function_global I.ok.kind hg (Calls.loadGlobal_builtin (by rw [I.ok.glob];exact I.mod.glob.keeps I.bk) hm (by rw [I.ok.blt];exact h1.keeps I.bk) ((h2 x hn).trans hv) h) hd
theorem Ac0 {x:Str}{v:V}{u:Value}{pos:Pos} (hg:Gl X x) (hm:X.mg x=some u) (r:RelV v u) (hd:(x==("__debug__":Str))=false:=by decide):PE X (.Name x pos) (tC v) :=
 fun _ _ _ H _ I h=>T0 I hg hm ⟨v,H,I,r,h⟩ hd
theorem Hh {x:Str}{v:V}{u:Value}{pos:Pos} (hg:Gl X x) (hm:X.mg x=none) (hv:bootBuiltins x=some u) (r:RelV v u) (hn:x≠"__name__":=by decide) (hd:(x==("__debug__":Str))=false:=by decide):PE X (.Name x pos) (tC v) :=
 fun _ _ _ H _ I h=>K8 I hg hm hv ⟨v,H,I,r,h⟩ hn hd
variable {a b:Expr}{ta tb:TE}{pos:Pos}
def PC (X:Cx) (op:CmpOp) (a b:Expr) (t:TE):Prop :=
 ∀ (Ac:List (Addr × Obj)) (s:Shared) (σ:St) (H:Hp) (Q:VK),Inv X Ac σ H s->t σ H Q →
   wpAny (model X.prog X.w) X.A (eval a X.env) (fun v s₁=>wpAny (model X.prog X.w) X.A (eval b X.env) (fun u s₂=>wpAny (model X.prog X.w) X.A (compareOp op v u) (EP X Ac σ Q) X.xe s₂) X.xe s₁) X.xe s
theorem Ao9 (b:Expr) {op:CmpOp} (h:op≠.In) (h2:op≠.NotIn):behindInMarks op b=false:=by
 have e1:(op==CmpOp.In)=false:=by cases op<;>first | rfl | exact absurd rfl h
 have e2:(op==CmpOp.NotIn)=false:=by cases op<;>first | rfl | exact absurd rfl h2
 cases b<;>simp [behindInMarks,e1,e2]
def tB (t:TE):TT:=fun σ H Q=>t σ H fun x H1=>∃ c,x=.bl c/\Q c H1
theorem A98 {op:CmpOp}{t:TE} (h:PC X op a b t) (h1:behindInMarks op b=false:=by first | exact Ao9 _ (by decide) (by decide) | rfl):PT X (.Compare a [op] [b] pos) (tB t):=by
 intro Ac s σ H Q I hw
 refine wpAny_isTrue_Compare1 (thn (h Ac s σ H _ I hw) fun v s1 h1=>thn h1 fun u s2 h2=>thn h2 fun c s3 ⟨x,H1,I1,r1,q1⟩=>?_) h1
 obtain⟨d,rfl,q⟩:=q1
 cases r1
 exact wpAny_truthy_bool ⟨H1,I1,q⟩
theorem Kv {e:Expr}{t:TE} (h:PE X e t) (he:∀ whole,isTrue e X.env whole=(do let v ←whole;standAt e.pos;holding [v] (truthy v)):=by intro _;rfl):PT X e (tB t):=by
 intro Ac s σ H Q I hw
 refine isTrue_plain (thn (h Ac s σ H _ I hw) fun v s1 ⟨x,H1,I1,r1,q1⟩=>?_) (he _)
 obtain⟨d,rfl,q⟩:=q1
 cases r1
 exact wpAny_truthy_bool ⟨H1,I1,q⟩
variable {tA tB':TT}{rest:List Expr}
def tAnd (t u:TT):TT:=fun σ H Q=>t σ H fun c H1=>if c=true then u σ H1 Q else Q false H1
def tOr (t u:TT):TT:=fun σ H Q=>t σ H fun c H1=>if c=true then Q true H1 else u σ H1 Q
def tNot (t:TT):TT:=fun σ H Q=>t σ H fun c H1=>Q (!c) H1
theorem Av2 (ha:PT X a tA):PW X (.BoolOp .And [a] pos) tA:=by
 intro wh Ac s σ H Q I h
 refine isTrue_and (thn (ha Ac s σ H Q I h) fun c s1 e=>?_)
 cases c with
 | true=>exact isTrue_and_nil e
 | false=>exact e
theorem U9 (ha:PT X a tA):PW X (.BoolOp .Or [a] pos) tA:=by
 intro wh Ac s σ H Q I h
 refine isTrue_or (thn (ha Ac s σ H Q I h) fun c s1 e=>?_)
 cases c with
 | false=>exact isTrue_or_nil e
 | true=>exact e
theorem A20 (ha:PT X a tA) (hb:PW X (.BoolOp .And (b::rest) pos) tB'):PW X (.BoolOp .And (a::b::rest) pos) (tAnd tA tB'):=by
 intro wh Ac s σ H Q I h
 refine isTrue_and (thn (ha Ac s σ H _ I h) fun c s1 ⟨H1,I1,q1⟩=>?_)
 cases c with
 | true=>exact hb wh Ac s1 σ H1 Q I1 q1
 | false=>exact ⟨H1,I1,q1⟩
theorem Tl (ha:PT X a tA) (hb:PW X (.BoolOp .Or (b::rest) pos) tB'):PW X (.BoolOp .Or (a::b::rest) pos) (tOr tA tB'):=by
 intro wh Ac s σ H Q I h
 refine isTrue_or (thn (ha Ac s σ H _ I h) fun c s1 ⟨H1,I1,q1⟩=>?_)
 cases c with
 | true=>exact ⟨H1,I1,q1⟩
 | false=>exact hb wh Ac s1 σ H1 Q I1 q1
theorem Se (ha:PT X a tA):PT X (.UnaryOp .Not a pos) (tNot tA):=by
 intro Ac s σ H Q I h
 exact isTrue_not (ha Ac s σ H (fun c H1=>Q (!c) H1) I h)
def A73 (ta tb:TE):TE:=fun σ H Q=>ta σ H fun x H1=>∃ c,x=.bl c/\if c=true then tb σ H1 Q else Q (.bl false) H1
def A68 (ta:TE):TE:=fun σ H Q=>ta σ H fun x H1=>∃ c,x=.bl c/\Q (.bl (!c)) H1
theorem Zm {op}{t:TE} (h:PE X a t):PE X (.BoolOp op [a] pos) t:=fun Ac s σ H Q I hw=>BoolOp_one (h Ac s σ H Q I hw)
theorem Vf (ha:PE X a ta) (hb:PE X (.BoolOp .And (b::rest) pos) tb):PE X (.BoolOp .And (a::b::rest) pos) (A73 ta tb):=by
 intro Ac s σ H Q I h
 refine BoolOp_and (thn (ha Ac s σ H _ I h) fun v s1 ⟨x,H1,I1,r1,q1⟩=>?_)
 obtain⟨c,rfl,q1⟩:=q1
 cases r1
 refine wpAny_truthy_bool ?_
 cases c with
 | true=>exact hb Ac s1 σ H1 Q I1 q1
 | false=>exact ⟨.bl false,H1,I1,rfl,q1⟩
theorem As3 (ha:PE X a ta):PE X (.UnaryOp .Not a pos) (A68 ta):=by
 intro Ac s σ H Q I h
 refine UnaryOp_ (thn (ha Ac s σ H _ I h) fun v s1 ⟨x,H1,I1,r1,q1⟩=>?_)
 obtain⟨c,rfl,q1⟩:=q1
 cases r1
 exact not_of (wpAny_truthy_bool ⟨.bl (!c),H1,I1,rfl,q1⟩)
def tIf (t:TT) (ta tb:TE):TE:=fun σ H Q=>t σ H fun c H1=>if c=true then ta σ H1 Q else tb σ H1 Q
theorem Ao1 {c:Expr} (hc:PT X c tA) (ha:PE X a ta) (hb:PE X b tb):PE X (.IfExp c a b pos) (tIf tA ta tb):=by
 intro Ac s σ H Q I h
 refine wpAny_IfExp (thn (hc Ac s σ H _ I h) fun d s1 ⟨H1,I1,q1⟩=>?_)
 cases d with
 | true=>exact ha Ac s1 σ H1 Q I1 q1
 | false=>exact hb Ac s1 σ H1 Q I1 q1
end
end L2
namespace L2
open PySem PySem.Spec PyProof.Rows
def SqL (K:W.Frag) (H:Hp) (a:Addr) (xs:List V):Prop :=
 Rd H a (.lst xs) ∨
  ∃ (o:Obj) (its:Array Value) (n:Nat),K.lookup a=some o/\o.cls=.type "list"/\o.dict=none/\o.data=.seq its n/\its.size<=sizeLine/\Vals xs its.toList
def SqT (K:W.Frag) (H:Hp) (a:Addr) (xs:List V):Prop :=
 Rd H a (.tup xs) ∨
  ∃ (o:Obj) (its:Array Value) (n:Nat),K.lookup a=some o/\o.cls=.type "tuple"/\o.dict=none/\o.data=.seq its n/\its.size<=sizeLine/\Vals xs its.toList
def absV:Value->Option V
 | .none=>some .non
 | .bool b=>some (.bl b)
 | .int i _=>some (.int i)
 | .str x _=>some (.str x)
 | .bytes b _=>some (.byt b)
 | .float b _=>some (.flt b)
 | .ref a=>some (.ref a)
 | .type n=>some (.ty n)
 | _=>none
theorem RelV.abs {x:V}{u:Value} (r:RelV x u):absV u=some x:=by
 cases x with
 | non=>cases r;rfl
 | bl _=>cases r;rfl
 | int _=>obtain⟨t,rfl⟩:=r;rfl
 | str _=>obtain⟨t,rfl⟩:=r;rfl
 | byt _=>obtain⟨t,rfl⟩:=r;rfl
 | flt _=>obtain⟨t,rfl⟩:=r;rfl
 | ref _=>cases r;rfl
 | ty _=>cases r;rfl
theorem RelV.inj {x y:V}{u:Value} (r:RelV x u) (q:RelV y u):x=y:=Option.some.inj (r.abs.symm.trans q.abs)
theorem Vals.inj:∀{xs ys:List V}{us:List Value},Vals xs us->Vals ys us->xs=ys
 | _,_,_,.nil,.nil=>rfl
 | _,_,_,.cons r t,.cons r' t'=>by rw [r.inj r',Vals.inj t t']
section
variable {X:Cx}{Ac:List (Addr × Obj)}{σ:St}{H:Hp}{s:Shared}{a:Addr}{xs ys:List V}
theorem SqL.of {K:W.Frag} (h:H a=some (.lst xs)):SqL K H a xs:=.inl (.inl h)
theorem SqT.of {K:W.Frag} (h:H a=some (.tup xs)):SqT K H a xs:=.inl (.inl h)
theorem Inv.list (I:Inv X Ac σ H s) (h:SqL X.K H a xs):∃ its:List Value,Vals xs its/\PlainL s.heap a its.toArray/\xs.length<=sizeLine:=by
 rcases h with h|⟨o,its,n,hk,hc,hd,hs,hz,r⟩
 . obtain⟨z,its,n,r,e⟩:=h.ok I.hok
   exact ⟨its,r,⟨_,n,e,rfl,rfl,rfl⟩,z⟩
 . refine⟨its.toList,r,⟨o,n,I.kIn a o hk,hc,hd,by simpa using hs⟩,?_⟩
   have e:=r.length
   simp only [Array.length_toList] at e
   omega
theorem Inv.tuple (I:Inv X Ac σ H s) (h:SqT X.K H a xs):∃ its:List Value,Vals xs its/\IsTup s.heap a its.toArray/\xs.length<=sizeLine:=by
 rcases h with h|⟨o,its,n,hk,hc,_,hs,hz,r⟩
 . obtain⟨z,its,r,p⟩:=h.ok I.hok
   exact ⟨its,r,p.tup,z⟩
 . refine⟨its.toList,r,⟨o,I.kIn a o hk,hc,n,by simpa using hs⟩,?_⟩
   have e:=r.length
   simp only [Array.length_toList] at e
   omega
theorem Inv.list_inj (I:Inv X Ac σ H s) (h:SqL X.K H a xs) (h':SqL X.K H a ys):xs=ys:=by
 obtain⟨its,r,⟨o,n,e,_,_,d⟩,_⟩:=I.list h
 obtain⟨its',r',⟨o',n',e',_,_,d'⟩,_⟩:=I.list h'
 rw [e] at e';cases e'
 rw [d] at d'
 injection d' with d1 _
 have:its=its':=by simpa using congrArg Array.toList d1
 subst this
 exact r.inj r'
theorem Inv.tuple_inj (I:Inv X Ac σ H s) (h:SqT X.K H a xs) (h':SqT X.K H a ys):xs=ys:=by
 obtain⟨its,r,⟨o,e,_,n,d⟩,_⟩:=I.tuple h
 obtain⟨its',r',⟨o',e',_,n',d'⟩,_⟩:=I.tuple h'
 rw [e] at e';cases e'
 rw [d] at d'
 injection d' with d1 _
 have:its=its':=by simpa using congrArg Array.toList d1
 subst this
 exact r.inj r'
end
abbrev Cx.wish (X:Cx) (E:Value->Shared->Prop):Cx:={ X with xe:=E }
abbrev Cx.nox (X:Cx):Cx:=X.wish fun _ _=>False
theorem Cx.Ok.wish {X:Cx} (ok:X.Ok) (E:Value->Shared->Prop):(X.wish E).Ok :=
 ⟨ok.mod,ok.kind,ok.glob,ok.blt,ok.above,ok.inj,ok.has,ok.cab,ok.hd,ok.frames,ok.stk,ok.exf,ok.bs,ok.bsz,ok.noex,ok.exfs,ok.funs,ok.frf⟩
theorem Cx.Ok.unwish {X:Cx}{E:Value->Shared->Prop} (ok:(X.wish E).Ok):X.Ok :=
 ⟨ok.mod,ok.kind,ok.glob,ok.blt,ok.above,ok.inj,ok.has,ok.cab,ok.hd,ok.frames,ok.stk,ok.exf,ok.bs,ok.bsz,ok.noex,ok.exfs,ok.funs,ok.frf⟩
section
variable {X:Cx}{Ac:List (Addr × Obj)}{σ:St}{H:Hp}{s:Shared}{E:Value->Shared->Prop}
theorem Inv.wish (I:Inv X Ac σ H s) (E:Value->Shared->Prop):Inv (X.wish E) Ac σ H s:=⟨I.ok.wish E,I.os,I.bare,I.base,I.loc,I.cell,I.free,I.freeC,I.pin,I.hok,I.len⟩
theorem Inv.unwish (I:Inv (X.wish E) Ac σ H s):Inv X Ac σ H s:=⟨I.ok.unwish,I.os,I.bare,I.base,I.loc,I.cell,I.free,I.freeC,I.pin,I.hok,I.len⟩
theorem SP.unwish {D:Ends}{f:Flow}{s':Shared} (h:SP (X.wish E) Ac D f s'):SP X Ac D f s':=by
 cases f with
 | next=>obtain⟨σ',H',I,q⟩:=h;exact ⟨σ',H',I.unwish,q⟩
 | brk=>obtain⟨σ',H',I,q⟩:=h;exact ⟨σ',H',I.unwish,q⟩
 | cont=>obtain⟨σ',H',I,q⟩:=h;exact ⟨σ',H',I.unwish,q⟩
 | ret u=>obtain⟨v,σ',H',I,r,q⟩:=h;exact ⟨v,σ',H',I.unwish,r,q⟩
theorem PSs.nox {st:List Stmt}{t:TS} (h:PSs X.nox st t):PSs X st t:=fun Ac s σ H D I hw =>
 wpAny_mono (h Ac s σ H D (I.wish _) hw) (fun _ _ q=>q.unwish) fun _ _ z=>False.elim z
end
section
variable {X:Cx}{st:Stmt}{rest:List Stmt}{t u:TS}{e:Expr}{te:TE}{pos:Pos}
def A69:TS:=fun D σ H=>D.nx σ H
def tSeq (t u:TS):TS:=fun D σ H=>t { D with nx:=u D } σ H
theorem Bu:PSs X [] A69:=fun _ _ σ H _ I h=>wpAny_execs_nil ⟨σ,H,I,h⟩
theorem Af (h1:PS X st t) (h2:PSs X rest u):PSs X (st::rest) (tSeq t u):=by
 intro Ac s σ H D I h
 refine wpAny_execs_cons (thn (h1 Ac s σ H { D with nx:=u D } I h) fun f s1 q=>?_)
 cases f with
 | next =>
   obtain⟨σ',H',I',q⟩:=q
   exact h2 Ac s1 σ' H' D I' q
 | ret v=>exact q
 | brk=>exact q
 | cont=>exact q
theorem Al (h1:PS X st t):PSs X [st] t:=by
 intro Ac s σ H D I h
 refine wpAny_execs_cons (thn (h1 Ac s σ H D I h) fun f s1 q=>?_)
 cases f with
 | next=>exact wpAny_execs_nil q
 | ret v=>exact q
 | brk=>exact q
 | cont=>exact q
theorem Inv.quiet {Ac:List (Addr × Obj)}{σ:St}{H:Hp}{s:Shared} (I:Inv X Ac σ H s):interactive X.env=false:=by simp [interactive,I.ok.kind]
def A70 (te:TE):TS:=fun D σ H=>te σ H fun _ H1=>D.nx σ H1
theorem Bn (he:PE X e te) (hs:swapsWith e none pos.line X.env=pure false:=by rfl):PS X (.Expr e pos) (A70 te):=by
 intro Ac s σ H D I h
 exact wpAny_Expr_any (thn (he Ac s σ H _ I h) fun v s1 ⟨x,H1,I1,r1,q1⟩=>⟨σ,H1,I1,q1⟩) I.quiet hs
def tRet (te:TE):TS:=fun D σ H=>te σ H D.rt
theorem Bd (he:PE X e te):PS X (.Return (some e) pos) (tRet te):=by
 intro Ac s σ H D I h
 exact wpAny_Return_some (thn (he Ac s σ H _ I h) fun v s1 ⟨x,H1,I1,r1,q1⟩=>⟨x,σ,H1,I1,r1,q1⟩)
def tIfS (c:TT) (t u:TS):TS:=fun D σ H=>c σ H fun b H1=>if b=true then t D σ H1 else u D σ H1
theorem Dt {c:Expr}{a b:List Stmt}{tc:TT} (hc:PT X c tc) (ha:PSs X a t) (hb:PSs X b u):PS X (.If c a b pos) (tIfS tc t u):=by
 intro Ac s σ H D I h
 refine wpAny_If (thn (hc Ac s σ H _ I h) fun d s1 ⟨H1,I1,q1⟩=>?_)
 cases d with
 | true=>exact ha Ac s1 σ H1 D I1 q1
 | false=>exact hb Ac s1 σ H1 D I1 q1
def A14:TS:=fun _ _ _=>False
theorem An8:PS X st A14:=fun _ _ _ _ _ _ h=>h.elim
end
abbrev TG:=V->St->Hp->(St->Hp->Prop)->Prop
abbrev TGs:=List V->St->Hp->(St->Hp->Prop)->Prop
def PG (X:Cx) (target:Expr) (t:TG):Prop :=
 ∀ (Ac:List (Addr × Obj)) (s:Shared) (σ:St) (H:Hp) (v:V) (u:Value) (Q:St->Hp->Prop),Inv X Ac σ H s->RelV v u->t v σ H Q →
   wpAny (model X.prog X.w) X.A (assign target X.env u) (fun _ s'=>∃ σ' H',Inv X Ac σ' H' s'/\Q σ' H') X.xe s
def PGs (X:Cx) (ts:List Expr) (t:TGs):Prop :=
 ∀ (Ac:List (Addr × Obj)) (s:Shared) (σ:St) (H:Hp) (vs:List V) (us:List Value) (Q:St->Hp->Prop),Inv X Ac σ H s->Vals vs us->t vs σ H Q →
   wpAny (model X.prog X.w) X.A (assignInOrder ((assignEach ts X.env).map (·.2)) us) (fun _ s'=>∃ σ' H',Inv X Ac σ' H' s'/\Q σ' H') X.xe s
abbrev TSet:=V->V->V->Hp->(Hp->Prop)->Prop
def PSet (X:Cx) (t:TSet):Prop :=
 ∀ (Ac:List (Addr × Obj)) (s:Shared) (σ:St) (H:Hp) (o i v:V) (ov iv u:Value) (Q:Hp->Prop),Inv X Ac σ H s->RelV o ov->RelV i iv->RelV v u->t o i v H Q →
   wpAny (model X.prog X.w) X.A (setItem ov iv u) (fun _ s'=>∃ H',Inv X Ac σ H' s'/\Q H') X.xe s
section
variable {X:Cx}{pos:Pos}
def Ay8 (i:Nat):TG:=fun v σ H Q=>Q (σ.set i (some v)) H
theorem A3 {i:Nat}{x:Str} (hN:X.N.Nodup) (hi:X.N[i]?=some x) (hx:Loc X.env.scope x) (hf:X.fn x=true\/X.env.scope.names.lookup x=some .local:=by first | exact .inl rfl | exact .inr rfl | assumption):PG X (.Name x pos) (Ay8 i):=by
 intro Ac s σ H v u Q I r h
 exact wpAny_assign_Name (Zf I hN hi hx r (fun s' I'=>⟨_,H,I',h⟩) hf)
def gNil:TGs:=fun vs σ H Q=>vs=[]/\Q σ H
def A91 (t:TG) (u:TGs):TGs:=fun vs σ H Q=>∃ v r,vs=v::r/\t v σ H fun σ' H'=>u r σ' H' Q
theorem L8:PGs X [] gNil:=by
 intro Ac s σ H vs us Q I r h
 obtain⟨e,h⟩:=h
 subst e
 cases r
 exact assignInOrder_nil ⟨σ,H,I,h⟩
theorem C7 {e:Expr}{es:List Expr}{t:TG}{u:TGs} (h1:PG X e t) (h2:PGs X es u)
 (hs:(assignEach (e::es) X.env).map (·.2)=assign e X.env::(assignEach es X.env).map (·.2):=by rfl):PGs X (e::es) (A91 t u):=by
 intro Ac s σ H vs us Q I r h
 obtain⟨v,vr,e1,h⟩:=h
 subst e1
 cases r with
 | cons r rr =>
   rw [hs]
   refine assignInOrder_cons (thn (h1 Ac s σ H _ _ _ I r h) fun _ s1 ⟨σ1,H1,I1,q1⟩=>?_)
   exact h2 Ac s1 σ1 H1 _ _ Q I1 rr q1
def gTup (K:W.Frag) (n:Nat) (t:TGs):TG:=fun v σ H Q=>∃ a xs,v=.ref a/\SqT K H a xs/\xs.length=n/\t xs σ H Q
theorem A23 {es:List Expr}{k:Nat}{t:TGs}{n:Nat} (hc:X.calm=true) (h:PGs X es t)
 (hn:(assignEach es X.env).length=n:=by rfl) (hst:(assignEach es X.env).findIdx? (·.1)=none:=by rfl):PG X (.Tuple es k pos) (gTup X.K n t):=by
 intro Ac s σ H v u Q I r hw
 obtain⟨a,xs,e1,hq,hl,hw⟩:=hw
 subst e1
 cases r
 obtain⟨its,rv,ht,hz⟩:=I.tuple hq
 refine assign_Tuple_tuple (I.ok.hd hc) ht (by simp [hn,←hl,rv.length]) hst fun h' hx=>?_
 have I1:Inv X Ac σ H { s with heap:=h' }:=I.kept (t':=s.toks) fun b o e=>hx b o (Nat.ne_of_lt (Heap.lt_size e)) e
 exact h Ac _ σ H xs _ Q I1 (by simpa using rv) hw
def gSub (to ti:TE) (t:TSet):TG:=fun v σ H Q=>to σ H fun o H1=>ti σ H1 fun i H2=>t o i v H2 fun H3=>Q σ H3
theorem Fa {o i:Expr}{to ti:TE}{t:TSet} (ho:PE X o to) (hi:PE X i ti) (hs:PSet X t)
 (ha:∀ v,assign (.Subscript o i pos) X.env v=(do
   let ov ←holding [v] (eval o X.env)
   let iv ←holding [v,ov] (eval i X.env)
   standAt pos
   holding [v,ov,iv] (setItem ov iv v)
   release [v,ov,iv] []):=by intro _;rfl):PG X (.Subscript o i pos) (gSub to ti t):=by
 intro Ac s σ H v u Q I r h
 rw [ha]
 refine wpAny_bind (wpAny_holding (thn (ho Ac s σ H _ I h) fun ov s1 ⟨x,H1,I1,r1,q1⟩=>?_))
 refine wpAny_bind (wpAny_holding (thn (hi Ac s1 σ H1 _ I1 q1) fun iv s2 ⟨y,H2,I2,r2,q2⟩=>?_))
 refine wpAny_bind (wpAny_standAt (wpAny_bind (wpAny_holding (thn (hs Ac s2 σ H2 x y v ov iv u _ I2 r1 r2 r q2) fun _ s3 ⟨H3,I3,q3⟩=>?_))))
 exact wpAny_release ⟨σ,H3,I3,q3⟩
def tAsg (te:TE) (g:TG):TS:=fun D σ H=>te σ H fun x H1=>g x σ H1 D.nx
theorem E9 {tg e:Expr}{te:TE}{g:TG} (he:PE X e te) (hg:PG X tg g) (hs:swapsWithSole [tg] e pos.line X.env=pure false:=by rfl) (hw:swappedStores [tg] e X.env=pure none:=by rfl)
 (h1:(assignEach [tg] X.env).map (·.2)=[assign tg X.env]:=by rfl):PS X (.Assign [tg] e pos) (tAsg te g):=by
 intro Ac s σ H D I h
 refine wpAny_Assign_stores (thn (he Ac s σ H _ I h) fun v s1 ⟨x,H1,I1,r1,q1⟩=>?_) hs hw
 rw [h1]
 exact thn (hg Ac s1 σ H1 x v _ I1 r1 q1) fun _ s2 q=>q
theorem Av {i:Nat}{x:Str}{e:Expr}{te:TE}{pos':Pos} (hN:X.N.Nodup) (hi:X.N[i]?=some x) (hx:Loc X.env.scope x) (he:PE X e te) (hs:swapsWith e (some (.Name x pos')) pos.line X.env=pure false:=by rfl) (hf:X.fn x=true\/X.env.scope.names.lookup x=some .local:=by first | exact .inl rfl | exact .inr rfl | assumption) :
 PS X (.Assign [.Name x pos'] e pos) (tAsg te (Ay8 i)):=by
 intro Ac s σ H D I h
 refine wpAny_Assign_Name (thn (he Ac s σ H _ I h) fun v s1 ⟨y,H1,I1,r1,q1⟩=>?_) hs
 exact Zf I1 hN hi hx r1 (fun s2 I2=>⟨_,H1,I2,q1⟩) hf
end
section
variable {X:Cx}{pos:Pos}
def A13 (c:TT) (tb:TS):TS:=fun D σ H=>∃ W:Nat->St->Hp->Prop,(∃ m,W m σ H)/\∀ m σ H,W m σ H →
 c σ H fun b H1=>if b=true then ∃ N:St->Hp->Prop,(∀ σ' H',N σ' H'->∃ m',m'<m/\W m' σ' H')/\tb { D with nx:=N,ct:=N,bk:=D.nx } σ H1 else D.nx σ H1
theorem Oj {c:Expr}{body:List Stmt}{tc:TT}{tb:TS} (hp:PassesOwn (model X.prog X.w) X.A X.env X.xe) (hc:PT X c tc) (hb:PSs X body tb):PS X (.While c body [] pos) (A13 tc tb):=by
 intro Ac s σ H D I h
 obtain⟨W,⟨m0,w0⟩,turn⟩:=h
 refine wpAny_While (codeAny_whileLoop (fun n s'=>∃ σ' H',Inv X Ac σ' H' s'/\W n σ' H') ?_ m0 ⟨σ,H,I,w0⟩)
 rintro n s1 ⟨σ1,H1,I1,w1⟩
 refine wpAny_passesOwn hp (thn (hc Ac s1 σ1 H1 _ I1 (turn n σ1 H1 w1)) fun b s2 ⟨H2,I2,q2⟩=>?_)
 cases b with
 | true =>
   obtain⟨N,hN,q2⟩:=q2
   rw [if_pos rfl]
   refine wpAny_passesOwn hp (thn (hb Ac s2 σ1 H2 _ I2 q2) fun f s3 q3=>?_)
   cases f with
   | next =>
     obtain⟨σ3,H3,I3,n3⟩:=q3
     obtain⟨m',hm,w3⟩:=hN σ3 H3 n3
     exact ⟨m',hm,σ3,H3,I3,w3⟩
   | cont =>
     obtain⟨σ3,H3,I3,n3⟩:=q3
     obtain⟨m',hm,w3⟩:=hN σ3 H3 n3
     exact ⟨m',hm,σ3,H3,I3,w3⟩
   | brk=>exact q3
   | ret v=>exact q3
 | false =>
   rw [if_neg Bool.false_ne_true]
   exact wpAny_execs_nil ⟨σ1,H2,I2,q2⟩
end
structure It where
 go:Nat->Hp->Prop
 yld:Nat->Hp->V->Hp->Prop
 stop:Nat->Hp->Prop
def FpOk (X:Cx) (Ac:List (Addr × Obj)) (H:Hp) (b:Addr):Prop :=
 H b=none/\b≠X.env.locals/\b ∉ X.fs/\(b∈X.ex\/X.s₀.heap.objs.size<=b)/\(∀ x c,X.env.cells.lookup x=some c->c≠b)/\∀ p∈X.pn++Ac,p.1≠b
theorem Inv.fpOk {X:Cx}{Ac:List (Addr × Obj)}{σ:St}{H H':Hp}{s:Shared}{b:Addr} (I:Inv X Ac σ H s) (hb:s.heap.objs.size<=b) (hn:H' b=none):FpOk X Ac H' b:=by
 refine⟨hn,Nat.ne_of_gt (Nat.lt_of_lt_of_le I.lt hb),I.nofs hb,.inr (Nat.le_trans I.sz hb),fun x c e z=>?_,fun p hp z=>?_⟩
 . obtain⟨v,q⟩:=I.cell x c e
   exact absurd (Nat.lt_of_lt_of_le q.lt (by rw [z];exact hb)) (Nat.lt_irrefl _)
 . exact absurd (Nat.lt_of_lt_of_le (Heap.lt_size (I.pin p hp).1) (by rw [z];exact hb)) (Nat.lt_irrefl _)
structure Turn (P:Program) (w:World) (K:W.Frag) (tg:Expr) (J:It) (fp:List Addr) (it:Addr) (tn:Nat->Heap->Prop):Prop where
 mem:it∈fp
 obj:∀ i h,tn i h->∀ b∈fp,∃ o,h.get? b=some o/\∀ v,o.data≠.cell v
 keep:∀ i h h',tn i h->(∀ b∈fp,∀ o,h.get? b=some o->h'.get? b=some o)->tn i h'
 item:∀ (X:Cx),X.prog=P->X.w=w->X.K=K->X.calm=true->∀ (i:Nat) (Ac:List (Addr × Obj)) (s:Shared) (σ:St) (H:Hp) (E:Value->Shared->Prop),Inv X Ac σ H s->(∀ b∈fp,FpOk X Ac H b)->tn i s.heap->J.go i H →
  wpAny (model P w) X.A (pyNext (.ref it)) (fun r s1=>∃ u,r=some u ∧
   wpAny (model P w) X.A (letOwnedTupleGo tg (.ref it) u) (fun _ s2=>∃ x H',Inv X Ac σ H' s2/\RelV x u/\J.yld i H x H'/\tn (i+1) s2.heap/\∀ b∈fp,H' b=none) E s1) E s
 done:∀ (X:Cx),X.prog=P->X.w=w->X.K=K->X.calm=true->∀ (i:Nat) (Ac:List (Addr × Obj)) (s:Shared) (σ:St) (H:Hp) (E:Value->Shared->Prop),Inv X Ac σ H s->(∀ b∈fp,FpOk X Ac H b)->tn i s.heap->J.stop i H →
  wpAny (model P w) X.A (pyNext (.ref it)) (fun r s1=>r=none/\Inv X Ac σ H s1) E s
 self:∀ (A:Around) (i:Nat) (s:Shared) (Q:Value->Shared->Prop) (E:Value->Shared->Prop),tn i s.heap->Q (.ref it) s->wpAny (model P w) A (pyIter (.ref it)) Q E s
abbrev TI:=St->Hp->(It->Hp->Prop)->Prop
def PIE (X:Cx) (Ac:List (Addr × Obj)) (σ:St) (tg:Expr) (R:It->Hp->Prop) (itv:Value) (s2:Shared):Prop :=
 ∃ (it:Addr) (fp:List Addr) (tn:Nat->Heap->Prop) (J:It) (H':Hp),itv=.ref it/\Inv X Ac σ H' s2/\Turn X.prog X.w X.K tg J fp it tn/\tn 0 s2.heap/\(∀ b∈fp,FpOk X Ac H' b)/\R J H'
def PI (X:Cx) (tg iter:Expr) (wi:TI):Prop :=
 ∀ (Ac:List (Addr × Obj)) (s:Shared) (σ:St) (H:Hp) (R:It->Hp->Prop),Inv X Ac σ H s->wi σ H R →
   wpAny (model X.prog X.w) X.A (eval iter X.env) (fun v s1=>wpAny (model X.prog X.w) X.A (pyIter v) (PIE X Ac σ tg R) X.xe s1) X.xe s
theorem Ap9 {M:Model}{A:Around}{E:Value->Shared->Prop}{s:Shared}{tg:Expr}{it:Addr}{u:Value}{o:Obj}{n:String}{vs:Array Value}{Q:Unit->Shared->Prop} (ho:s.heap.get? it=some o) (hc:o.cls=.type n) (hd:o.data=.fields vs)
 (hn:["enumerate","zip","dict_itemiterator","dict_reverseitemiterator","odict_iterator","itertools.zip_longest","itertools.pairwise"].contains n=false) (hQ:Q () s):wpAny M A (letOwnedTupleGo tg (.ref it) u) Q E s:=by
 unfold letOwnedTupleGo
 cases tg<;>first
  | exact wpAny_pure hQ
  | (cases u<;>first
      | exact wpAny_pure hQ
      | (refine wpAny_bind (wpAny_load ho ?_)
         rw [hc,hd]
         show wpAny M A (if (["enumerate","zip","dict_itemiterator","dict_reverseitemiterator","odict_iterator","itertools.zip_longest","itertools.pairwise"].contains n&&vs[0]?==some (rawInt _))=true then _ else _) Q E s
         rw [if_neg (by intro h;rw [hn,Bool.false_and] at h;cases h)]
         exact wpAny_pure hQ))
def Itl (K:W.Frag) (a:Addr):It :=
 ⟨fun i H=>∃ xs x,SqL K H a xs/\xs[i]?=some x,fun i H x H'=>H'=H/\∀ xs,SqL K H a xs->xs[i]?=some x,fun i H=>∃ xs,SqL K H a xs/\xs.length<=i⟩
def Itt (K:W.Frag) (a:Addr):It :=
 ⟨fun i H=>∃ xs x,SqT K H a xs/\xs[i]?=some x,fun i H x H'=>H'=H/\∀ xs,SqT K H a xs->xs[i]?=some x,fun i H=>∃ xs,SqT K H a xs/\xs.length<=i⟩
def Itr (lo:Int) (n:Nat):It:=⟨fun i _=>i<n,fun i H x H'=>H'=H/\x=.int (lo+i),fun i _=>n<=i⟩
theorem v6 {P:Program}{w:World}{K:W.Frag}{tg:Expr} (a it:Addr):Turn P w K tg (Itl K a) [it] it (fun i h=>h.IsListIter it a i) where
 mem:=by simp
 obj:=fun i h st b hb=>by
  have e:b=it:=by simpa using hb
  subst e
  obtain⟨o,e,c,d⟩:=st
  exact ⟨o,e,fun v z=>by rw [d] at z;cases z⟩
 keep:=fun i h h' st k=>st.at fun o e=>k it (by simp) o e
 item:=by
  intro X hP hw hK hc i Ac s σ H E I hf st hg
  subst hP hw hK
  obtain⟨xs,x,hq,hx⟩:=hg
  obtain⟨its,rv,p,hz⟩:=I.list hq
  obtain⟨u,hu,ru⟩:=rv.get hx
  obtain⟨f0,f1,f2,f3,f4,f5⟩:=hf it (by simp)
  refine wpAny_pyNext_list_item st p.isList (x:=u) (by simpa using hu) fun h' st' sb=>?_
  have I1:Inv X Ac σ H { s with heap:=h' }:=I.turned (t':=s.toks) (fun b o hb e=>(sb.2 b hb).trans e) f0 f1 f3 f4 f5
  obtain⟨o,e,c,d⟩:=id st'
  exact ⟨u,rfl,Ap9 (s:={ s with heap:=h' }) e c d (by decide) ⟨x,H,I1,ru,⟨rfl,fun ys hy=>by rw [I.list_inj hy hq];exact hx⟩,st',fun b hb=>(hf b hb).1⟩⟩
 done:=by
  intro X hP hw hK hc i Ac s σ H E I hf st hg
  subst hP hw hK
  obtain⟨xs,hq,hx⟩:=hg
  obtain⟨its,rv,p,hz⟩:=I.list hq
  obtain⟨f0,f1,f2,f3,f4,f5⟩:=hf it (by simp)
  have hl:=rv.length
  exact wpAny_pyNext_list_end (I.ok.hd hc) st p.isList (by simp;omega) fun h' eb=>⟨rfl,I.turned (t':=s.toks) (fun b o hb e=>eb b o hb e) f0 f1 f3 f4 f5⟩
 self:=fun _ _ _ _ _ st h=>wpAny_pyIter_listiter st h
theorem Z9 {P:Program}{w:World}{K:W.Frag}{tg:Expr} (a it:Addr):Turn P w K tg (Itt K a) [it] it (fun i h=>h.IsTupleIter it a i) where
 mem:=by simp
 obj:=fun i h st b hb=>by
  have e:b=it:=by simpa using hb
  subst e
  obtain⟨o,e,c,d⟩:=st
  exact ⟨o,e,fun v z=>by rw [d] at z;cases z⟩
 keep:=fun i h h' st k=>st.at fun o e=>k it (by simp) o e
 item:=by
  intro X hP hw hK hc i Ac s σ H E I hf st hg
  subst hP hw hK
  obtain⟨xs,x,hq,hx⟩:=hg
  obtain⟨its,rv,p,hz⟩:=I.tuple hq
  obtain⟨u,hu,ru⟩:=rv.get hx
  obtain⟨f0,f1,f2,f3,f4,f5⟩:=hf it (by simp)
  refine wpAny_pyNext_tuple_item st (show s.heap.IsTuple a its.toArray from p) (x:=u) (by simpa using hu) fun h' st' sb=>?_
  have I1:Inv X Ac σ H { s with heap:=h' }:=I.turned (t':=s.toks) (fun b o hb e=>(sb.2 b hb).trans e) f0 f1 f3 f4 f5
  obtain⟨o,e,c,d⟩:=id st'
  exact ⟨u,rfl,Ap9 (s:={ s with heap:=h' }) e c d (by decide) ⟨x,H,I1,ru,⟨rfl,fun ys hy=>by rw [I.tuple_inj hy hq];exact hx⟩,st',fun b hb=>(hf b hb).1⟩⟩
 done:=by
  intro X hP hw hK hc i Ac s σ H E I hf st hg
  subst hP hw hK
  obtain⟨xs,hq,hx⟩:=hg
  obtain⟨its,rv,p,hz⟩:=I.tuple hq
  obtain⟨f0,f1,f2,f3,f4,f5⟩:=hf it (by simp)
  have hl:=rv.length
  exact wpAny_pyNext_tuple_end (I.ok.hd hc) st (show s.heap.IsTuple a its.toArray from p) (by simp;omega) fun h' eb=>⟨rfl,I.turned (t':=s.toks) (fun b o hb e=>eb b o hb e) f0 f1 f3 f4 f5⟩
 self:=fun _ _ _ _ _ st h=>wpAny_pyIter_tupleiter st h
theorem a8 {P:Program}{w:World}{K:W.Frag}{tg:Expr} (it:Addr) (lo:Int) (n:Nat):Turn P w K tg (Itr lo n) [it] it (fun i h=>IsRangeIter h it (lo+(i:Nat)*1) ((n:Int)-(i:Nat)) 1) where
 mem:=by simp
 obj:=fun i h st b hb=>by
  have e:b=it:=by simpa using hb
  subst e
  exact ⟨_,st,fun v z=>by
   have z':Data.fields _=Data.cell v:=z
   cases z'⟩
 keep:=fun i h h' st k=>k it (by simp) _ st
 item:=by
  intro X hP hw hK hc i Ac s σ H E I hf st hg
  subst hP hw hK
  obtain⟨f0,f1,f2,f3,f4,f5⟩:=hf it (by simp)
  have W:=Walks.range (prog:=X.prog) (w:=X.w) (I.ok.hd hc) it lo 1 n
  refine W.item i s _ _ hg st fun v h' tk hv st' kk=>?_
  obtain⟨t,rfl⟩:=hv
  have I1:Inv X Ac σ H { s with heap:=h',toks:=tk }:=I.turned (fun b o hb e=>kk b o (by simpa using hb) e) f0 f1 f3 f4 f5
  refine⟨_,rfl,Ap9 (s:={ s with heap:=h',toks:=tk }) (n:="range_iterator") st' rfl rfl (by decide) ⟨.int (lo+i),H,I1,⟨t,?_⟩,⟨rfl,rfl⟩,st',fun b hb=>(hf b hb).1⟩⟩
  rw [Int.mul_one]
 done:=by
  intro X hP hw hK hc i Ac s σ H E I hf st hg
  subst hP hw hK
  obtain⟨f0,f1,f2,f3,f4,f5⟩:=hf it (by simp)
  exact wpAny_pyNext_range_end (I.ok.hd hc) st (by have:n<=i:=hg;omega) fun h' eb=>⟨rfl,I.turned (t':=s.toks) (fun b o hb e=>eb b o hb e) f0 f1 f3 f4 f5⟩
 self:=fun _ _ _ _ _ st h=>wpAny_pyIter_rangeiter st h
end L2
namespace L2
open PySem PySem.Spec PyProof.Rows
section
variable {X:Cx}{tg:Expr}
def A51 (K:W.Frag) (tl:TE):TI:=fun σ H R=>tl σ H fun x H1=>∃ a,x=.ref a/\(∃ xs,SqL K H1 a xs)/\R (Itl K a) H1
def iTup (K:W.Frag) (tl:TE):TI:=fun σ H R=>tl σ H fun x H1=>∃ a,x=.ref a/\(∃ xs,SqT K H1 a xs)/\R (Itt K a) H1
theorem Av8 {l:Expr}{tl:TE} (hl:PE X l tl):PI X tg l (A51 X.K tl):=by
 intro Ac s σ H R I h
 refine thn (hl Ac s σ H _ I h) fun v s1 ⟨x,H1,I1,r1,q1⟩=>?_
 obtain⟨a,e,⟨xs,hq⟩,q⟩:=q1
 subst e
 cases r1
 obtain⟨its,rv,p,hz⟩:=I1.list hq
 refine wpAny_pyIter_list p.isList ?_
 refine⟨s1.heap.objs.size,[s1.heap.objs.size],_,_,H1,rfl,I1.kept (t':=s1.toks) fun b o e=>Heap.get?_push_of_some _ e,v6 a _,⟨_,Heap.get?_push_size _ rfl,rfl,rfl⟩,fun b hb=>?_,q⟩
 have e:b=s1.heap.objs.size:=by simpa using hb
 subst e
 exact I1.fpOk (Nat.le_refl _) (I1.hok.fresh (Nat.le_refl _))
theorem A22 {l:Expr}{tl:TE} (hl:PE X l tl):PI X tg l (iTup X.K tl):=by
 intro Ac s σ H R I h
 refine thn (hl Ac s σ H _ I h) fun v s1 ⟨x,H1,I1,r1,q1⟩=>?_
 obtain⟨a,e,⟨xs,hq⟩,q⟩:=q1
 subst e
 cases r1
 obtain⟨its,rv,p,hz⟩:=I1.tuple hq
 refine wpAny_pyIter_tuple (show s1.heap.IsTuple a its.toArray from p) ?_
 refine⟨s1.heap.objs.size,[s1.heap.objs.size],_,_,H1,rfl,I1.kept (t':=s1.toks) fun b o e=>Heap.get?_push_of_some _ e,Z9 a _,⟨_,Heap.get?_push_size _ rfl,rfl,rfl⟩,fun b hb=>?_,q⟩
 have e:b=s1.heap.objs.size:=by simpa using hb
 subst e
 exact I1.fpOk (Nat.le_refl _) (I1.hok.fresh (Nat.le_refl _))
theorem Zk {Ac:List (Addr × Obj)}{σ:St}{H:Hp}{s:Shared}{R:It->Hp->Prop}{E:Value->Shared->Prop}{lo hi:Int}{t u v:Tok}{tk:Nat} (I:Inv X Ac σ H s) (h1:-(2 ^ 62)<=lo) (h2:lo<2 ^ 62) (h3:-(2 ^ 62)<=hi) (h4:hi<2 ^ 62)
 (q:R (Itr lo (hi-lo).toNat) H):wpAny (model X.prog X.w) X.A (pyIter (.ref s.heap.objs.size)) (PIE X Ac σ tg R) E { s with heap:=s.heap.push { cls:=.type "range",data:=.fields #[.int lo t,.int hi u,.int 1 v] },toks:=tk }:=by
 refine wpAny_pyIter_range (IsRange.new ..) (small_one h1 h2 h3 h4) ?_
 have I1:Inv X Ac σ H { s with heap:=s.heap.push { cls:=.type "range",data:=.fields #[.int lo t,.int hi u,.int 1 v] },toks:=tk }:=I.kept fun b o e=>Heap.get?_push_of_some _ e
 refine⟨(s.heap.push { cls:=.type "range",data:=.fields #[.int lo t,.int hi u,.int 1 v] }).objs.size,[(s.heap.push { cls:=.type "range",data:=.fields #[.int lo t,.int hi u,.int 1 v] }).objs.size],_,_,H,rfl,
  I1.kept (t':=tk) fun b o e=>Heap.get?_push_of_some _ e,a8 _ lo (hi-lo).toNat,?_,fun b hb=>?_,q⟩
 . have e1:lo+((0:Nat):Int)*1=lo:=by simp
   have e2:(((hi-lo).toNat:Nat):Int)-((0:Nat):Int)=Builtin.Range.rangeSize lo hi 1:=by rw [rangeSize_one];split<;>omega
   show IsRangeIter _ _ (lo+((0:Nat):Int)*1) ((((hi-lo).toNat:Nat):Int)-((0:Nat):Int)) 1
   rw [e1,e2]
   exact Heap.get?_push_size _ rfl
 . have e:b=(s.heap.push { cls:=.type "range",data:=.fields #[.int lo t,.int hi u,.int 1 v] }).objs.size:=by simpa using hb
   subst e
   exact I1.fpOk (Nat.le_refl _) (I1.hok.fresh (Nat.le_refl _))
def A88 (ta:TA):TI:=fun σ H R=>ta σ H fun vs H1=>∃ j:Int,vs=[.int j]/\-(2 ^ 62)<=j/\j<2 ^ 62/\R (Itr 0 j.toNat) H1
def A87 (ta:TA):TI:=fun σ H R=>ta σ H fun vs H1=>∃ i j:Int,vs=[.int i,.int j]/\(-(2 ^ 62)<=i/\i<2 ^ 62/\-(2 ^ 62)<=j/\j<2 ^ 62)/\R (Itr i (j-i).toNat) H1
theorem C0 {a:Expr}{ta:TA}{p pos:Pos} (hg:Gl X "range") (hm:X.mg "range"=none) (ha:PA X [a] ta) (hs:starEach [a] X.env=[(false,eval a X.env)]:=by rfl):PI X tg (.Call (.Name "range" p) [a] [] pos) (A88 ta):=by
 intro Ac s σ H R I h
 refine Call_ (K8 I hg hm boot_range (PyProof.Rows.callWith_type1 (thn (ha pos Ac s σ H _ I h) fun us s1 ⟨vs,H1,I1,r1,q1⟩=>?_) hs rfl))
 obtain⟨j,e,q1,q2,q⟩:=q1
 subst e
 cases r1 with
 | cons r rr =>
   cases rr
   obtain⟨t,rfl⟩:=r
   exact call_range_1 (Zk I1 (by omega) (by omega) q1 q2 (by simpa using q))
theorem Ve {a b:Expr}{ta:TA}{p pos:Pos} (hg:Gl X "range") (hm:X.mg "range"=none) (ha:PA X [a,b] ta) (hs:starEach [a,b] X.env=[(false,eval a X.env),(false,eval b X.env)]:=by rfl) (hs2:starEach [b] X.env=[(false,eval b X.env)]:=by rfl) :
 PI X tg (.Call (.Name "range" p) [a,b] [] pos) (A87 ta):=by
 intro Ac s σ H R I h
 refine Call_ (K8 I hg hm boot_range (PyProof.Rows.callWith_type1 (thn (ha pos Ac s σ H _ I h) fun us s1 ⟨vs,H1,I1,r1,q1⟩=>?_) (by rw [hs,hs2]) (by rw [hs2];rfl)))
 obtain⟨i,j,e,⟨q1,q2,q3,q4⟩,q⟩:=q1
 subst e
 cases r1 with
 | cons r rr =>
   cases rr with
   | cons r' rr =>
     cases rr
     obtain⟨t,rfl⟩:=r
     obtain⟨t',rfl⟩:=r'
     exact call_range_2 (Zk I1 q1 q2 q3 q4 q)
def tFor (wi:TI) (g:TG) (tb:TS):TS:=fun D σ H=>wi σ H fun J H1=>∃ W:Nat->Nat->St->Hp->Prop,(∃ m,W 0 m σ H1)/\∀ i m σ H,W i m σ H →
 (J.stop i H/\D.nx σ H)\/(J.go i H/\∃ N:St->Hp->Prop,(∀ σ' H',N σ' H'->∃ m',m'<m/\W (i+1) m' σ' H')/\∀ x H',J.yld i H x H'->g x σ H' fun σ2 H2=>tb { D with nx:=N,ct:=N,bk:=D.nx } σ2 H2)
def Vd (fp:List Addr) (h:Heap):List (Addr × Obj):=fp.filterMap fun b=>(h.get? b).map fun o=>(b,o)
theorem Ig {fp:List Addr}{h:Heap}{b:Addr}{o:Obj} (hb:b∈fp) (e:h.get? b=some o):(b,o)∈Vd fp h:=List.mem_filterMap.mpr ⟨b,hb,by rw [e];rfl⟩
theorem Ac9 {fp:List Addr}{h:Heap}{p:Addr × Obj} (hp:p∈Vd fp h):p.1∈fp/\h.get? p.1=some p.2:=by
 obtain⟨b,hb,e⟩:=List.mem_filterMap.mp hp
 cases q:h.get? b with
 | none=>rw [q] at e;cases e
 | some o =>
   rw [q] at e
   have e':(b,o)=p:=Option.some.inj e
   subst e'
   exact ⟨hb,q⟩
theorem Inv.pinned {Ac:List (Addr × Obj)}{σ:St}{H:Hp}{s:Shared}{fp:List Addr} (I:Inv X Ac σ H s) (hf:∀ b∈fp,FpOk X Ac H b) (ho:∀ b∈fp,∃ o,s.heap.get? b=some o/\∀ v,o.data≠.cell v):Inv X (Ac++Vd fp s.heap) σ H s :=
 I.pins_of fun p hp=>(List.mem_append.mp hp).elim (fun z=>I.pin p (List.mem_append_right _ z)) fun z=>by
  obtain⟨hb,e⟩:=Ac9 z
  obtain⟨f0,f1,f2,_⟩:=hf p.1 hb
  obtain⟨o,e',d⟩:=ho p.1 hb
  rw [e] at e';cases e'
  exact ⟨e,f0,f1,f2,d⟩
theorem Inv.unpinned {Ac pl:List (Addr × Obj)}{σ:St}{H:Hp}{s:Shared} (I:Inv X (Ac++pl) σ H s):Inv X Ac σ H s:=I.pins_of fun p hp=>I.pin p (List.mem_append_right _ (List.mem_append_left _ hp))
theorem Fj {iter:Expr}{body:List Stmt}{wi:TI}{g:TG}{tb:TS}{pos:Pos} (hp:PassesOwn (model X.prog X.w) X.A X.env X.xe) (hc:X.calm=true) (hi:PI X tg iter wi) (hg:PG X tg g) (hb:PSs X body tb)
 (hs:∀ x,foldedSetIterable iter X.env x=pure x:=by intro _;rfl):PS X (.For tg iter body [] pos) (tFor wi g tb):=by
 intro Ac s σ H D I h
 refine wpAny_For (thn (hi Ac s σ H _ I h) fun v s1 h1=>thn h1 fun itv s2 h2=>?_) hs
 obtain⟨it,fp,tn,J,H2,e,I2,T,st2,f2,W,⟨m0,w0⟩,turn⟩:=h2
 subst e
 have stat:∀{H':Hp},(∀ b∈fp,H' b=none)->∀ b∈fp,FpOk X Ac H' b:=fun hn b hb=>⟨hn b hb,(f2 b hb).2⟩
 refine codeAny_forLoop_any (fun n s'=>∃ i σ' H',Inv X Ac σ' H' s'/\tn i s'.heap/\(∀ b∈fp,H' b=none)/\W i n σ' H') ?_ m0 ⟨0,σ,H2,I2,st2,fun b hb=>(f2 b hb).1,w0⟩
 rintro n s3 ⟨i,σ3,H3,I3,st3,fr3,w3⟩
 rcases turn i n σ3 H3 w3 with ⟨stop,qn⟩|⟨go,N,hN,step⟩
 . refine wpAny_passesOwn hp (thn (T.done X rfl rfl rfl hc i Ac s3 σ3 H3 X.xe I3 (stat fr3) st3 stop) fun r s4 ⟨hr,I4⟩=>?_)
   subst hr
   exact wpAny_execs_nil ⟨σ3,H3,I4,qn⟩
 . refine wpAny_passesOwn hp (thn (T.item X rfl rfl rfl hc i Ac s3 σ3 H3 X.xe I3 (stat fr3) st3 go) fun r s4 ⟨u,hr,h4⟩=>?_)
   subst hr
   refine wpAny_passesOwn hp (thn h4 fun _ s5 ⟨x,H5,I5,r5,y5,st5,fr5⟩=>?_)
   have I5':=I5.pinned (stat fr5) (T.obj _ _ st5)
   refine wpAny_passesOwn hp (thn (hg _ s5 σ3 H5 x u _ I5' r5 (step x H5 y5)) fun _ s6 ⟨σ6,H6,I6,q6⟩=>?_)
   refine wpAny_passesOwn hp (thn (hb _ s6 σ6 H6 _ I6 q6) fun f s7 q7=>?_)
   have again:∀{σ7:St}{H7:Hp},Inv X (Ac++Vd fp s5.heap) σ7 H7 s7->N σ7 H7->∃ m,m<n/\∃ i σ' H',Inv X Ac σ' H' s7/\tn i s7.heap/\(∀ b∈fp,H' b=none)/\W i m σ' H':=fun {σ7 H7} I7 n7=>by
    obtain⟨m',hm,w7⟩:=hN σ7 H7 n7
    refine⟨m',hm,i+1,σ7,H7,I7.unpinned,T.keep _ _ _ st5 fun b hb o e=>(I7.pin (b,o) (List.mem_append_right _ (List.mem_append_right _ (Ig hb e)))).1,fun b hb=>?_,w7⟩
    obtain⟨o,e,d⟩:=T.obj _ _ st5 b hb
    exact (I7.pin (b,o) (List.mem_append_right _ (List.mem_append_right _ (Ig hb e)))).2.1
   cases f with
   | next=>obtain⟨σ7,H7,I7,n7⟩:=q7;exact again I7 n7
   | cont=>obtain⟨σ7,H7,I7,n7⟩:=q7;exact again I7 n7
   | brk=>obtain⟨σ7,H7,I7,q7⟩:=q7;exact ⟨σ7,H7,I7.unpinned,q7⟩
   | ret v=>obtain⟨x7,σ7,H7,I7,r7,q7⟩:=q7;exact ⟨x7,σ7,H7,I7.unpinned,r7,q7⟩
end
theorem for_list {K:W.Frag}{a:Addr}{xs:List V}{g:TG}{tb:TS}{D:Ends}{σ:St}{H:Hp} (Pv:Nat->St->Hp->Prop) (h0:Pv 0 σ H) (hl:∀ i σ H,i<=xs.length->Pv i σ H->SqL K H a xs)
 (hs:∀ i x σ H,xs[i]?=some x->Pv i σ H->g x σ H fun σ2 H2=>tb { D with nx:=Pv (i+1),ct:=Pv (i+1),bk:=D.nx } σ2 H2) (hd:∀ σ H,Pv xs.length σ H->D.nx σ H) :
 ∃ W:Nat->Nat->St->Hp->Prop,(∃ m,W 0 m σ H)/\∀ i m σ H,W i m σ H →
   ((Itl K a).stop i H/\D.nx σ H)\/((Itl K a).go i H/\∃ N:St->Hp->Prop,(∀ σ' H',N σ' H'->∃ m',m'<m/\W (i+1) m' σ' H')/\∀ x H',(Itl K a).yld i H x H'->g x σ H' fun σ2 H2=>tb { D with nx:=N,ct:=N,bk:=D.nx } σ2 H2):=by
 refine⟨fun i m σ H=>m=xs.length-i/\i<=xs.length/\Pv i σ H,⟨xs.length,by simp,Nat.zero_le _,h0⟩,?_⟩
 rintro i m σ H ⟨rfl,hi,p⟩
 have q:=hl i σ H hi p
 by_cases hlt:i<xs.length
 . refine .inr ⟨⟨xs,xs[i],q,by simp [hlt]⟩,Pv (i+1),fun σ' H' p'=>⟨xs.length-(i+1),by omega,rfl,hlt,p'⟩,fun x H' y=>?_⟩
   obtain⟨e,y⟩:=y
   subst e
   exact hs i x σ _ (y xs q) p
 . have e:i=xs.length:=by omega
   subst e
   exact .inl ⟨⟨xs,q,Nat.le_refl _⟩,hd σ H p⟩
theorem Ay9 {K:W.Frag}{a:Addr}{xs:List V}{g:TG}{tb:TS}{D:Ends}{σ:St}{H:Hp} (Pv:Nat->St->Hp->Prop) (h0:Pv 0 σ H) (hl:∀ i σ H,i<=xs.length->Pv i σ H->SqT K H a xs)
 (hs:∀ i x σ H,xs[i]?=some x->Pv i σ H->g x σ H fun σ2 H2=>tb { D with nx:=Pv (i+1),ct:=Pv (i+1),bk:=D.nx } σ2 H2) (hd:∀ σ H,Pv xs.length σ H->D.nx σ H) :
 ∃ W:Nat->Nat->St->Hp->Prop,(∃ m,W 0 m σ H)/\∀ i m σ H,W i m σ H →
   ((Itt K a).stop i H/\D.nx σ H)\/((Itt K a).go i H/\∃ N:St->Hp->Prop,(∀ σ' H',N σ' H'->∃ m',m'<m/\W (i+1) m' σ' H')/\∀ x H',(Itt K a).yld i H x H'->g x σ H' fun σ2 H2=>tb { D with nx:=N,ct:=N,bk:=D.nx } σ2 H2):=by
 refine⟨fun i m σ H=>m=xs.length-i/\i<=xs.length/\Pv i σ H,⟨xs.length,by simp,Nat.zero_le _,h0⟩,?_⟩
 rintro i m σ H ⟨rfl,hi,p⟩
 have q:=hl i σ H hi p
 by_cases hlt:i<xs.length
 . refine .inr ⟨⟨xs,xs[i],q,by simp [hlt]⟩,Pv (i+1),fun σ' H' p'=>⟨xs.length-(i+1),by omega,rfl,hlt,p'⟩,fun x H' y=>?_⟩
   obtain⟨e,y⟩:=y
   subst e
   exact hs i x σ _ (y xs q) p
 . have e:i=xs.length:=by omega
   subst e
   exact .inl ⟨⟨xs,q,Nat.le_refl _⟩,hd σ H p⟩
theorem Dj {lo:Int}{n:Nat}{g:TG}{tb:TS}{D:Ends}{σ:St}{H:Hp} (Pv:Nat->St->Hp->Prop) (h0:Pv 0 σ H)
 (hs:∀ i σ H,i<n->Pv i σ H->g (.int (lo+i)) σ H fun σ2 H2=>tb { D with nx:=Pv (i+1),ct:=Pv (i+1),bk:=D.nx } σ2 H2) (hd:∀ σ H,Pv n σ H->D.nx σ H) :
 ∃ W:Nat->Nat->St->Hp->Prop,(∃ m,W 0 m σ H)/\∀ i m σ H,W i m σ H →
   ((Itr lo n).stop i H/\D.nx σ H)\/((Itr lo n).go i H/\∃ N:St->Hp->Prop,(∀ σ' H',N σ' H'->∃ m',m'<m/\W (i+1) m' σ' H')/\∀ x H',(Itr lo n).yld i H x H'->g x σ H' fun σ2 H2=>tb { D with nx:=N,ct:=N,bk:=D.nx } σ2 H2):=by
 refine⟨fun i m σ H=>m=n-i/\i<=n/\Pv i σ H,⟨n,by simp,Nat.zero_le _,h0⟩,?_⟩
 rintro i m σ H ⟨rfl,hi,p⟩
 by_cases hlt:i<n
 . refine .inr ⟨hlt,Pv (i+1),fun σ' H' p'=>⟨n-(i+1),by omega,rfl,hlt,p'⟩,fun x H' y=>?_⟩
   obtain⟨e,y⟩:=y
   subst e y
   exact hs i σ _ hlt p
 . have e:i=n:=by omega
   subst e
   exact .inl ⟨Nat.le_refl _,hd σ H p⟩
end L2
namespace L2
open PySem PySem.Spec PyProof.Rows
abbrev R2:=V->V->Hp->VK->Prop
def OpR (X:Cx) (f:Value->Value->Sem Value) (r:R2):Prop :=
 ∀ (Ac:List (Addr × Obj)) (s:Shared) (σ:St) (H:Hp) (x y:V) (v u:Value) (Q:VK),Inv X Ac σ H s->RelV x v->RelV y u->r x y H Q →
   wpAny (model X.prog X.w) X.A (f v u) (EP X Ac σ Q) X.xe s
def UnR (X:Cx) (f:Value->Sem Value) (r:V->Hp->VK->Prop):Prop :=
 ∀ (Ac:List (Addr × Obj)) (s:Shared) (σ:St) (H:Hp) (x:V) (v:Value) (Q:VK),Inv X Ac σ H s->RelV x v->r x H Q →
   wpAny (model X.prog X.w) X.A (f v) (EP X Ac σ Q) X.xe s
def Km (X:Cx) (f:Value) (r:List V->Hp->VK->Prop):Prop :=
 ∀ (Ac:List (Addr × Obj)) (s:Shared) (σ:St) (H:Hp) (xs:List V) (us:List Value) (Q:VK),Inv X Ac σ H s->Vals xs us->r xs H Q →
   wpAny (model X.prog X.w) X.A (call f us) (EP X Ac σ Q) X.xe s
def tOp (r:R2) (ta tb:TE):TE:=fun σ H Q=>ta σ H fun x H1=>tb σ H1 fun y H2=>r x y H2 Q
def tUn (r:V->Hp->VK->Prop) (ta:TE):TE:=fun σ H Q=>ta σ H fun x H1=>r x H1 Q
def rI (C:Int->Int->Prop) (g:Int->Int->V):R2:=fun x y H Q=>∃ i j,x=.int i/\y=.int j/\C i j/\Q (g i j) H
def rI0 (g:Int->Int->V):R2:=fun x y H Q=>∃ i j,x=.int i/\y=.int j/\Q (g i j) H
def rU (g:Int->V):V->Hp->VK->Prop:=fun x H Q=>∃ i,x=.int i/\Q (g i) H
section
variable {X:Cx}{a b c:Expr}{ta tb tc:TE}{pos:Pos}
theorem binT (ha:PE X a ta) (hb:PE X b tb) {Ac:List (Addr × Obj)}{s:Shared}{σ:St}{H:Hp}{R:V->V->Hp->Prop} (I:Inv X Ac σ H s)
 (h:ta σ H fun x H1=>tb σ H1 fun y H2=>R x y H2) {Q:Value->Shared->Prop}{f:Value->Value->Sem Value}
 (hf:∀ v u s2 x y H2,Inv X Ac σ H2 s2->RelV x v->RelV y u->R x y H2->wpAny (model X.prog X.w) X.A (f v u) Q X.xe s2) :
 wpAny (model X.prog X.w) X.A (eval a X.env) (fun v s₁=>wpAny (model X.prog X.w) X.A (eval b X.env) (fun u s₂=>wpAny (model X.prog X.w) X.A (f v u) Q X.xe s₂) X.xe s₁) X.xe s:=by
 refine thn (ha Ac s σ H _ I h) fun v s1 ⟨x,H1,I1,r1,q1⟩=>?_
 refine thn (hb Ac s1 σ H1 _ I1 q1) fun u s2 ⟨y,H2,I2,r2,q2⟩=>?_
 exact hf v u s2 x y H2 I2 r1 r2 q2
theorem Bb {op:Operator}{r:R2} (ho:OpR X (binaryOp op) r) (ha:PE X a ta) (hb:PE X b tb):PE X (.BinOp a op b pos) (tOp r ta tb):=by
 intro Ac s σ H Q I h
 exact wpAny_BinOp (binT ha hb I h fun v u s2 x y H2 I2 rx ry q=>ho Ac s2 σ H2 x y v u Q I2 rx ry q)
theorem Nk {op:UnaryOp}{r:V->Hp->VK->Prop} (ho:UnR X (unaryOp op) r) (ha:PE X a ta):PE X (.UnaryOp op a pos) (tUn r ta):=by
 intro Ac s σ H Q I h
 exact UnaryOp_ (thn (ha Ac s σ H _ I h) fun v s1 ⟨x,H1,I1,r1,q1⟩=>ho Ac s1 σ H1 x v Q I1 r1 q1)
theorem opI {f:Value->Value->Sem Value}{C:Int->Int->Prop}{g:Int->Int->Int}
 (rule:∀ (i j:Int) (t u:Tok) (s:Shared) (Q:Value->Shared->Prop) (E:Value->Shared->Prop),C i j->Q (.int (g i j) s.toks) { s with toks:=s.toks+1 }->wpAny (model X.prog X.w) X.A (f (.int i t) (.int j u)) Q E s) :
 OpR X f (rI C fun i j=>.int (g i j)):=by
 intro Ac s σ H x y v u Q I rx ry h
 obtain⟨i,j,rfl,rfl,hc,q⟩:=h
 obtain⟨t,rfl⟩:=rx
 obtain⟨t',rfl⟩:=ry
 exact rule i j t t' s _ _ hc ⟨.int (g i j),H,I.tok _,⟨_,rfl⟩,q⟩
theorem opI0 {f:Value->Value->Sem Value}{g:Int->Int->Int}
 (rule:∀ (i j:Int) (t u:Tok) (s:Shared) (Q:Value->Shared->Prop) (E:Value->Shared->Prop),Q (.int (g i j) s.toks) { s with toks:=s.toks+1 }->wpAny (model X.prog X.w) X.A (f (.int i t) (.int j u)) Q E s) :
 OpR X f (rI0 fun i j=>.int (g i j)):=by
 intro Ac s σ H x y v u Q I rx ry h
 obtain⟨i,j,rfl,rfl,q⟩:=h
 obtain⟨t,rfl⟩:=rx
 obtain⟨t',rfl⟩:=ry
 exact rule i j t t' s _ _ ⟨.int (g i j),H,I.tok _,⟨_,rfl⟩,q⟩
theorem opB0 {f:Value->Value->Sem Value}{g:Int->Int->Bool}
 (rule:∀ (i j:Int) (t u:Tok) (s:Shared) (Q:Value->Shared->Prop) (E:Value->Shared->Prop),Q (.bool (g i j)) s->wpAny (model X.prog X.w) X.A (f (.int i t) (.int j u)) Q E s) :
 OpR X f (rI0 fun i j=>.bl (g i j)):=by
 intro Ac s σ H x y v u Q I rx ry h
 obtain⟨i,j,rfl,rfl,q⟩:=h
 obtain⟨t,rfl⟩:=rx
 obtain⟨t',rfl⟩:=ry
 exact rule i j t t' s _ _ ⟨.bl (g i j),H,I,rfl,q⟩
def CDiv (i j:Int):Prop:=0<j/\j<1073741824
def CMul (i j:Int):Prop:=(-(2 ^ 64)<i/\i<2 ^ 64)\/(-(2 ^ 64)<j/\j<2 ^ 64)
theorem CMul.ok {i j:Int} (h:CMul i j):IntMulOk i j:=by
 rcases h with ⟨h1,h2⟩|⟨h1,h2⟩
 . exact .of_left (intBits_le_64 h1 h2)
 . exact .of_right (intBits_le_64 h1 h2)
theorem En:OpR X (binaryOp .Add) (rI0 fun i j=>.int (i+j)):=opI0 fun _ _ _ _ _ _ _ q=>add_int q
theorem Pd:OpR X (binaryOp .Sub) (rI0 fun i j=>.int (i-j)):=opI0 fun _ _ _ _ _ _ _ q=>sub_int q
theorem Kc:OpR X (binaryOp .FloorDiv) (rI CDiv fun i j=>.int (i / j)):=opI fun i j _ _ _ _ _ hc q=>by
 have h1:(0:Int)<j:=hc.1
 have h2:j<1073741824:=hc.2
 exact floordiv_int (by omega) (by rw [Int.fdiv_eq_ediv_of_nonneg i (by omega)];exact q) (.inl (PyProof.noPylong_small (by omega)))
theorem Ed:OpR X (binaryOp .Mod) (rI (fun _ j=>0<j) fun i j=>.int (i%j)):=opI fun i j _ _ _ _ _ hc q=>by
 have h1:(0:Int)<j:=hc
 exact mod_int' (by omega) (by rw [Int.fmod_eq_emod_of_nonneg i (by omega)];exact q)
theorem unI {f:Value->Sem Value}{g:Int->Int}
 (rule:∀ (i:Int) (t:Tok) (s:Shared) (Q:Value->Shared->Prop) (E:Value->Shared->Prop),Q (.int (g i) s.toks) { s with toks:=s.toks+1 }->wpAny (model X.prog X.w) X.A (f (.int i t)) Q E s) :
 UnR X f (rU fun i=>.int (g i)):=by
 intro Ac s σ H x v Q I rx h
 obtain⟨i,rfl,q⟩:=h
 obtain⟨t,rfl⟩:=rx
 exact rule i t s _ _ ⟨.int (g i),H,I.tok _,⟨_,rfl⟩,q⟩
theorem Gw:UnR X (unaryOp .USub) (rU fun i=>.int (-i)):=unI fun _ _ _ _ _ q=>neg_int q
end
def scal:V->V->Bool
 | .non,.non=>true | .non,.int _=>true | .int _,.non=>true | .non,.bl _=>true | .bl _,.non=>true | .non,.str _=>true | .str _,.non=>true
 | .int _,.int _=>true | .bl _,.bl _=>true | .str _,.str _=>true | .byt _,.byt _=>true
 | .int _,.str _=>true | .str _,.int _=>true | .bl _,.str _=>true | .str _,.bl _=>true
 | _,_=>false
def rEq:R2:=fun x y H Q=>scal x y=true/\Q (.bl (decide (x=y))) H
def rNe:R2:=fun x y H Q=>scal x y=true/\Q (.bl (!decide (x=y))) H
theorem Ah7 {i j:Int}:decide (V.int i=V.int j)=(i==j):=by
 rw [Bool.eq_iff_iff]
 simp
theorem At2 {i j:Bool}:decide (V.bl i=V.bl j)=(i==j):=by
 rw [Bool.eq_iff_iff]
 simp
theorem Ah6 {i j:Str}:decide (V.str i=V.str j)=(i==j):=by
 rw [Bool.eq_iff_iff]
 simp
theorem Ah8 {i j:Array UInt8}:decide (V.byt i=V.byt j)=(i.toList==j.toList):=by
 rw [Bool.eq_iff_iff]
 cases i
 cases j
 simp
section
variable {X:Cx}{a b c:Expr}{ta tb tc:TE}{pos:Pos}
theorem Br {Ac:List (Addr × Obj)}{σ:St}{H:Hp}{s:Shared}{Q:VK}{k k':Bool} (I:Inv X Ac σ H s) (q:Q (.bl k) H) (e:k=k'):EP X Ac σ Q (.bool k') s:=by
 subst e
 exact ⟨.bl k,H,I,rfl,q⟩
theorem Ha:OpR X (compareOp .Eq) rEq:=by
 intro Ac s σ H x y v u Q I rx ry h
 obtain⟨hs,q⟩:=h
 cases x with
 | non =>
   cases rx
   cases y with
   | non=>cases ry;exact PySem.EqNone.eq_none_none (Br I q (by simp))
   | bl j=>cases ry;exact PySem.EqNone.eq_none_bool (Br I q (by simp))
   | int j=>obtain⟨t',rfl⟩:=ry;exact PySem.EqNone.eq_none_int (Br I q (by simp))
   | str j=>obtain⟨t',rfl⟩:=ry;exact PySem.EqNone.eq_none_str (Br I q (by simp))
   | _=>exact absurd (show false=true from hs) Bool.false_ne_true
 | bl i =>
   cases rx
   cases y with
   | non=>cases ry;exact PySem.EqNone.eq_bool_none (Br I q (by simp))
   | bl j=>cases ry;exact eq_bool (Br I q At2)
   | str j=>obtain⟨t',rfl⟩:=ry;exact PySem.EqMixed.eq_bool_str (Br I q (by simp))
   | _=>exact absurd (show false=true from hs) Bool.false_ne_true
 | int i =>
   obtain⟨t,rfl⟩:=rx
   cases y with
   | non=>cases ry;exact PySem.EqNone.eq_int_none (Br I q (by simp))
   | int j=>obtain⟨t',rfl⟩:=ry;exact eq_int (Br I q Ah7)
   | str j=>obtain⟨t',rfl⟩:=ry;exact PySem.EqMixed.eq_int_str (Br I q (by simp))
   | _=>exact absurd (show false=true from hs) Bool.false_ne_true
 | str i =>
   obtain⟨t,rfl⟩:=rx
   cases y with
   | non=>cases ry;exact PySem.EqNone.eq_str_none (Br I q (by simp))
   | bl j=>cases ry;exact PySem.EqMixed.eq_str_bool (Br I q (by simp))
   | int j=>obtain⟨t',rfl⟩:=ry;exact PySem.EqMixed.eq_str_int (Br I q (by simp))
   | str j=>obtain⟨t',rfl⟩:=ry;exact eq_str (Br I q Ah6)
   | _=>exact absurd (show false=true from hs) Bool.false_ne_true
 | byt i =>
   obtain⟨t,rfl⟩:=rx
   cases y with
   | byt j=>obtain⟨t',rfl⟩:=ry;exact PySem.W.eq_bytes (Br I q Ah8)
   | _=>exact absurd (show false=true from hs) Bool.false_ne_true
 | _=>cases y<;>exact absurd (show false=true from hs) Bool.false_ne_true
theorem Vj:OpR X (compareOp .NotEq) rNe:=by
 intro Ac s σ H x y v u Q I rx ry h
 obtain⟨hs,q⟩:=h
 cases x with
 | non =>
   cases rx
   cases y with
   | non=>cases ry;exact PySem.EqNone.ne_none_none (Br I q (by simp))
   | bl j=>cases ry;exact PySem.EqNone.ne_none_bool (Br I q (by simp))
   | int j=>obtain⟨t',rfl⟩:=ry;exact PySem.EqNone.ne_none_int (Br I q (by simp))
   | str j=>obtain⟨t',rfl⟩:=ry;exact PySem.EqNone.ne_none_str (Br I q (by simp))
   | _=>exact absurd (show false=true from hs) Bool.false_ne_true
 | bl i =>
   cases rx
   cases y with
   | non=>cases ry;exact PySem.EqNone.ne_bool_none (Br I q (by simp))
   | bl j=>cases ry;exact ne_bool (Br I q (congrArg not At2))
   | str j=>obtain⟨t',rfl⟩:=ry;exact PySem.EqMixed.ne_bool_str (Br I q (by simp))
   | _=>exact absurd (show false=true from hs) Bool.false_ne_true
 | int i =>
   obtain⟨t,rfl⟩:=rx
   cases y with
   | non=>cases ry;exact PySem.EqNone.ne_int_none (Br I q (by simp))
   | int j=>obtain⟨t',rfl⟩:=ry;exact ne_int (Br I q (congrArg not Ah7))
   | str j=>obtain⟨t',rfl⟩:=ry;exact PySem.EqMixed.ne_int_str (Br I q (by simp))
   | _=>exact absurd (show false=true from hs) Bool.false_ne_true
 | str i =>
   obtain⟨t,rfl⟩:=rx
   cases y with
   | non=>cases ry;exact PySem.EqNone.ne_str_none (Br I q (by simp))
   | bl j=>cases ry;exact PySem.EqMixed.ne_str_bool (Br I q (by simp))
   | int j=>obtain⟨t',rfl⟩:=ry;exact PySem.EqMixed.ne_str_int (Br I q (by simp))
   | str j=>obtain⟨t',rfl⟩:=ry;exact ne_str (Br I q (congrArg not Ah6))
   | _=>exact absurd (show false=true from hs) Bool.false_ne_true
 | byt i =>
   obtain⟨t,rfl⟩:=rx
   cases y with
   | byt j=>obtain⟨t',rfl⟩:=ry;exact PySem.W.ne_bytes (Br I q (congrArg not Ah8))
   | _=>exact absurd (show false=true from hs) Bool.false_ne_true
 | _=>cases y<;>exact absurd (show false=true from hs) Bool.false_ne_true
theorem g9:OpR X (compareOp .Lt) (rI0 fun i j=>.bl (decide (i<j))):=opB0 fun _ _ _ _ _ _ _ q=>lt_int q
theorem A77:OpR X (compareOp .LtE) (rI0 fun i j=>.bl (decide (i<=j))):=opB0 fun _ _ _ _ _ _ _ q=>le_int q
theorem A78:OpR X (compareOp .Gt) (rI0 fun i j=>.bl (decide (j<i))):=opB0 fun _ _ _ _ _ _ _ q=>gt_int q
theorem As5:OpR X (compareOp .Is) (fun x y H Q=>y=.non/\Q (.bl (decide (x=.non))) H):=by
 intro Ac s σ H x y v u Q I rx ry h
 obtain⟨rfl,q⟩:=h
 cases ry
 refine is_none_gen (Br I q ?_)
 cases x<;>first
  | (cases rx;rfl)
  | (obtain⟨t,rfl⟩:=rx;rfl)
theorem Aw6:OpR X (compareOp .IsNot) (fun x y H Q=>y=.non/\Q (.bl (!decide (x=.non))) H):=by
 intro Ac s σ H x y v u Q I rx ry h
 obtain⟨rfl,q⟩:=h
 cases ry
 refine isnot_none_gen (Br I q ?_)
 cases x<;>first
  | (cases rx;rfl)
  | (obtain⟨t,rfl⟩:=rx;rfl)
theorem Bg (b:Expr) {op:CmpOp} (h:op≠.In:=by decide) (h2:op≠.NotIn:=by decide):behindInMarks op b=false:=by
 have e1:(op==CmpOp.In)=false:=by cases op<;>first | rfl | exact absurd rfl h
 have e2:(op==CmpOp.NotIn)=false:=by cases op<;>first | rfl | exact absurd rfl h2
 cases b<;>simp [behindInMarks,e1,e2]
theorem Pc {op:CmpOp}{r:R2} (ho:OpR X (compareOp op) r) (ha:PE X a ta) (hb:PE X b tb) (hm:behindInMarks op b=false):PE X (.Compare a [op] [b] pos) (tOp r ta tb):=by
 intro Ac s σ H Q I h
 exact wpAny_Compare1 (binT ha hb I h fun v u s2 x y H2 I2 rx ry q=>ho Ac s2 σ H2 x y v u Q I2 rx ry q) hm
def A66 (t:TE):TT:=fun σ H Q=>t σ H fun x H'=>∃ k,x=.bl k/\Q k H'
theorem A7 {op:CmpOp}{r:R2} (ho:OpR X (compareOp op) r) (ha:PE X a ta) (hb:PE X b tb) (hm:behindInMarks op b=false):PT X (.Compare a [op] [b] pos) (A66 (tOp r ta tb)):=by
 intro Ac s σ H Q I h
 refine wpAny_isTrue_Compare1 (thn (ha Ac s σ H _ I h) fun v s1 ⟨x,H1,I1,r1,q1⟩=>thn (hb Ac s1 σ H1 _ I1 q1) fun u s2 ⟨y,H2,I2,r2,q2⟩ =>
  thn (ho Ac s2 σ H2 x y v u _ I2 r1 r2 q2) fun c s3 ⟨z,H3,I3,r3,k,e,q3⟩=>?_) hm
 subst e
 cases r3
 exact wpAny_truthy_bool ⟨H3,I3,q3⟩
theorem Zs:(sizeLine:Nat)<2 ^ 63:=by rw [sizeLine_eq];decide
theorem v4 {x:V}{us:List Value} (r:Vals [x] us):∃ u,us=[u]/\RelV x u:=by
 cases r with
 | cons r1 r2=>cases r2;exact ⟨_,rfl,r1⟩
theorem Au0 {x y:V}{us:List Value} (r:Vals [x,y] us):∃ u w',us=[u,w']/\RelV x u/\RelV y w':=by
 cases r with
 | cons r1 r2 =>
   cases r2 with
   | cons r3 r4=>cases r4;exact ⟨_,_,rfl,r1,r3⟩
theorem Ak3 (hc:X.calm=true):Km X (.builtin "min") (fun xs H Q=>∃ i j,xs=[.int i,.int j]/\Q (.int (if j<i then j else i)) H):=by
 intro Ac s σ H xs us Q I r h
 obtain⟨i,j,rfl,q⟩:=h
 obtain⟨u,w',rfl,⟨t,rfl⟩,⟨t',rfl⟩⟩:=Au0 r
 refine min_two_ints (I.ok.hd hc) fun h' tk k=>⟨_,H,I.kept k,?_,q⟩
 by_cases hj:j<i
 . rw [if_pos hj,if_pos hj];exact ⟨_,rfl⟩
 . rw [if_neg hj,if_neg hj];exact ⟨_,rfl⟩
end
end L2
namespace L2
open PySem PySem.Spec PyProof.Rows
structure ObjM (h:Heap) (x dx C:Addr) (mA:Str->Option Value):Prop where
 obj:h.get? x=some (PySem.W.instObj C dx)
 ns:h.Ns1 dx mA
 ne:dx≠x
theorem Af0 {h:Heap}{dx:Addr}{mA:Str->Option Value} (n:h.Ns1 dx mA):∃ od,h.get? dx=some od/\∀ name,PySem.W.lookIn name od=some (mA name):=by
 obtain⟨o,es,ep,ho,hd,hk,_,hm⟩:=n
 refine⟨o,ho,fun name=>?_⟩
 have e:=hm name
 unfold nsFind findBy at e
 rw [←Array.find?_toList] at e
 unfold PySem.W.lookIn
 rw [hd]
 dsimp only
 split
 . rename_i y q
   rw [q] at e
   exact congrArg some e
 . rename_i q
   rw [q] at e
   have a:es.toList.any (·.refKey)=false:=by
    rw [List.any_eq_false]
    intro y hy
    obtain⟨z,t,hkey⟩:=hk y (Array.mem_toList_iff.mp hy)
    simp [DictEntry.refKey,hkey]
   have a':¬es.toList.any (·.refKey)=true:=by rw [a];exact Bool.false_ne_true
   rw [if_neg a']
   exact congrArg some e
theorem ObjM.look {h:Heap}{x dx C:Addr}{mA:Str->Option Value} (I:ObjM h x dx C mA):∃ od,PySem.W.InstAt h x (PySem.W.instObj C dx) C (some od)/\∀ name,PySem.W.lookIn name od=some (mA name) :=
 let ⟨od,ho,hl⟩:=Af0 I.ns
 ⟨od,⟨I.obj,rfl,rfl,ho⟩,hl⟩
section
variable {prog:Program}{w:World}{A:Around}{E:Value->Shared->Prop}{s:Shared}{K:W.Frag}{x dx C f:Addr}{mA:Str->Option Value}{name:Str}{v:Value}
theorem Ay7 {expr:Bool}{Q:Value->Shared->Prop} (X:K.In s.heap) (I:ObjM s.heap x dx C mA) (hg:PySem.W.plainGet K C name=true) (hh:PySem.W.hasDictIn K C=true)
 (ha:PySem.W.findIn K (.ref C) name=some none) (hv:mA name=some v) (hv':PySem.W.handedIn v=true) (h:Q v { s with toks:=s.toks+1 }) :
 wpAny (model prog w) A (getAttr (.ref x) name expr) Q E s:=by
 obtain⟨od,J,hl⟩:=I.look
 exact PySem.W.get_value X J (PySem.W.plainGet_of hg).1 (PySem.W.findObj_own hh ha rfl (by rw [hl,hv])) hv' h
theorem Aq0 {pl:Sem Bool}{Q:Value × List Value->Shared->Prop} (X:K.In s.heap) (I:ObjM s.heap x dx C mA) (hg:PySem.W.plainGet K C name=true)
 (hf:PySem.W.findIn K (.ref C) name=some (some (.ref f))) (ht:PySem.W.isFn K (.ref f)=true) (hv:mA name=none) (h:Q (.ref f,[.ref x]) s) :
 wpAny (model prog w) A (getMethod (.ref x) name pl) Q E s:=by
 obtain⟨od,J,hl⟩:=I.look
 exact PySem.W.method_fn X J (PySem.W.plainGet_of hg).1 (PySem.W.plainGet_of hg).2 hf (beq_iff_eq.mp ht) (by show (PySem.W.lookIn name od).map (·.isSome)=some false;rw [hl,hv];rfl) h
theorem Au7 {ns:List Str}{Q:Unit->Shared->Prop} (X:K.In s.heap) (I:ObjM s.heap x dx C mA)
 (hs:PySem.W.findIn K (.ref C) "__setattr__"=some (some (.builtin "object.__setattr__"))) (hp:PySem.W.plainOver K C=true) (ht:PySem.W.takerIn K C name=some none) (hh:PySem.W.hasDictIn K C=true)
 (hw:PySem.Within mA ns) (hsz:ns.length<=sizeLine)
 (h:∀ h',ObjM h' x dx C (fun y=>if y=name then some v else mA y)->Heap.SameBut dx s.heap h'->Q () { s with heap:=h',toks:=s.toks+2 }) :
 wpAny (model prog w) A (setAttr (.ref x) name v) Q E s:=by
 obtain⟨od,J,hl⟩:=I.look
 refine PySem.W.set_plain X J hs (PySem.W.osa_open (s:={ s with toks:=s.toks+1 }) (r:=none) X J hp ht fun b=>?_)
 obtain⟨cd,hc,hd'⟩:=PySem.W.any_some hh
 have hx:s.heap.get? x=some ⟨.ref C,some dx,.plain,#[]⟩:=I.obj
 refine wpAny_bind (wpAny_pure (wpAny_bind (wpAny_bind (wpAny_loadPart hx (wpAny_bind (PySem.W.Looks.here (s:={ s with toks:=s.toks+1 }) (PySem.W.looks_clsIn X hc) ?_))))))
 rw [hd']
 refine wpAny_pure (a:=some dx) (wpAny_bind (wpAny_pure (wpAny_bind ?_)))
 refine wpAny_nsSet1 (s:={ s with toks:=s.toks+1 }) I.ns fun h' hn2 hs2=>?_
 obtain⟨oD,esD,epD,hoD,hdD,hcD⟩:=hn2.count (PySem.Within.cons name v hw)
 refine wpAny_bind (wpAny_lookBehind hoD (by rw [hdD];exact pastItsLine_dict (Nat.le_trans hcD (by rw [List.length_cons];omega))) ?_)
 exact wpAny_pure (h _ ⟨(hs2.2 _ (Ne.symm I.ne)).trans I.obj,hn2,I.ne⟩ hs2)
theorem Ap1 {R:Result->Shared->Prop}{vs:List Value}{kw:List (Str × Value)} (X:K.In s.heap) (hm:PySem.W.makesIn K C=true)
 (hi:PySem.W.findIn K (.ref C) "__init__"=some (some (.ref f))) (hf:PySem.W.typeIn K (.ref f)=some (.type "function"))
 (h:codeAny (model prog w) (A.under (.builtin "type.__call__" ⟨.ref C::vs,kw⟩)) (.call (.ref f) ⟨.ref (s.heap.objs.size+1)::vs,kw⟩) (PySem.W.InitBack (s.heap.objs.size+1) R)
   { s with heap:=(s.heap.push PySem.W.emptyDict).push (PySem.W.instObj C s.heap.objs.size) }) :
 codeAny (model prog w) A (.call (.ref C) ⟨vs,kw⟩) R s:=by
 obtain⟨hh,g,d,t,os⟩:=s
 exact PySem.W.make_core (PySem.W.makes_of X hm) (PySem.W.looks_findIn X hi) (fun self=>PySem.W.bind_fn X self hf) (.inl rfl) h
end
def putF (f:Str) (v:V):List (Str × V)->List (Str × V)
 | []=>[(f,v)]
 | (g,x)::r=>if g=f then (g,v)::r else (g,x)::putF f v r
theorem Ah (f g:Str) (v:V):∀ fs:List (Str × V),(putF f v fs).lookup g=if g=f then some v else fs.lookup g
 | []=>by
   show List.lookup g [(f,v)]=_
   by_cases h:g=f
   . have hb:(g==f)=true:=beq_iff_eq.mpr h
     simp only [List.lookup,hb,if_pos h]
   . have hb:(g==f)=false:=beq_eq_false_iff_ne.mpr h
     simp only [List.lookup,hb,if_neg h]
 | (k,x)::r=>by
   have ih:=Ah f g v r
   rw [show putF f v ((k,x)::r)=(if k=f then (k,v)::r else (k,x)::putF f v r) from rfl]
   by_cases hk:k=f
   . rw [if_pos hk]
     by_cases h:g=k
     . have hb:(g==k)=true:=beq_iff_eq.mpr h
       simp only [List.lookup,hb,if_pos (h.trans hk)]
     . have hb:(g==k)=false:=beq_eq_false_iff_ne.mpr h
       simp only [List.lookup,hb,if_neg (fun e:g=f=>h (e.trans hk.symm))]
   . rw [if_neg hk]
     by_cases h:g=k
     . have hb:(g==k)=true:=beq_iff_eq.mpr h
       simp only [List.lookup,hb,if_neg (fun e:g=f=>hk (h.symm.trans e))]
     . have hb:(g==k)=false:=beq_eq_false_iff_ne.mpr h
       simp only [List.lookup,hb]
       exact ih
theorem Pp (f:Str) (v:V):∀ fs:List (Str × V),f∈(putF f v fs).map (·.1)/\∀ g,g∈fs.map (·.1)->g∈(putF f v fs).map (·.1)
 | []=>⟨by simp [putF],fun g h=>by simp at h⟩
 | (k,x)::r=>by
   obtain⟨i1,i2⟩:=Pp f v r
   rw [show putF f v ((k,x)::r)=(if k=f then (k,v)::r else (k,x)::putF f v r) from rfl]
   by_cases hk:k=f
   . rw [if_pos hk]
     subst hk
     exact ⟨by simp,fun g h=>by simpa using h⟩
   . rw [if_neg hk]
     refine⟨?_,fun g h=>?_⟩
     . rw [List.map_cons]
       exact List.mem_cons_of_mem _ i1
     . rw [List.map_cons] at h ⊢
       rcases List.mem_cons.mp h with e | e
       . exact List.mem_cons.mpr (.inl e)
       . exact List.mem_cons_of_mem _ (i2 g e)
theorem A8 (f:Str) (v:V):∀ fs:List (Str × V),(putF f v fs).length<=fs.length+1
 | []=>by simp [putF]
 | (k,x)::r=>by
   have ih:=A8 f v r
   rw [show putF f v ((k,x)::r)=(if k=f then (k,v)::r else (k,x)::putF f v r) from rfl]
   by_cases hk:k=f
   . rw [if_pos hk,List.length_cons,List.length_cons];omega
   . rw [if_neg hk,List.length_cons,List.length_cons];omega
theorem RelO.some_of {v:V}{o:Option Value} (r:RelO (some v) o):∃ u,o=some u/\RelV v u:=by
 cases o with
 | none=>exact (show False from r).elim
 | some u=>exact ⟨u,rfl,r⟩
theorem RelO.none_of {o:Option Value} (r:RelO none o):o=none:=by
 cases o with
 | none=>rfl
 | some u=>exact (show False from r).elim
theorem Ag6 {v:V}{u:Value} (r:RelV v u):PySem.W.handedIn u=true:=by
 cases v with
 | non=>cases (show u=Value.none from r);rfl
 | bl b=>cases (show u=Value.bool b from r);rfl
 | int i=>obtain⟨t,e⟩:=(show ∃ t,u=Value.int i t from r);cases e;rfl
 | str x=>obtain⟨t,e⟩:=(show ∃ t,u=Value.str x t from r);cases e;rfl
 | byt b=>obtain⟨t,e⟩:=(show ∃ t,u=Value.bytes b t from r);cases e;rfl
 | flt b=>obtain⟨t,e⟩:=(show ∃ t,u=Value.float b t from r);cases e;rfl
 | ref a=>cases (show u=Value.ref a from r);rfl
 | ty n=>cases (show u=Value.type n from r);rfl
section
variable {P:Program}{w:World}{H H':Hp}{h h':Heap}{a C dx:Addr}{fs fs':List (Str × V)}
theorem Yj (hok:HOk P w H h) (e:H a=some (.ins C dx fs)):∃ mA,ObjM h a dx C mA/\(∀ f,RelO (fs.lookup f) (mA f))/\PySem.Within mA (fs.map (·.1))/\fs.length<=1000/\H dx=some (.own a):=by
 obtain⟨d,z,ne,ob,mA,n,r,q⟩:=(show Kl P w H h a (.ins C dx fs) from hok a _ e)
 exact ⟨mA,⟨ob,n,ne⟩,r,q,z,d⟩
end
structure Cls (K:W.Frag) (C:Addr):Prop where
 pg:PySem.W.plainGet K C Str.empty=true
 hd:PySem.W.hasDictIn K C=true
 po:PySem.W.plainOver K C=true
 sa:PySem.W.findIn K (.ref C) "__setattr__"=some (some (.builtin "object.__setattr__"))
theorem Cls.get {K:W.Frag}{C:Addr} (c:Cls K C) (f:Str):PySem.W.plainGet K C f=true:=c.pg
def NoAttr (K:W.Frag) (C:Addr) (f:Str):Prop:=PySem.W.findIn K (.ref C) f=some none
theorem NoAttr.taker {K:W.Frag}{C:Addr}{f:Str} (n:NoAttr K C f):PySem.W.takerIn K C f=some none:=by
 unfold PySem.W.takerIn
 rw [show PySem.W.findIn K (.ref C) f=some none from n]
 rfl
structure Meth (K:W.Frag) (C:Addr) (m:Str) (f:Addr):Prop where
 at_:PySem.W.findIn K (.ref C) m=some (some (.ref f))
 fn:PySem.W.isFn K (.ref f)=true
 kp:PySem.W.keepIn K (.ref f)=true
section
variable {X:Cx}{Ac:List (Addr × Obj)}{σ:St}{H:Hp}{s:Shared}{a C dx:Addr}{fs:List (Str × V)}{f:Str}{v:V}{A:Around}{E:Value->Shared->Prop}
theorem p4 {b:Bool}{Q:Value->Shared->Prop} (I:Inv X Ac σ H s) (e:H a=some (.ins C dx fs)) (c:Cls X.K C) (n:NoAttr X.K C f) (l:fs.lookup f=some v)
 (h:∀ u s',Inv X Ac σ H s'->RelV v u->Q u s'):wpAny (model X.prog X.w) A (getAttr (.ref a) f b) Q E s:=by
 obtain⟨mA,O,r,_,_,_⟩:=Yj I.hok e
 obtain⟨u,hu,ru⟩:=RelO.some_of (v:=v) (o:=mA f) (by rw [←l];exact r f)
 exact Ay7 I.kIn O (c.get f) c.hd n hu (Ag6 ru) (h u _ (I.tok _) ru)
theorem Mm {m:Str}{g:Addr}{pl:Sem Bool}{Q:Value × List Value->Shared->Prop} (I:Inv X Ac σ H s) (e:H a=some (.ins C dx fs)) (c:Cls X.K C) (k:Meth X.K C m g) (l:fs.lookup m=none)
 (h:Q (.ref g,[.ref a]) s):wpAny (model X.prog X.w) A (getMethod (.ref a) m pl) Q E s:=by
 obtain⟨mA,O,r,_,_,_⟩:=Yj I.hok e
 have hn:mA m=none:=RelO.none_of (by rw [←l];exact r m)
 exact Aq0 I.kIn O (c.get m) k.at_ k.fn hn h
theorem d6 {y:V}{u:Value}{Q:Unit->Shared->Prop} (I:Inv X Ac σ H s) (e:H a=some (.ins C dx fs)) (c:Cls X.K C) (n:NoAttr X.K C f) (hl:fs.length<1000) (ry:RelV y u)
 (h:∀ s',Inv X Ac σ (upd H a (.ins C dx (putF f y fs))) s'->Q () s'):wpAny (model X.prog X.w) A (setAttr (.ref a) f u) Q E s:=by
 obtain⟨mA,O,r,wi,_,ho⟩:=Yj I.hok e
 have hz:(fs.map (·.1)).length<=sizeLine:=by rw [List.length_map,sizeLine_eq];omega
 refine Au7 I.kIn O c.sa c.po n.taker c.hd wi hz fun h' O' sb=>h _ ?_
 have hd:∃ o,h'.get? dx=some o:=let ⟨o,_,_,e',_⟩:=O'.ns;⟨o,e'⟩
 refine I.write (x:=a) (e:=dx) (by rw [e];exact True.intro) (.inr ho) (fun b q hb z=>(sb.2 b hb).trans z) hd ?_
 refine⟨by rw [Aq O.ne];exact ho,?_,O.ne,O'.obj,_,O'.ns,fun g=>?_,fun g hg=>?_⟩
 . have:=A8 f y fs;omega
 . show RelO ((putF f y fs).lookup g) (if g=f then some u else mA g)
   rw [Ah]
   by_cases q:g=f
   . rw [if_pos q,if_pos q];exact ry
   . rw [if_neg q,if_neg q];exact r g
 . by_cases q:g=f
   . rw [q];exact (Pp f y fs).1
   . refine (Pp f y fs).2 g (wi g fun z=>hg ?_)
     show (if g=f then some u else mA g)=none
     rw [if_neg q];exact z
theorem Inv.made (I:Inv X Ac σ H s):Inv X Ac σ (upd (upd H s.heap.objs.size (.own (s.heap.objs.size+1))) (s.heap.objs.size+1) (.ins C s.heap.objs.size []))
 { s with heap:=(s.heap.push PySem.W.emptyDict).push (PySem.W.instObj C s.heap.objs.size) }:=by
 have e1:(s.heap.push PySem.W.emptyDict).get? s.heap.objs.size=some PySem.W.emptyDict:=Heap.get?_push_size s.heap rfl
 have e2:((s.heap.push PySem.W.emptyDict).push (PySem.W.instObj C s.heap.objs.size)).get? (s.heap.objs.size+1)=some (PySem.W.instObj C s.heap.objs.size):=by
  have:=Heap.get?_push_size (s.heap.push PySem.W.emptyDict) (o:=PySem.W.instObj C s.heap.objs.size) rfl
  rwa [Heap.size_push] at this
 have e3:(s.heap.push PySem.W.emptyDict).Ns s.heap.objs.size (fun _=>none):=⟨PySem.W.emptyDict,#[],_,e1,rfl,(fun e he=>absurd he (by simp)),fun _=>rfl⟩
 have I1:=I.laid (a:=s.heap.objs.size) (o:=.own (s.heap.objs.size+1)) (h':=s.heap.push PySem.W.emptyDict) (t':=s.toks) (fun b u q=>Heap.get?_push_of_some _ q) (Nat.le_refl _) ⟨_,e1⟩
 refine I1.laid (a:=s.heap.objs.size+1) (o:=.ins C s.heap.objs.size []) (t':=s.toks) (fun b u q=>Heap.get?_push_of_some _ q) (Nat.le_of_eq (Heap.size_push _ _)) ?_
 have ne:s.heap.objs.size≠s.heap.objs.size+1:=Nat.ne_of_lt (Nat.lt_succ_self _)
 refine⟨by rw [Aq ne,Ag],Nat.zero_le _,ne,e2,fun _=>none,(Heap.Ns1.of_empty e3).at fun o q=>Heap.get?_push_of_some _ q,fun _=>True.intro,fun y hy=>absurd rfl hy⟩
theorem A01 {prog:Program}{w:World}{env:Env}{e:Expr}{f:Str}{pos:Pos}{s:Shared}{Q:Value->Shared->Prop} (hb:attributeBase e f env (eval e env)=eval e env)
 (h:wpAny (model prog w) A (eval e env) (fun o s₁=>wpAny (model prog w) A (getAttr o f true) Q E s₁) E s):wpAny (model prog w) A (eval (.Attribute e f pos) env) Q E s :=
 Attribute_any_ h (by rw [arm_eval_Attribute,hb])
end
def tFld (K:W.Frag) (ta:TE) (f:Str):TE:=fun σ H Q=>ta σ H fun x H1=>∃ a C dx fs v,x=.ref a/\H1 a=some (.ins C dx fs)/\Cls K C/\NoAttr K C f/\fs.lookup f=some v/\Q v H1
def sFld (K:W.Frag) (ta tv:TE) (f:Str):TS:=fun D σ H=>tv σ H fun y H1=>ta σ H1 fun x H2=>∃ a C dx fs,x=.ref a/\H2 a=some (.ins C dx fs)/\Cls K C/\NoAttr K C f/\fs.length<1000 ∧
 D.nx σ (upd H2 a (.ins C dx (putF f y fs)))
section
variable {X:Cx}{o e value:Expr}{f:Str}{pos pos' tpos:Pos}{ta tv:TE}
theorem A25 (he:PE X e ta) (hb:attributeBase e f X.env (eval e X.env)=eval e X.env):PE X (.Attribute e f pos) (tFld X.K ta f):=by
 intro Ac s σ H Q I h
 refine A01 hb (thn (he Ac s σ H _ I h) fun u s1 ⟨x,H1,I1,rx,a,C,dx,fs,v,ex,ea,c,n,l,q⟩=>?_)
 subst ex
 obtain rfl:u=Value.ref a:=rx
 exact p4 I1 ea c n l fun u' s2 I2 ru=>⟨v,H1,I2,ru,q⟩
theorem A21 (ha:PE X o ta) (hv:PE X value tv) (hs:swapsWith value (some (.Attribute o f pos')) pos.line X.env=pure false):PS X (.Assign [.Attribute o f pos'] value pos) (sFld X.K ta tv f):=by
 intro Ac s σ H D I h
 refine plainObj_wpAny_Assign_Attribute (thn (hv Ac s σ H _ I h) fun u s1 ⟨y,H1,I1,ry,q⟩=>thn (ha Ac s1 σ H1 _ I1 q) fun ov s2 ⟨x,H2,I2,rx,a,C,dx,fs,ex,ea,c,n,l,q2⟩=>?_) hs
 subst ex
 obtain rfl:ov=Value.ref a:=rx
 exact d6 I2 ea c n l ry fun s3 I3=>⟨σ,_,I3,q2⟩
theorem Ax9 {pl:Sem Bool}{m:Str}{apos:Pos}{args:List Expr}{Ac:List (Addr × Obj)}{s:Shared}{σ:St}{H:Hp}{Q:Value->Shared->Prop}{te:TE} (he:PE X e te) (I:Inv X Ac σ H s)
 (h:te σ H fun x H1=>∃ a C dx fs g,x=.ref a/\H1 a=some (.ins C dx fs)/\Cls X.K C/\Meth X.K C m g/\fs.lookup m=none ∧
   ∀ s1,Inv X Ac σ H1 s1->wpAny (model X.prog X.w) X.A (callWith pos (.ref g) [.ref a] (backTo pos (starEach args X.env)) (backToKw pos (keywordEach [] X.env))) Q X.xe s1)
 (ht:eval (.Call (.Attribute e m apos) args [] pos) X.env=(do
   let ov ←eval e X.env
   standAt apos.atName
   let (f,first) ←holding [ov] (getMethod ov m pl)
   callWith pos f first (backTo pos (starEach args X.env)) (backToKw pos (keywordEach [] X.env)))) :
 wpAny (model X.prog X.w) X.A (eval (.Call (.Attribute e m apos) args [] pos) X.env) Q X.xe s:=by
 refine PySem.W.methodCall_KW (pl:=pl) (thn (he Ac s σ H _ I h) fun u s1 ⟨x,H1,I1,rx,a,C,dx,fs,g,ex,ea,c,k,l,q⟩=>?_) ht
 subst ex
 obtain rfl:u=Value.ref a:=rx
 exact Mm I1 ea c k l (q s1 I1)
end
section
variable {X:Cx}{Ac:List (Addr × Obj)}{σ:St}{H:Hp}{s:Shared}{A:Around}{E:Value->Shared->Prop}{Q:Value->Shared->Prop}{c:Value}{b:Bool}
end
end L2
namespace L2
open PySem PySem.Spec PyProof.Rows
structure Room (k:Nat) (A:Around):Prop where
 hd:A.handled=none
 dp:A.depth+3*k+5<recursionLimit
 un:A.units+16*k+200<cLine
 gd:A.guards=some []
theorem Room.mono {j k:Nat}{A:Around} (r:Room k A) (h:j<=k):Room j A:=⟨r.hd,by have:=r.dp;omega,by have:=r.un;omega,r.gd⟩
theorem Room.deeper {k:Nat}{A:Around} (r:Room (k+1) A) (env:Env):Room k (A.deeper env) :=
 ⟨r.hd,by have:=r.dp;show A.depth+1+3*k+5<_;omega,by have:=r.un;show A.units+3+16*k+200<_;omega,r.gd⟩
theorem l0 {A:Around}{C:Addr}{us:List Value}{kw:List (Str × Value)}:(A.under (.builtin "type.__call__" ⟨.ref C::us,kw⟩)).depth=A.depth+1:=by
 first | rfl | simp [Around.under,Code.weight,Code.isCreation,Code.isGuard,Code.isCaller,Code.frames,Code.isFrame,guardIds]
theorem Yb {A:Around}{C:Addr}{us:List Value}{kw:List (Str × Value)}:(A.under (.builtin "type.__call__" ⟨.ref C::us,kw⟩)).guards=A.guards:=by
 first | rfl | simp [Around.under,Code.weight,Code.isCreation,Code.isGuard,Code.isCaller,Code.frames,Code.isFrame,guardIds]
theorem j9 {A:Around}{C:Addr}{us:List Value}{kw:List (Str × Value)}:(A.under (.builtin "type.__call__" ⟨.ref C::us,kw⟩)).units=A.units+1:=by
 first | rfl | simp [Around.under,Code.cUnits,Code.frames,Code.isFrame]
theorem Room.make {k:Nat}{A:Around} (r:Room (k+1) A) (C:Addr) (us:List Value) (kw:List (Str × Value)):Room k (A.under (.builtin "type.__call__" ⟨.ref C::us,kw⟩)) :=
 ⟨r.hd,by have:=r.dp;rw [l0];omega,by have:=r.un;rw [j9];omega,by rw [Yb];exact r.gd⟩
theorem Room.depth {k:Nat}{A:Around} (r:Room k A):A.depth<recursionLimit:=by have:=r.dp;omega
theorem Room.units {k:Nat}{A:Around} (r:Room k A):A.units+64<cLine:=by have:=r.un;omega
def tNil:TA:=fun _ H Q=>Q [] H
def A71 (ta:TE) (tr:TA):TA:=fun σ H Q=>ta σ H fun x H1=>tr σ H1 fun xs H2=>Q (x::xs) H2
section
variable {X:Cx}{e:Expr}{es:List Expr}{te:TE}{t:TA}{pos:Pos}
theorem Ai:PA X [] tNil:=fun _ _ _ _ H Q I h=>Calls.spliced_nil ⟨[],H,I,.nil,h⟩
theorem Aa (ha:PE X e te) (hr:PA X es t) (hs:starEach (e::es) X.env=(false,eval e X.env)::starEach es X.env:=by rfl):PA X (e::es) (A71 te t):=by
 intro pos Ac s σ H Q I h
 rw [hs]
 show wpAny _ _ (spliced ((false,eval e X.env)::backTo pos (starEach es X.env))) _ _ s
 refine Calls.spliced_cons (thn (ha Ac s σ H _ I h) fun u s1 ⟨x,H1,I1,r1,q1⟩=>?_)
 exact thn (hr pos Ac s1 σ H1 _ I1 q1) fun us s2 ⟨xs,H2,I2,r2,q2⟩=>⟨x::xs,H2,I2,.cons r1 r2,q2⟩
def tTup (t:TA):TE:=fun σ H Q=>t σ H fun xs H1=>xs.length<=sizeLine/\∀ p,H1 p=none->Q (.ref p) (upd H1 p (.tup xs))
def tLst (t:TA):TE:=fun σ H Q=>t σ H fun xs H1=>xs.length<=sizeLine/\∀ p,H1 p=none->Q (.ref p) (upd H1 p (.lst xs))
theorem F5 {x1} (h:PA X es t):PE X (.Tuple es x1 pos) (tTup t):=by
 intro Ac s σ H Q I hq
 refine wpAny_Tuple_spliced (thn (h pos Ac s σ H _ I hq) fun us s1 ⟨xs,H1,I1,r,z,q⟩=>⟨by rw [←r.length];exact z,?_⟩)
 have hf:H1 s1.heap.objs.size=none:=I1.hok.fresh (Nat.le_refl _)
 refine⟨.ref s1.heap.objs.size,upd H1 s1.heap.objs.size (.tup xs),I1.laid (t':=s1.toks) (fun b u e=>Heap.get?_push_of_some _ e) (Nat.le_refl _) ?_,rfl,q _ hf⟩
 exact ⟨z,us,r,⟨_,Heap.get?_push_size _ rfl,rfl,rfl,_,rfl⟩⟩
theorem Sh (h:PA X es t):PE X (.List es pos) (tLst t):=by
 intro Ac s σ H Q I hq
 refine wpAny_List_spliced (thn (h pos Ac s σ H _ I hq) fun us s1 ⟨xs,H1,I1,r,z,q⟩=>⟨by rw [←r.length];exact z,?_⟩)
 have hf:H1 s1.heap.objs.size=none:=I1.hok.fresh (Nat.le_refl _)
 refine⟨.ref s1.heap.objs.size,upd H1 s1.heap.objs.size (.lst xs),I1.laid (t':=s1.toks) (fun b u e=>Heap.get?_push_of_some _ e) (Nat.le_refl _) ?_,rfl,q _ hf⟩
 exact ⟨z,us,0,r,Heap.get?_push_size _ rfl⟩
end
abbrev Sp:=List V->Hp->VK->XK->Prop
abbrev CXT:=List Env->Hp->Shared->XK->Value->Shared->Prop
structure Env0 (P:Program) (w:World) (K:W.Frag) (mg:Str->Option Value) (base:Heap) (A:Around) (outer:List Env) (s:Shared) (H:Hp):Prop where
 frames:A.frames=some outer
 mod:Mod K mg base
 bs:∀ b o,base.get? b=some o->s.heap.get? b=some o/\H b=none
 bsz:base.objs.size<=s.heap.objs.size
 funs:s.heap.FunFrames base outer
 frf:∀ b∈frs outer,H b=none
 hok:HOk P w H s.heap
 bare:AllBare s.gens
def CE (outer:List Env) (P:Program) (w:World) (H:Hp) (s:Shared) (Q:VK) (u:Value) (s':Shared):Prop :=
 ∃ v H',s'.os=s.os/\AllBare s'.gens/\Un (frs outer) [] H H' s.heap s'.heap/\HOk P w H' s'.heap/\RelV v u/\Q v H'
def CR (CX:CXT) (outer:List Env) (P:Program) (w:World) (H:Hp) (s:Shared) (Q:VK) (E:XK) (r:Result) (s':Shared):Prop :=
 match r with
 | .ok (.ret u)=>CE outer P w H s Q u s'
 | .ok _=>False
 | .error e=>CX outer H s E e s'
structure FnOk (P:Program) (w:World) (K:W.Frag) (mg:Str->Option Value) (base:Heap) (CX:CXT) (k:Nat) (f:Addr) (fd:FuncData) (ps:List Str) (sp:Sp):Prop where
 len:∀ vs H Q E,sp vs H Q E->vs.length=ps.length
 run:∀ (A:Around) (outer:List Env) (s:Shared) (H:Hp) (args:Args) (us:List Value) (vs:List V) (Q:VK) (E:XK),Room k A->Env0 P w K mg base A outer s H->BindsTo s fd args (ps.zip us)->Vals vs us->sp vs H Q E →
  codeAny (model P w) A (.call (.ref f) args) (CR CX outer P w H s Q E) s
theorem Env0.make {P:Program}{w:World}{K:W.Frag}{mg:Str->Option Value}{base:Heap}{A:Around}{outer:List Env}{s:Shared}{H:Hp} (e:Env0 P w K mg base A outer s H) (C:Addr) (us:List Value) (kw:List (Str × Value)) :
 Env0 P w K mg base (A.under (.builtin "type.__call__" ⟨.ref C::us,kw⟩)) outer s H:=⟨by first | exact e.frames | (simpa [Around.under,Code.envs,Code.isFrame,pushEnvs] using e.frames),e.mod,e.bs,e.bsz,e.funs,e.frf,e.hok,e.bare⟩
section
variable {X:Cx}{Ac:List (Addr × Obj)}{σ:St}{H:Hp}{s s':Shared}
theorem Inv.env0 (I:Inv X Ac σ H s):Env0 X.prog X.w X.K X.mg X.base X.A X.stack s H :=
 ⟨I.ok.frames,I.ok.mod,I.bs,Nat.le_trans I.ok.bsz I.sz,I.stack,I.stkFree,I.hok,I.bare⟩
theorem Inv.after {Q:VK}{u:Value} (I:Inv X Ac σ H s) (h:CE X.stack X.prog X.w H s Q u s'):EP X Ac σ Q u s':=by
 obtain⟨v,H',os,bare,un,hok,r,q⟩:=h
 obtain⟨hh,g,d,t,os'⟩:=s'
 obtain rfl:os'=s.os:=os
 exact ⟨v,H',I.call (h':=hh) (g':=g) (d':=d) (t':=t) (ch:=[]) un hok bare (fun b z=>absurd z (by simp)),r,q⟩
end
def tCall (sp:Sp) (dvs:List V) (E:XK) (t:TA):TE:=fun σ H Q=>t σ H fun vs H1=>sp (vs++dvs) H1 Q E
def An0 (C:Addr) (m:Str) (sp:Sp) (dvs:List V) (E:XK) (ta:TE) (t:TA):TE:=fun σ H Q=>ta σ H fun x H1=>∃ a dx fs,x=.ref a/\H1 a=some (.ins C dx fs)/\fs.lookup m=none ∧
 t σ H1 fun vs H2=>sp (x::(vs++dvs)) H2 Q E
def A15 (C:Addr) (sp:Sp) (dvs:List V) (E:XK) (t:TA):TE:=fun σ H Q=>t σ H fun vs H1=>∀ x dx,H1 x=none->H1 dx=none->dx≠x →
 sp (.ref x::(vs++dvs)) (upd (upd H1 dx (.own x)) x (.ins C dx [])) (fun v H2=>v=.non/\Q (.ref x) H2) E
def My (K:W.Frag) (fd:FuncData) (ps:List Str) (ds:List Value):Prop :=
 ∀ (s:Shared) (us:List Value),K.In s.heap->(us++ds).length=ps.length->BindsTo s fd ⟨us,[]⟩ (ps.zip (us++ds))
theorem My.all {K:W.Frag}{fd:FuncData}{ps:List Str} (h:∀ us:List Value,us.length=ps.length->bindArgs fd ⟨us,[]⟩=pure (ps.zip us)):My K fd ps []:=fun s us _ hl=>by
 rw [List.append_nil] at hl ⊢
 exact .of_eq (h us hl)
def Qq (CX:CXT) (X:Cx) (E:XK):Prop:=∀ (Ac:List (Addr × Obj)) (σ:St) (H:Hp) (s:Shared) (e:Value) (s':Shared),Inv X Ac σ H s->CX X.stack H s E e s'->X.xe e s'
section
variable {X:Cx}{CX:CXT}{k:Nat}{f C:Addr}{fd:FuncData}{ps:List Str}{sp:Sp}{dvs:List V}{ds:List Value}{E:XK}{x m:Str}{p pos apos:Pos}{e o:Expr}{es:List Expr}{ta:TE}{t:TA}
theorem Zj {Ac:List (Addr × Obj)}{σ:St}{H:Hp}{s:Shared}{Q:VK}{us:List Value}{vs:List V} (F:FnOk X.prog X.w X.K X.mg X.base CX k f fd ps sp) (hr:Room k X.A) (hb:My X.K fd ps ds) (hd:Vals dvs ds) (hx:Qq CX X E)
 (I:Inv X Ac σ H s) (r:Vals vs us) (h:sp (vs++dvs) H Q E):wpAny (model X.prog X.w) X.A (call (.ref f) us) (EP X Ac σ Q) X.xe s:=by
 have r2:Vals (vs++dvs) (us++ds):=r.append hd
 have hl:(us++ds).length=ps.length:=by rw [←r2.length];exact F.len _ _ _ _ h
 refine wpAny_call (codeAny_mono (F.run X.A X.stack s H ⟨us,[]⟩ (us++ds) (vs++dvs) Q E hr I.env0 (hb s us I.kIn hl) r2 h) fun r s' hq=>?_)
 cases r with
 | error e=>exact hx Ac σ H s e s' I hq
 | ok fl =>
   cases fl with
   | ret u=>exact I.after hq
   | next=>exact False.elim hq
   | brk=>exact False.elim hq
   | cont=>exact False.elim hq
theorem Aw3 (F:FnOk X.prog X.w X.K X.mg X.base CX k f fd ps sp) (hr:Room k X.A) (hg:Gl X x) (hm:X.mg x=some (.ref f)) (hk:PySem.W.keepIn X.K (.ref f)=true) (hb:My X.K fd ps ds) (hd:Vals dvs ds) (hx:Qq CX X E)
 (ha:PA X (e::es) t) (hdb:(x==("__debug__":Str))=false:=by decide) (he:starEach (e::es) X.env=(false,eval e X.env)::starEach es X.env:=by rfl) (hpl:(backTo pos (starEach es X.env)).any (·.1)=false:=by rfl) :
 PE X (.Call (.Name x p) (e::es) [] pos) (tCall sp dvs E t):=by
 intro Ac s σ H Q I h
 refine wpAny_Call_Name_kw (T0 I hg hm ?_ hdb)
 refine PySem.W.callWith_K (h₀:=X.base) I.ok.mod.kin hk (thn (ha pos Ac s σ H _ I h) fun us s1 ⟨vs,H1,I1,r,q⟩=>⟨I1.kIn,?_⟩) he hpl
 exact Zj F hr hb hd hx I1 r q
theorem Aw0 {pl:Sem Bool} (he:PE X o ta) (c:Cls X.K C) (hm:Meth X.K C m f) (F:FnOk X.prog X.w X.K X.mg X.base CX k f fd ps sp) (hr:Room k X.A) (hb:My X.K fd ps ds) (hd:Vals dvs ds) (hx:Qq CX X E) (ha:PA X (e::es) t)
 (hst:starEach (e::es) X.env=(false,eval e X.env)::starEach es X.env:=by rfl) (hpl:(backTo pos (starEach es X.env)).any (·.1)=false:=by rfl)
 (ht:eval (.Call (.Attribute o m apos) (e::es) [] pos) X.env=(do
   let ov ←eval o X.env
   standAt apos.atName
   let (f,first) ←holding [ov] (getMethod ov m pl)
   callWith pos f first (backTo pos (starEach (e::es) X.env)) (backToKw pos (keywordEach [] X.env))):=by rfl) :
 PE X (.Call (.Attribute o m apos) (e::es) [] pos) (An0 C m sp dvs E ta t):=by
 intro Ac s σ H Q I h
 refine PySem.W.methodCall_KW (pl:=pl) (thn (he Ac s σ H _ I h) fun u s1 ⟨x,H1,I1,rx,a,dx,fs,ex,ea,l,q⟩=>?_) ht
 subst ex
 obtain rfl:u=Value.ref a:=rx
 refine Mm I1 ea c hm l ?_
 refine PySem.W.callWith_K (first:=[.ref a]) (h₀:=X.base) I.ok.mod.kin hm.kp (thn (ha pos Ac s1 σ H1 _ I1 q) fun us s2 ⟨vs,H2,I2,r,q2⟩=>⟨I2.kIn,?_⟩) hst hpl
 exact Zj (us:=.ref a::us) (vs:=.ref a::vs) F hr hb hd hx I2 (.cons rfl r) q2
theorem Ao0 {pl:Sem Bool} (he:PE X o ta) (c:Cls X.K C) (hm:Meth X.K C m f) (F:FnOk X.prog X.w X.K X.mg X.base CX k f fd ps sp) (hr:Room k X.A) (hb:My X.K fd ps ds) (hd:Vals dvs ds) (hx:Qq CX X E)
 (ht:eval (.Call (.Attribute o m apos) [] [] pos) X.env=(do
   let ov ←eval o X.env
   standAt apos.atName
   let (f,first) ←holding [ov] (getMethod ov m pl)
   callWith pos f first (backTo pos (starEach [] X.env)) (backToKw pos (keywordEach [] X.env))):=by rfl) :
 PE X (.Call (.Attribute o m apos) [] [] pos) (An0 C m sp dvs E ta tNil):=by
 intro Ac s σ H Q I h
 refine PySem.W.methodCall_KW (pl:=pl) (thn (he Ac s σ H _ I h) fun u s1 ⟨x,H1,I1,rx,a,dx,fs,ex,ea,l,q⟩=>?_) ht
 subst ex
 obtain rfl:u=Value.ref a:=rx
 refine Mm I1 ea c hm l ?_
 exact PySem.W.callWith_K0 (first:=[.ref a]) I1.kIn hm.kp (Zj (us:=[.ref a]) (vs:=[.ref a]) F hr hb hd hx I1 (.cons rfl .nil) q)
structure Mk (K:W.Frag) (C f:Addr):Prop where
 makes:PySem.W.makesIn K C=true
 init:PySem.W.findIn K (.ref C) "__init__"=some (some (.ref f))
 fn:PySem.W.isFn K (.ref f)=true
 kp:PySem.W.keepIn K (.ref C)=true
theorem An7 {Ac:List (Addr × Obj)}{σ:St}{H:Hp}{s:Shared}{Q:VK}{us:List Value}{vs:List V} (M:Mk X.K C f) (F:FnOk X.prog X.w X.K X.mg X.base CX k f fd ps sp) (hr:Room (k+1) X.A) (hb:My X.K fd ps ds) (hd:Vals dvs ds)
 (hx:Qq CX X E) (I:Inv X Ac σ H s) (r:Vals vs us)
 (h:∀ x dx,H x=none->H dx=none->dx≠x->sp (.ref x::(vs++dvs)) (upd (upd H dx (.own x)) x (.ins C dx [])) (fun v H2=>v=.non/\Q (.ref x) H2) E) :
 wpAny (model X.prog X.w) X.A (call (.ref C) us) (EP X Ac σ Q) X.xe s:=by
 have hq:=h (s.heap.objs.size+1) s.heap.objs.size (I.hok.fresh (Nat.le_succ _)) (I.hok.fresh (Nat.le_refl _)) (Nat.ne_of_lt (Nat.lt_succ_self _))
 have I2:=Inv.made (C:=C) I
 have r2:Vals (V.ref (s.heap.objs.size+1)::(vs++dvs)) (Value.ref (s.heap.objs.size+1)::(us++ds)):=.cons rfl (r.append hd)
 have hl:(Value.ref (s.heap.objs.size+1)::us++ds).length=ps.length:=by
  have e:=r2.length
  rw [F.len _ _ _ _ hq] at e
  exact e.symm
 refine wpAny_call (Ap1 (f:=f) I.kIn M.makes M.init (beq_iff_eq.mp M.fn) (codeAny_mono (F.run _ X.stack _ _ ⟨Value.ref (s.heap.objs.size+1)::us,[]⟩ (Value.ref (s.heap.objs.size+1)::(us++ds)) _ _ E (hr.make C us [])
  (I2.env0.make C us []) (hb _ (Value.ref (s.heap.objs.size+1)::us) I2.kIn hl) r2 hq) fun r s' hq'=>?_))
 cases r with
 | error e=>exact hx Ac σ _ _ e s' I2 hq'
 | ok fl =>
   cases fl with
   | ret u =>
     obtain⟨v,H',I3,rv,ev,q3⟩:=I2.after hq'
     subst ev
     exact ⟨rv,⟨V.ref (s.heap.objs.size+1),H',I3,rfl,q3⟩⟩
   | next=>exact False.elim hq'
   | brk=>exact False.elim hq'
   | cont=>exact False.elim hq'
theorem Aw1 (M:Mk X.K C f) (F:FnOk X.prog X.w X.K X.mg X.base CX k f fd ps sp) (hr:Room (k+1) X.A) (hg:Gl X x) (hm:X.mg x=some (.ref C)) (hb:My X.K fd ps ds) (hd:Vals dvs ds) (hx:Qq CX X E)
 (ha:PA X (e::es) t) (hdb:(x==("__debug__":Str))=false:=by decide) (he:starEach (e::es) X.env=(false,eval e X.env)::starEach es X.env:=by rfl) (hpl:(backTo pos (starEach es X.env)).any (·.1)=false:=by rfl) :
 PE X (.Call (.Name x p) (e::es) [] pos) (A15 C sp dvs E t):=by
 intro Ac s σ H Q I h
 refine wpAny_Call_Name_kw (T0 I hg hm ?_ hdb)
 refine PySem.W.callWith_K (h₀:=X.base) I.ok.mod.kin M.kp (thn (ha pos Ac s σ H _ I h) fun us s1 ⟨vs,H1,I1,r,q⟩=>⟨I1.kIn,?_⟩) he hpl
 exact An7 M F hr hb hd hx I1 r q
end
section
variable {X:Cx}{CX:CXT}{k:Nat}{f C:Addr}{fd:FuncData}{ps ks:List Str}{sp:Sp}{E:XK}{x m:Str}{p pos apos kpos:Pos}{e o:Expr}{es:List Expr}{kws:List Keyword}{te ta:TE}{t tk:TA}{nm:Option Str}
variable {g:List Value->List Value->List Value}{gV:List V->List V->List V}
end
structure FnScope (N P:List Str) (sc:Scope):Prop where
 kind:sc.kind=.function
 co:sc.isCoroutine=false
 gen:sc.isGenerator=false
 nd:N.Nodup
 pre:N.take P.length=P
 par:∀ x∈P,sc.names.lookup x=some .local\/sc.names.lookup x=some .cell
 nofree:∀ y∈sc.names,y.2≠.free
theorem Wt {kindOf:Str->Option NameKind}{x:Str}:∀{binds:List (Str × Value)}{m:Str->Option Value},(∀ v,(x,v) ∉ binds)->bindL kindOf binds m x=m x
 | [],_,_=>rfl
 | (n,v)::r,m,h=>by
   unfold bindL
   rw [Wt fun w hw=>h w (List.mem_cons_of_mem _ hw)]
   split
   . have:x≠n:=by rintro rfl;exact h v List.mem_cons_self
     simp [this]
   . rfl
theorem Wv {kindOf:Str->Option NameKind}{x:Str}:∀{binds:List (Str × Value)}{m:Str->Option Value},(∀ v,(x,v) ∉ binds)->bindC kindOf binds m x=m x
 | [],_,_=>rfl
 | (n,v)::r,m,h=>by
   unfold bindC
   rw [Wv fun w hw=>h w (List.mem_cons_of_mem _ hw)]
   split
   . rfl
   . have:x≠n:=by rintro rfl;exact h v List.mem_cons_self
     simp [this]
theorem Wu {kindOf:Str->Option NameKind}{x:Str}{v:Value}:∀{P:List Str}{vs:List Value}{i:Nat}{m:Str->Option Value},P.Nodup->P[i]?=some x->vs[i]?=some v->kindOf x=some .local →
 bindL kindOf (P.zip vs) m x=some v
 | [],_,_,_,_,h,_,_=>by simp at h
 | _::_,[],_,_,_,_,h,_=>by simp at h
 | p::P,w::vs,0,m,nd,h1,h2,hk=>by
   simp at h1 h2;subst h1;subst h2
   show bindL kindOf ((p,w)::P.zip vs) m p=_
   unfold bindL
   rw [Wt fun v hv=>(List.nodup_cons.mp nd).1 (List.of_mem_zip hv).1,if_pos hk]
   simp
 | p::P,w::vs,i+1,m,nd,h1,h2,hk=>by
   show bindL kindOf ((p,w)::P.zip vs) m x=_
   unfold bindL
   exact Wu (i:=i) (List.nodup_cons.mp nd).2 (by simpa using h1) (by simpa using h2) hk
theorem Ww {kindOf:Str->Option NameKind}{x:Str}{v:Value}:∀{P:List Str}{vs:List Value}{i:Nat}{m:Str->Option Value},P.Nodup->P[i]?=some x->vs[i]?=some v->kindOf x≠some .local →
 bindC kindOf (P.zip vs) m x=some v
 | [],_,_,_,_,h,_,_=>by simp at h
 | _::_,[],_,_,_,_,h,_=>by simp at h
 | p::P,w::vs,0,m,nd,h1,h2,hk=>by
   simp at h1 h2;subst h1;subst h2
   show bindC kindOf ((p,w)::P.zip vs) m p=_
   unfold bindC
   rw [Wv fun v hv=>(List.nodup_cons.mp nd).1 (List.of_mem_zip hv).1,if_neg hk]
   simp
 | p::P,w::vs,i+1,m,nd,h1,h2,hk=>by
   show bindC kindOf ((p,w)::P.zip vs) m x=_
   unfold bindC
   exact Ww (i:=i) (List.nodup_cons.mp nd).2 (by simpa using h1) (by simpa using h2) hk
def start (N:List Str) (vs:List V):St:=vs.map some++List.replicate (N.length-vs.length) none
def cxOf (CX:CXT) (P:Program) (w:World) (K:W.Frag) (mg:Str->Option Value) (base:Heap) (N:List Str) (qual:Str) (scope:Scope) (f:Addr) (cd:Value) (A:Around) (outer:List Env) (s:Shared) (H:Hp) (E:XK):Cx where
 prog:=P
 w:=w
 K:=K
 mg:=mg
 base:=base
 A:=A.deeper (envOfC qual scope s.heap.objs.size f cd)
 N:=N
 s₀:=s
 H₀:=H
 env:=envOfC qual scope s.heap.objs.size f cd
 outer:=outer
 stack:=envOfC qual scope s.heap.objs.size f cd::outer
 ex:=[]
 calm:=true
 fn:=fun _=>true
 pn:=[]
 xe:=fun e s'=>wpAny (model P w) (A.deeper (envOfC qual scope s.heap.objs.size f cd)) (leaving (envOfC qual scope s.heap.objs.size f cd) e) (fun _ s''=>CX outer H s E e s'') (fun e' s''=>CX outer H s E e' s'') s'
theorem Zz {sc:Scope}{n:Nat}{x:Str} (h:sc.names.lookup x=some .cell):∃ c,(cellsFrom n sc.names []).lookup x=some c:=by
 have q:=PySem.W.cellsFrom_some sc.names n [] (.inl h)
 exact Option.isSome_iff_exists.mp q
theorem Ag2 {CX:CXT}{P:Program}{w:World}{K:W.Frag}{mg:Str->Option Value}{base:Heap}{N ps:List Str}{qual:Str}{scope:Scope}{f:Addr}{cd:Value}{A:Around}{outer:List Env}{s s1:Shared}{H:Hp}{E:XK}{us:List Value}{vs:List V}
 (S:FnScope N ps scope) (hd:A.handled=none) (e0:Env0 P w K mg base A outer s H) (hl:vs.length=ps.length) (r:Vals vs us)
 (x:InCallC s s.heap.objs.size (bindL (envOfC qual scope s.heap.objs.size f cd).kindOf (ps.zip us) fun _=>none) (cellsFrom (s.heap.objs.size+1) scope.names []) (bindC (envOfC qual scope s.heap.objs.size f cd).kindOf (ps.zip us) fun _=>none) s1) :
 Inv (cxOf CX P w K mg base N qual scope f cd A outer s H E) [] (start N vs) H s1:=by
 have hpl:ps.length<=N.length:=by have:=congrArg List.length S.pre;rw [List.length_take] at this;omega
 obtain⟨h1,tk,rfl,hk⟩:=x.done
 have noA:∀ b:Addr,b ∉ (cxOf CX P w K mg base N qual scope f cd A outer s H E).ex:=fun b z=>absurd (show b∈([]:List Addr) from z) (by simp)
 refine⟨⟨e0.mod,S.kind,rfl,rfl,Nat.le_refl _,fun y z c h1 h2=>?_,fun y hy=>?_,fun y c _ h=>?_,fun _=>hd,Around.frames_deeper e0.frames,.inr ⟨rfl,rfl⟩,fun b z=>absurd z (noA b),e0.bs,e0.bsz,fun b _ _=>noA b,fun b z=>absurd z (noA b),e0.funs,e0.frf⟩,
  rfl,e0.bare,Un.kept hk,⟨_,x.toInCall.ns,fun i y v h1 h2 h3=>?_⟩,fun y c h=>⟨_,x.cell y c h⟩,e0.hok.fresh (Nat.le_refl _),fun y c h=>?_,fun p hp=>absurd (show p∈([]:List (Addr × Obj)) from hp) (by simp),e0.hok.kept hk,?_⟩
 . exact name_of_addr x.apart (PySem.mem_of_lookup h1) (PySem.mem_of_lookup h2)
 . have hy:scope.names.lookup y=some .cell\/scope.names.lookup y=some .free:=hy
   rcases hy with hy | hy
   . exact Zz hy
   . exact absurd rfl (S.nofree _ (PySem.mem_of_lookup hy))
 . exact Nat.le_of_lt (x.above y c (PySem.mem_of_lookup h))
 . have hi:i<vs.length:=by
    unfold start at h2
    by_cases hi:i<vs.length
    . exact hi
    . rw [List.getElem?_append_right (by simpa using hi)] at h2
      rw [List.getElem?_replicate] at h2
      split at h2<;>cases h2
   have ha:vs[i]?=some v:=by
    unfold start at h2
    rw [List.getElem?_append_left (by simpa using hi),List.getElem?_map] at h2
    cases e:vs[i]? with
    | none=>rw [e] at h2;cases h2
    | some a=>rw [e] at h2;cases h2;rfl
   obtain⟨u,hu,rv⟩:=r.get ha
   have hp:ps[i]?=some y:=by
    rw [←S.pre,List.getElem?_take_of_lt (by omega)];exact h1
   have ndP:ps.Nodup:=by rw [←S.pre];exact S.nd.sublist (List.take_sublist _ _)
   refine⟨u,rv,?_⟩
   rcases S.par y (List.mem_of_getElem? hp) with k | k
   . exact .inl ⟨k,Wu ndP hp hu k⟩
   . obtain⟨c,e⟩:=Zz (n:=s.heap.objs.size+1) k
     refine .inr ⟨.inl k,c,e,?_⟩
     have q:=x.cell y c e
     rw [Ww ndP hp hu (by show scope.names.lookup y≠_;rw [k];decide)] at q
     exact q
 . exact e0.hok.fresh (Nat.le_of_lt (x.above y c (PySem.mem_of_lookup h)))
 . unfold start
   show _=N.length
   rw [List.length_append,List.length_map,List.length_replicate]
   omega
theorem A92 {CX:CXT}{P:Program}{w:World}{K:W.Frag}{mg:Str->Option Value}{base:Heap}{k:Nat}{f:Addr}{name qual:Str}{params:Arguments}{body:List Stmt}{scope:Scope}{dV kV doc pm C5 ct oc:Value}{an od:Option Addr}
 {osl:Array (Option Value)}{N ps:List Str}{sp:Sp} (lk:K.lookup f=some ⟨oc,od,.func (PySem.W.fnOf name qual params body scope dV kV doc pm an C5 ct),osl⟩) (hcd:PySem.W.codeIn K C5 qual=true) (S:FnScope N ps scope)
 (len:∀ vs H Q E,sp vs H Q E->vs.length=ps.length)
 (hbody:∀ (A:Around) (outer:List Env) (s:Shared) (H:Hp) (vs:List V) (Q:VK) (E:XK),Room k (A.deeper (envOfC qual scope s.heap.objs.size f C5))->sp vs H Q E →
   ∃ t,PSs (cxOf CX P w K mg base N qual scope f C5 A outer s H E) body t/\t { nx:=fun _ H'=>Q .non H',rt:=Q } (start N vs) H) :
 FnOk P w K mg base CX (k+1) f (PySem.W.fnOf name qual params body scope dV kV doc pm an C5 ct) ps sp:=by
 refine⟨len,fun A outer s H args us vs Q E hr e0 hb r hsp=>?_⟩
 have hl:=len _ _ _ _ hsp
 have KX:K.In s.heap:=e0.mod.kin.keeps fun b o e=>(e0.bs b o e).1
 have lim:s.heap.NoLimit:=e0.mod.nolimit.keeps fun b o e=>(e0.bs b o e).1
 have hkind:∀ y∈ps.zip us,scope.names.lookup y.1=some .local\/(scope.names.lookup y.1=some .cell/\((cellsFrom (s.heap.objs.size+1) scope.names []).lookup y.1).isSome=true):=fun ⟨n,v⟩ hy=>by
  rcases S.par n (List.of_mem_zip hy).1 with q | q
  . exact .inl q
  . exact .inr ⟨q,PySem.W.cellsFrom_some _ _ _ (.inl q)⟩
 refine codeAny_call_function hr.depth (KX _ _ lk) rfl S.co S.gen rfl (PySem.W.codeRec_of KX hcd) (hb _ _ _ _ ?_)
 refine wpAny_newFunctionEnv_cells S.kind hkind fun env he s1 x=>?_
 subst he
 refine⟨lim.keeps x.toInCall.keep,codeAny_func ?_⟩
 obtain⟨t,ht,hq⟩:=hbody A outer s H vs Q E (hr.deeper _) hsp
 have I:Inv (cxOf CX P w K mg base N qual scope f C5 A outer s H E) [] (start N vs) H s1:=Ag2 S hr.hd e0 hl r x
 refine wpAny_mono (ht [] s1 (start N vs) H _ I hq) (fun fl s' hs=>?_) fun e s' hs=>hs
 have fin:∀{σ':St}{H':Hp}{v:V}{u:Value},Inv (cxOf CX P w K mg base N qual scope f C5 A outer s H E) [] σ' H' s'->RelV v u->Q v H'->CE outer P w H s Q u s' :=
  fun {σ' H' v u} J rv q=>⟨v,H',J.os,J.bare,J.base,J.hok,rv,q⟩
 cases fl with
 | ret u =>
   obtain⟨v,σ',H',J,rv,q⟩:=hs
   exact fin J rv q
 | next =>
   obtain⟨σ',H',J,q⟩:=hs
   exact fin (v:=V.non) (u:=Value.none) J rfl q
 | brk =>
   obtain⟨_,_,_,q⟩:=hs
   exact False.elim q
 | cont =>
   obtain⟨_,_,_,q⟩:=hs
   exact False.elim q
end L2
namespace L2
open PySem PySem.Spec PyProof.Rows
section
variable {X:Cx}{x:Str}{p pos:Pos}{e:Expr}{es:List Expr}{t:TA}{id T:String}{r:List V->Hp->VK->Prop}
def tCB (r:List V->Hp->VK->Prop) (t:TA):TE:=fun σ H Q=>t σ H fun vs H1=>r vs H1 Q
theorem A6 (hc:Km X (.builtin id) r) (hg:Gl X x) (hm:X.mg x=none) (hv:bootBuiltins x=some (.builtin id)) (ha:PA X (e::es) t) (hn:x≠"__name__":=by decide) (hdb:(x==("__debug__":Str))=false:=by decide)
 (he:starEach (e::es) X.env=(false,eval e X.env)::starEach es X.env:=by rfl) (hpl:(backTo pos (starEach es X.env)).any (·.1)=false:=by rfl):PE X (.Call (.Name x p) (e::es) [] pos) (tCB r t):=by
 intro Ac s σ H Q I h
 refine wpAny_Call_Name_kw (K8 I hg hm hv ?_ hn hdb)
 exact PyProof.Rows.callWith_builtin1 (thn (ha pos Ac s σ H _ I h) fun us s1 ⟨vs,H1,I1,r1,q1⟩=>hc Ac s1 σ H1 vs us Q I1 r1 q1) he hpl
theorem Fb (hc:Km X (.type T) r) (hg:Gl X x) (hm:X.mg x=none) (hv:bootBuiltins x=some (.type T)) (ha:PA X (e::es) t) (hn:x≠"__name__":=by decide) (hdb:(x==("__debug__":Str))=false:=by decide)
 (he:starEach (e::es) X.env=(false,eval e X.env)::starEach es X.env:=by rfl) (hpl:(backTo pos (starEach es X.env)).any (·.1)=false:=by rfl):PE X (.Call (.Name x p) (e::es) [] pos) (tCB r t):=by
 intro Ac s σ H Q I h
 refine wpAny_Call_Name_kw (K8 I hg hm hv ?_ hn hdb)
 exact PyProof.Rows.callWith_type1 (thn (ha pos Ac s σ H _ I h) fun us s1 ⟨vs,H1,I1,r1,q1⟩=>hc Ac s1 σ H1 vs us Q I1 r1 q1) he hpl
end
end L2
namespace HT
open PySem PyProof.Rows
section
open PySem.SeqAt
open PySem.AutoSeq1 (wpAny_loadPart')
open PySem.MeetsSeq PySem.MeetsSeq2 PySem.MeetsSeq3
end
section
variable {prog:Program}{w:World}{A:Around}{E:Value->Shared->Prop}{s:Shared}
def sIx (n d:Nat):Option Int->Nat
 | none=>d
 | some v=>if v<0 then (v+(n:Int)).toNat else min v.toNat n
theorem sIx_nat (n d k:Nat):sIx n d (some (k:Int))=min k n:=by
 show (if (k:Int)<0 then ((k:Int)+(n:Int)).toNat else min (k:Int).toNat n)=min k n
 rw [if_neg (by omega),Int.toNat_natCast]
end
end HT
namespace L2
open PySem PySem.Spec PyProof.Rows
abbrev TO:=St->Hp->(Option Int->Hp->Prop)->Prop
def PO (X:Cx) (e:Option Expr) (t:TO):Prop :=
 ∀ (Ac:List (Addr × Obj)) (s:Shared) (σ:St) (H:Hp) (Q:Option Int->Hp->Prop),Inv X Ac σ H s->t σ H Q →
   wpAny (model X.prog X.w) X.A (evalPart e X.env) (fun u s'=>∃ o H',Inv X Ac σ H' s'/\IsPart u o/\Q o H') X.xe s
def Au2:TO:=fun _ H Q=>Q none H
def A67 (t:TE):TO:=fun σ H Q=>t σ H fun x H1=>∃ i,x=.int i/\Q (some i) H1
section
variable {X:Cx}{e:Expr}{te:TE}{lo hi:Option Expr}{tl th:TO}{pos p2:Pos}
theorem Ab1:PO X none Au2:=by
 intro Ac s σ H Q I h
 rw [evalPart_none]
 exact wpAny_pure ⟨none,H,I,.none,h⟩
theorem Tp (h:PE X e te):PO X (some e) (A67 te):=by
 intro Ac s σ H Q I hw
 rw [evalPart_some]
 refine thn (h Ac s σ H _ I hw) fun u s1 ⟨x,H1,I1,r1,q1⟩=>?_
 obtain⟨i,rfl,q⟩:=q1
 obtain⟨t,rfl⟩:=r1
 exact ⟨some i,H1,I1,.int i t,q⟩
def SlR (X:Cx) (r:V->Option Int->Option Int->Hp->VK->Prop):Prop :=
 ∀ (Ac:List (Addr × Obj)) (s:Shared) (σ:St) (H:Hp) (x:V) (v vl vu:Value) (lo hi:Option Int) (sl:Addr) (Q:VK),Inv X Ac σ H s->RelV x v->s.heap.IsSliceOf sl vl vu .none->IsPart vl lo->IsPart vu hi->r x lo hi H Q →
   ∃ T id,typeLookup (.type T) "__getitem__"=pure (some (.builtin id))/\s.TypeIs v T/\wpAny (model X.prog X.w) X.A (getItem v (.ref sl)) (EP X Ac σ Q) X.xe s
def tSl (r:V->Option Int->Option Int->Hp->VK->Prop) (te:TE) (tl th:TO):TE:=fun σ H Q=>te σ H fun x H1=>tl σ H1 fun l H2=>th σ H2 fun u H3=>r x l u H3 Q
theorem Ts {r:V->Option Int->Option Int->Hp->VK->Prop} (hr:SlR X r) (he:PE X e te) (hl:PO X lo tl) (hu:PO X hi th):PE X (.Subscript e (.Slice lo hi none p2) pos) (tSl r te tl th):=by
 intro Ac s σ H Q I h
 refine Subscript_ (thn (he Ac s σ H _ I h) fun v s1 ⟨x,H1,I1,r1,q1⟩=>?_)
 refine wpAny_Slice (thn (hl Ac s1 σ H1 _ I1 q1) fun vl s2 ⟨l,H2,I2,pl,q2⟩=>thn (hu Ac s2 σ H2 _ I2 q2) fun vu s3 ⟨u,H3,I3,pu,q3⟩=>?_)
 rw [evalPart_none]
 refine wpAny_pure ?_
 have I4:Inv X Ac σ H3 { s3 with heap:=s3.heap.push { cls:=.type "slice",data:=.fields #[vl,vu,.none] } }:=I3.kept (t':=s3.toks) fun b ob q=>Heap.get?_push_of_some _ q
 obtain⟨T,id,hT,ht,hg⟩:=hr Ac { s3 with heap:=s3.heap.push { cls:=.type "slice",data:=.fields #[vl,vu,.none] } } σ H3 x v vl vu l u s3.heap.objs.size Q I4 r1 (Heap.IsSliceOf.new ..) pl pu q3
 show wpAny (model X.prog X.w) X.A (subscriptTail e (.Slice lo hi none p2) v (.ref s3.heap.objs.size)) (EP X Ac σ Q) X.xe { s3 with heap:=s3.heap.push { cls:=.type "slice",data:=.fields #[vl,vu,.none] } }
 exact tail_any (ops:=[.ref s3.heap.objs.size,v]) ht hT hg (by with_unfolding_all rfl)
def cutV (xs:List V) (lo hi:Option Int):List V:=(xs.drop (HT.sIx xs.length 0 lo)).take (HT.sIx xs.length xs.length hi-HT.sIx xs.length 0 lo)
theorem Yt (xs:List V) (lo hi:Option Int):(cutV xs lo hi).length<=xs.length:=by
 unfold cutV
 rw [List.length_take,List.length_drop]
 omega
end
end L2
namespace L2
open PySem PySem.Spec PyProof.Rows
def ixN (n:Nat) (i:Int):Option Nat:=if 0<=i then (if i<n then some i.toNat else none) else if -(n:Int)<=i then some (i+n).toNat else none
def atI {α:Type} (xs:List α) (i:Int):Option α:=(ixN xs.length i).bind fun j=>xs[j]?
theorem Ag1 {n:Nat}{i:Int}{j:Nat} (h:ixN n i=some j):seqIndex? i n=some j/\j<n/\-(n:Int)<=i/\i<n:=by
 unfold ixN at h
 by_cases h0:0<=i
 . rw [if_pos h0] at h
   by_cases h1:i<n
   . rw [if_pos h1] at h
     have e:i.toNat=j:=Option.some.inj h
     exact ⟨by rw [seqIndex_of h0 h1,e],by omega,by omega,h1⟩
   . rw [if_neg h1] at h;cases h
 . rw [if_neg h0] at h
   by_cases h1:-(n:Int)<=i
   . rw [if_pos h1] at h
     have e:(i+n).toNat=j:=Option.some.inj h
     exact ⟨by rw [seqIndex_neg (by omega) h1,e],by omega,h1,by omega⟩
   . rw [if_neg h1] at h;cases h
theorem Al3 {α:Type}{xs:List α}{i:Int}{v:α} (h:atI xs i=some v):∃ j,seqIndex? i xs.length=some j/\xs[j]?=some v/\j<xs.length/\-(xs.length:Int)<=i/\i<xs.length:=by
 unfold atI at h
 cases e:ixN xs.length i with
 | none=>rw [e] at h;cases h
 | some j =>
   rw [e] at h
   obtain⟨h1,h2,h3,h4⟩:=Ag1 e
   exact ⟨j,h1,h,h2,h3,h4⟩
theorem Az {α:Type}{xs:List α}{j:Nat}{v:α} (h:xs[j]?=some v):atI xs (j:Int)=some v:=by
 have hj:j<xs.length:=(List.getElem?_eq_some_iff.mp h).1
 have e:ixN xs.length (j:Int)=some j:=by
  unfold ixN
  rw [if_pos (by omega),if_pos (by omega)];simp
 unfold atI;rw [e];exact h
def A09 (b:Expr):Prop:=∀ o i,subscripted b false o i=operate [o,i] (getItem o i)
def IxR (X:Cx) (r:R2):Prop :=
 ∀ (value slice:Expr) (Ac:List (Addr × Obj)) (s:Shared) (σ:St) (H:Hp) (x y:V) (v u:Value) (Q:VK),Inv X Ac σ H s->RelV x v->RelV y u->r x y H Q →
   subscripted slice false v u=operate [v,u] (getItem v u)->wpAny (model X.prog X.w) X.A (subscriptTail value slice v u) (EP X Ac σ Q) X.xe s
def MtR (X:Cx) (id:String) (r:V->List V->Hp->VK->Prop):Prop :=
 ∀ (Ac:List (Addr × Obj)) (s:Shared) (σ:St) (H:Hp) (x:V) (xs:List V) (v:Value) (us:List Value) (Q:VK),Inv X Ac σ H s->RelV x v->Vals xs us->r x xs H Q →
   wpAny (model X.prog X.w) X.A (call (.builtin id) (v::us)) (EP X Ac σ Q) X.xe s
section
variable {X:Cx}{a b:Expr}{ta tb:TE}{pos:Pos}
theorem A2 {r:R2} (hr:IxR X r) (ha:PE X a ta) (hb:PE X b tb) (hs:A09 b):PE X (.Subscript a b pos) (tOp r ta tb):=by
 intro Ac s σ H Q I h
 exact Subscript_ (binT ha hb I h fun v u s2 x y H2 I2 rx ry q=>hr a b Ac s2 σ H2 x y v u Q I2 rx ry q (hs _ _))
def rIxL (K:W.Frag):R2:=fun x y H Q=>∃ p xs i v,x=.ref p/\y=.int i/\SqL K H p xs/\atI xs i=some v/\Q v H
def rIxT (K:W.Frag):R2:=fun x y H Q=>∃ p xs i v,x=.ref p/\y=.int i/\SqT K H p xs/\atI xs i=some v/\Q v H
theorem Ay5:IxR X (rIxL X.K):=by
 intro value slice Ac s σ H x y v u Q I rx ry h hs
 obtain⟨p,xs,i,z,rfl,rfl,hq,he,q⟩:=h
 cases rx
 obtain⟨t,rfl⟩:=ry
 obtain⟨its,r,pl,hz⟩:=I.list hq
 obtain⟨j,h1,h2,h3,h4,h5⟩:=Al3 he
 obtain⟨w,ew,rw'⟩:=r.get h2
 have hl:=r.length
 have hn:=Zs
 have fin:EP X Ac σ Q w s:=⟨z,H,I,rw',q⟩
 by_cases h0:0<=i
 . have hj:i.toNat=j:=by
    rw [seqIndex_of h0 h5] at h1
    exact Option.some.inj h1
   exact item_listR pl.isList h0 (by omega) (by rw [hj];simpa using ew) fin hs
 . have hj:(i+(its.toArray.size:Int)).toNat=j:=by
    rw [seqIndex_neg (by omega) h4] at h1
    rw [List.size_toArray,←hl]
    exact Option.some.inj h1
   exact subscriptTail_builtinR (x:=w) pl.isList.typeIs slot_list_getitem.lookup
    (wpAny_getItem_list_neg (Q:=fun r s'=>r=w/\EP X Ac σ Q r s') pl.isList (by omega) (by rw [List.size_toArray]<;>omega) (by omega) (by rw [hj];simpa using ew) ⟨rfl,fin⟩) hs
theorem A48:IxR X (rIxT X.K):=by
 intro value slice Ac s σ H x y v u Q I rx ry h hs
 obtain⟨p,xs,i,z,rfl,rfl,hq,he,q⟩:=h
 cases rx
 obtain⟨t,rfl⟩:=ry
 obtain⟨its,r,pl,hz⟩:=I.tuple hq
 obtain⟨j,h1,h2,h3,h4,h5⟩:=Al3 he
 obtain⟨w,ew,rw'⟩:=r.get h2
 have hl:=r.length
 have hn:=Zs
 have fin:EP X Ac σ Q w s:=⟨z,H,I,rw',q⟩
 exact subscriptTail_builtinR (x:=w) pl.typeIs slot_tuple_getitem.lookup
  (getItem_tuple (j:=j) (Q:=fun r s'=>r=w/\EP X Ac σ Q r s') pl (by omega) (by omega) (by rw [List.size_toArray,←hl];exact h1) (by simpa using ew) ⟨rfl,fin⟩) hs
theorem j8 (its:List Value) (n j:Nat) (u:Value):Obj.mapSeq (·.setIfInBounds j u) { cls:=.type "list",data:=.seq its.toArray n }={ cls:=.type "list",data:=.seq (its.set j u).toArray n }:=by
 simp [Obj.mapSeq]
theorem Inv.lst {Ac:List (Addr × Obj)}{σ:St}{H:Hp}{s:Shared}{p:Addr}{xs:List V} (I:Inv X Ac σ H s) (h:H p=some (.lst xs)) :
 ∃ (its:List Value) (n:Nat),Vals xs its/\s.heap.get? p=some { cls:=.type "list",data:=.seq its.toArray n }/\xs.length<=sizeLine:=by
 obtain⟨z,its,n,r,e⟩:=I.hok p _ h
 exact ⟨its,n,r,e,z⟩
theorem Inv.lstUpd {Ac:List (Addr × Obj)}{σ:St}{H:Hp}{s:Shared}{p:Addr}{xs ys:List V}{its its':List Value}{n n':Nat}{f:Obj->Obj} (I:Inv X Ac σ H s) (h:H p=some (.lst xs))
 (ho:s.heap.get? p=some { cls:=.type "list",data:=.seq its.toArray n }) (hf:f { cls:=.type "list",data:=.seq its.toArray n }={ cls:=.type "list",data:=.seq its'.toArray n' }) (r:Vals ys its') (hz:ys.length<=sizeLine) (t:Nat) :
 Inv X Ac σ (upd H p (.lst ys)) { s with heap:=s.heap.update p f,toks:=t }:=by
 have e:(s.heap.update p f).get? p=some { cls:=.type "list",data:=.seq its'.toArray n' }:=by
  rw [Heap.get?_update_self f ho (by rw [hf]<;>rfl),hf]
 refine I.write (x:=p) (e:=p) (by rw [h];trivial) (.inl rfl) (fun b u hb q=>(Heap.get?_update_other _ _ (Ne.symm hb)).trans q) ⟨_,e⟩ ?_
 exact ⟨hz,its',n',r,e⟩
def A75:V->V->V->Hp->(Hp->Prop)->Prop:=fun o i v H Q=>∃ p xs k j,o=.ref p/\i=.int k/\H p=some (.lst xs)/\ixN xs.length k=some j/\Q (upd H p (.lst (xs.set j v)))
theorem Cb:PSet X A75:=by
 intro Ac s σ H o i v ov iv u Q I ro ri rv h
 obtain⟨p,xs,k,j,rfl,rfl,hp,hj,q⟩:=h
 cases ro
 obtain⟨t,rfl⟩:=ri
 obtain⟨its,n,r,ho,hz⟩:=I.lst hp
 obtain⟨h1,h2,h3,h4⟩:=Ag1 hj
 have hl:=r.length
 have hn:=Zs
 have I':Inv X Ac σ (upd H p (.lst (xs.set j v))) { s with heap:=s.heap.update p (Obj.mapSeq (·.setIfInBounds j u)) } :=
  I.lstUpd hp ho (j8 its n j u) (r.set rv j) (by rw [List.length_set];exact hz) s.toks
 by_cases h0:0<=k
 . have hk:k.toNat=j:=by
    rw [seqIndex_of h0 h4] at h1
    exact Option.some.inj h1
   exact PySem.W.ki_setAt ho h0 (by omega) (by rw [List.size_toArray,←hl];exact h4) (by rw [hk];exact ⟨_,I',q⟩)
 . have hk:(k+(its.toArray.size:Int)).toNat=j:=by
    rw [seqIndex_neg (by omega) h3] at h1
    rw [List.size_toArray,←hl]
    exact Option.some.inj h1
   exact PySem.W.ki_setBack ho (by omega) (by rw [List.size_toArray,←hl];exact h3) (by omega) (by rw [hk];exact ⟨_,I',q⟩)
theorem U1 (lo hi:Option Int) (n:Nat):(sliceBounds lo hi none n).1=((HT.sIx n 0 lo:Nat):Int)/\(sliceBounds lo hi none n).2.1=((HT.sIx n n hi:Nat):Int)/\(sliceBounds lo hi none n).2.2=1:=by
 refine⟨?_,?_,rfl⟩
 . cases lo with
   | none=>simp [sliceBounds,HT.sIx]
   | some i =>
     simp only [sliceBounds,HT.sIx,Option.getD_none,show (1:Int) > 0 by decide,if_true]
     by_cases h:i<0
     . simp only [h,if_true]<;>omega
     . simp only [h,if_false]<;>omega
 . cases hi with
   | none=>simp [sliceBounds,HT.sIx]
   | some i =>
     simp only [sliceBounds,HT.sIx,Option.getD_none,show (1:Int) > 0 by decide,if_true]
     by_cases h:i<0
     . simp only [h,if_true]<;>omega
     . simp only [h,if_false]<;>omega
theorem Te (its:List Value) (lo hi:Option Int):slicePick its.toArray lo hi none=((its.drop (HT.sIx its.length 0 lo)).take (HT.sIx its.length its.length hi-HT.sIx its.length 0 lo)).toArray:=by
 obtain⟨h1,h2,h3⟩:=U1 lo hi its.toArray.size
 unfold slicePick
 rw [h1,h2,h3]
 simp only [sliceRange_one,pick_run,List.size_toArray]<;>rfl
def rSlL (K:W.Frag):V->Option Int->Option Int->Hp->VK->Prop:=fun x lo hi H Q=>∃ a xs,x=.ref a/\SqL K H a xs/\∀ p,H p=none->Q (.ref p) (upd H p (.lst (cutV xs lo hi)))
theorem Au6:SlR X (rSlL X.K):=by
 intro Ac s σ H x v vl vu lo hi sl Q I rx hs pl pu h
 obtain⟨a,xs,rfl,hx,q⟩:=h
 cases rx
 obtain⟨its,r,ht,hz⟩:=I.list hx
 have hlen:=r.length
 refine⟨"list",_,slot_list_getitem.lookup,ht.isList.typeIs,?_⟩
 refine wpAny_getItem_list_slice ht.isList hs pl pu .none (by simp) ?_ (by rw [List.size_toArray]<;>omega)
 rw [Te,←hlen]
 refine⟨.ref s.heap.objs.size,_,I.laid (t':=s.toks) (o:=.lst (cutV xs lo hi)) (fun b ob q=>Heap.get?_push_of_some _ q) (Nat.le_refl _) ?_,rfl,q _ (I.hok.fresh (Nat.le_refl _))⟩
 exact ⟨Nat.le_trans (Yt xs lo hi) hz,_,0,(r.drop (HT.sIx xs.length 0 lo)).take (HT.sIx xs.length xs.length hi-HT.sIx xs.length 0 lo),Heap.get?_push_size _ rfl⟩
theorem Wr:Km X (.builtin "len") (fun xs H Q=>∃ p ys,xs=[.ref p]/\(SqL X.K H p ys\/SqT X.K H p ys)/\Q (.int ys.length) H):=by
 intro Ac s σ H xs us Q I r h
 obtain⟨p,ys,rfl,hq,q⟩:=h
 obtain⟨u,rfl,rx⟩:=v4 r
 cases rx
 have hn:=Zs
 rcases hq with hq | hq
 . obtain⟨its,r',pl,hz⟩:=I.list hq
   have hlen:=r'.length
   exact Calls.call_len_list pl.isList (by simp only [List.size_toArray]<;>omega) ⟨.int ys.length,H,I.tok _,⟨s.toks+1,by rw [List.size_toArray,hlen]⟩,q⟩
 . obtain⟨its,r',pl,hz⟩:=I.tuple hq
   have hlen:=r'.length
   exact len_tuple pl (by simp only [List.size_toArray]<;>omega) ⟨.int ys.length,H,I.tok _,⟨s.toks+1,by rw [List.size_toArray,hlen]⟩,q⟩
theorem Wq:Km X (.type "list") (fun xs H Q=>∃ p ys,xs=[.ref p]/\(SqL X.K H p ys\/SqT X.K H p ys)/\∀ l,H l=none->Q (.ref l) (upd H l (.lst ys))):=by
 intro Ac s σ H xs us Q I r h
 obtain⟨p,ys,rfl,hq,q⟩:=h
 obtain⟨u,rfl,rx⟩:=v4 r
 cases rx
 have fin:∀ (its:List Value),Vals ys its->ys.length<=sizeLine->∀ (h':Heap) (c':Nat),(∀ b o',s.heap.get? b=some o'->h'.get? b=some o') →
  h'.get? s.heap.objs.size=some { cls:=.type "list",dict:=none,data:=.seq its.toArray c',slots:=#[] }->EP X Ac σ Q (.ref s.heap.objs.size) { s with heap:=h' }:=fun its r' hz h' c' kp e =>
  ⟨.ref s.heap.objs.size,_,I.laid (t':=s.toks) kp (Nat.le_refl _) (show Kl X.prog X.w _ h' _ (.lst ys) from ⟨hz,its,c',r',e⟩),rfl,q _ (I.hok.fresh (Nat.le_refl _))⟩
 rcases hq with hq | hq
 . obtain⟨its,r',pl,hz⟩:=I.list hq
   have hlen:=r'.length
   obtain⟨o,ho,hc,n,hd⟩:=pl.isList
   exact call_list_seq p (.inl rfl) ho hc hd (fun h' c' kp e=>fin its r' hz h' c' kp e) (by simp only [List.size_toArray]<;>omega)
 . obtain⟨its,r',pl,hz⟩:=I.tuple hq
   have hlen:=r'.length
   obtain⟨o,ho,hc,n,hd⟩:=pl
   exact call_list_seq p (.inr rfl) ho hc hd (fun h' c' kp e=>fin its r' hz h' c' kp e) (by simp only [List.size_toArray]<;>omega)
theorem Us:Km X (.type "tuple") (fun xs H Q=>∃ p ys,xs=[.ref p]/\((SqL X.K H p ys/\∀ l,H l=none->Q (.ref l) (upd H l (.tup ys)))\/(SqT X.K H p ys/\Q (.ref p) H))):=by
 intro Ac s σ H xs us Q I r h
 obtain⟨p,ys,rfl,h⟩:=h
 obtain⟨u,rfl,rx⟩:=v4 r
 cases rx
 rcases h with ⟨hq,q⟩|⟨hq,q⟩
 . obtain⟨its,r',pl,hz⟩:=I.list hq
   have hlen:=r'.length
   refine call_tuple_list pl.isList (fun h' kp=>?_) (by simp only [List.size_toArray]<;>omega)
   have I1:Inv X Ac σ H { s with heap:=h' }:=I.kept (t':=s.toks) kp
   have I2:Inv X Ac σ (upd H h'.objs.size (.tup ys)) { s with heap:=h'.push { cls:=.type "tuple",data:=.seq its.toArray } } :=
    I1.laid (t':=s.toks) (fun b o e=>Heap.get?_push_of_some _ e) (Nat.le_refl _) (show Kl X.prog X.w _ _ _ (.tup ys) from ⟨hz,its,r',M5.new _ _⟩)
   exact ⟨.ref h'.objs.size,_,I2,rfl,q _ (I1.hok.fresh (Nat.le_refl _))⟩
 . obtain⟨its,r',pl,hz⟩:=I.tuple hq
   exact call_tuple_same pl ⟨.ref p,H,I,rfl,q⟩
def tyV (K:W.Frag) (T:String) (x:V) (H:Hp):Prop:=match x with
 | .str _=>T="str"
 | .int _=>T="int"
 | .ref p=>(T="list"/\∃ xs,SqL K H p xs)\/(T="tuple"/\∃ o,K.lookup p=some o/\o.cls=.type "tuple"/\o.dict=none) ∨
    (T="dict"/\((∃ Si,H p=some (.dK Si))\/∃ Si,H p=some (.dT Si)))\/(T="set"/\∃ S n,H p=some (.set S n))
 | _=>False
theorem A11 {Ac:List (Addr × Obj)}{σ:St}{H:Hp}{s:Shared}{T:String}{x:V}{v:Value} (I:Inv X Ac σ H s) (r:RelV x v) (ty:tyV X.K T x H) :
 s.TypeIs v T/\∀ a,v=.ref a->∃ ob,s.heap.get? a=some ob/\ob.dict=none:=by
 cases x with
 | str z =>
   obtain⟨t,rfl⟩:=r
   cases (show T="str" from ty)
   exact ⟨typeIs_str s z t,fun _ e=>nomatch e⟩
 | int i =>
   obtain⟨t,rfl⟩:=r
   cases (show T="int" from ty)
   exact ⟨typeIs_int s i t,fun _ e=>nomatch e⟩
 | ref p =>
   cases r
   rcases ty with ⟨rfl,xs,hq⟩|⟨rfl,o,hk,hc,hd⟩|⟨rfl,hk⟩|⟨rfl,S,n,hk⟩
   . obtain⟨its,_,pl,_⟩:=I.list hq
     refine⟨pl.isList.typeIs,fun a e=>?_⟩
     cases e
     obtain⟨o,n,e,c,hd,_⟩:=pl
     exact ⟨o,e,hd⟩
   . refine⟨⟨o,I.kIn p o hk,hc⟩,fun a e=>?_⟩
     cases e
     exact ⟨o,I.kIn _ o hk,hd⟩
   . have z:∃ o,s.heap.get? p=some o/\o.ExactDict:=by
      rcases hk with ⟨Si,hk⟩|⟨Si,hk⟩
      . obtain⟨_,_,_,_,o,_,_,e,ex,_⟩:=I.hok p _ hk
        exact ⟨o,e,ex⟩
      . obtain⟨_,_,_,_,o,_,_,e,ex,_⟩:=I.hok p _ hk
        exact ⟨o,e,ex⟩
     obtain⟨o,e,ex⟩:=z
     refine⟨⟨o,e,ex.1⟩,fun a e2=>?_⟩
     cases e2
     exact ⟨o,e,ex.2.1⟩
   . obtain⟨o,_,_,_,e,ex,_⟩:=I.hok p _ hk
     refine⟨⟨o,e,ex.1⟩,fun a e2=>?_⟩
     cases e2
     exact ⟨o,e,ex.2.1⟩
 | _=>exact False.elim ty
def tBM (K:W.Frag) (T:String) (r:V->List V->Hp->VK->Prop) (to:TE) (t:TA):TE:=fun σ H Q=>to σ H fun x H1=>tyV K T x H1/\t σ H1 fun xs H2=>r x xs H2 Q
variable {o e:Expr}{es:List Expr}{to:TE}{t:TA}{name:Str}{apos cpos:Pos}{T id:String}{r:V->List V->Hp->VK->Prop}
theorem A76 (pa:PlainAttrs T) (slot:Slot T name id) (hty:typeOf (.builtin id)=pure (.type "method_descriptor")) (hm:MtR X id r) (ho:PE X o to) (ha:PA X (e::es) t)
 (hbase:attributeBase o name X.env (eval o X.env)=eval o X.env:=by rfl)
 (hfew:((backTo cpos (starEach (e::es) X.env)).all (fun x=>!x.1)&&(backToKw cpos (keywordEach [] X.env)).all (fun x=>x.1.isSome)
   && decide ((e::es).length+([]:List Keyword).length+(if ([]:List Keyword).isEmpty then 0 else 1)<30))=true:=by rfl)
 (hline:(apos.endLine==cpos.line)=true:=by rfl) (hs:starEach (e::es) X.env=(false,eval e X.env)::starEach es X.env:=by rfl) (hplain:(backTo cpos (starEach es X.env)).any (·.1)=false:=by rfl) :
 PE X (.Call (.Attribute o name apos) (e::es) [] cpos) (tBM X.K T r to t):=by
 intro Ac s σ H Q I h
 refine wpAny_Call_method_late hbase hfew hline rfl (thn (ho Ac s σ H _ I h) fun v s1 ⟨x,H1,I1,r1,ty,q1⟩=>?_)
 obtain⟨h1,h2⟩:=A11 I1 r1 ty
 refine⟨T,id,pa,slot,hty,h1,h2,?_⟩
 have hA:=ha cpos Ac s1 σ H1 _ I1 q1
 rw [hs] at hA ⊢
 refine Calls.callWith_builtin (by show (false || (backTo cpos (starEach es X.env)).any (·.1))=false;rw [hplain]<;>rfl) (Calls.evalArgs_plain ?_)
 exact thn hA fun us s2 ⟨vs,H2,I2,r2,q2⟩=>hm Ac s2 σ H2 x vs v us Q I2 r1 r2 q2
end
end L2
namespace L2
open PySem PySem.Spec PyProof.Rows
def MtM (X:Cx) (id:String) (r:V->List V->Hp->VK->Prop):Prop :=
 ∀ (Ac:List (Addr × Obj)) (s:Shared) (σ:St) (H:Hp) (x:V) (xs:List V) (v:Value) (us:List Value) (Q:VK),Inv X Ac σ H s->RelV x v->Vals xs us->r x xs H Q →
   wpAny (model X.prog X.w) X.A (call (.builtin id) (v::us)) (EP X Ac σ Q) X.xe s
theorem Vals.one:∀{x:V}{us:List Value},Vals [x] us->∃ u,us=[u]/\RelV x u
 | _,_,.cons r .nil=>⟨_,rfl,r⟩
theorem Vals.eraseIdx:∀{xs:List V}{us:List Value} (i:Nat),Vals xs us->Vals (xs.eraseIdx i) (us.eraseIdx i)
 | _,_,_,.nil=>.nil
 | _,_,0,.cons _ t=>t
 | _,_,i+1,.cons r t=>.cons r (Vals.eraseIdx i t)
theorem Vals.rep {xs:List V}{us:List Value} (h:Vals xs us):∀ k:Nat,Vals (List.replicate k xs).flatten (List.replicate k us).flatten
 | 0=>.nil
 | k+1=>by
   rw [List.replicate_succ,List.replicate_succ,List.flatten_cons,List.flatten_cons]
   exact Vals.append h (Vals.rep h k)
theorem Vy {α:Type}:∀ (l:List α) (i:Nat),(l.eraseIdx i).length<=l.length
 | [],_=>Nat.le_refl _
 | _::_,0=>Nat.le_succ _
 | _::r,i+1=>Nat.succ_le_succ (Vy r i)
theorem V8 (its:List Value):∀ (k:Nat) (acc:List Value),
 List.foldl (fun x1 x2=>x1++x2) acc.toArray (List.replicate k its.toArray)=(acc++(List.replicate k its).flatten).toArray
 | 0,acc=>by simp
 | k+1,acc=>by
   have e:acc.toArray++its.toArray=(acc++its).toArray:=by simp
   have e2:(acc++its)++(List.replicate k its).flatten=acc++(List.replicate (k+1) its).flatten:=by
    rw [List.replicate_succ,List.flatten_cons,List.append_assoc]
   rw [←e2,←V8 its k (acc++its),←e,List.replicate_succ,List.foldl_cons]
section
variable {X:Cx}{Ac:List (Addr × Obj)}{σ:St}{H:Hp}{s:Shared}{l b:Addr}{xs ys zs:List V}
theorem Inv.lset {its its':List Value}{n:Nat}{f:Array Value->Array Value}{t':Nat} (I:Inv X Ac σ H s) (hH:H l=some (.lst xs))
 (e:s.heap.get? l=some { cls:=.type "list",data:=.seq its.toArray n }) (hf:f its.toArray=its'.toArray) (hv:Vals ys its') (hz:ys.length<=sizeLine) :
 Inv X Ac σ (upd H l (.lst ys)) { s with heap:=s.heap.update l (Obj.mapSeq f),toks:=t' }:=by
 have q:=PySem.IsL.update e f
 rw [hf] at q
 refine I.write (x:=l) (e:=l) (by rw [hH];exact trivial) (.inl rfl) (fun b' u hb hu=>(Heap.get?_update_other s.heap (Obj.mapSeq f) (Ne.symm hb)).trans hu) ⟨_,q⟩ ?_
 exact ⟨hz,its',_,hv,q⟩
theorem Inv.lnew {its:List Value}{t':Nat} (I:Inv X Ac σ H s) (hv:Vals ys its) (hz:ys.length<=sizeLine) :
 Inv X Ac σ (upd H s.heap.objs.size (.lst ys)) { s with heap:=s.heap.push { cls:=.type "list",data:=.seq its.toArray },toks:=t' } :=
 I.laid (fun _ _ q=>Heap.get?_push_of_some _ q) (Nat.le_refl _) ⟨hz,its,0,hv,Heap.get?_push_size _ rfl⟩
theorem Inv.fresh (I:Inv X Ac σ H s):H s.heap.objs.size=none:=I.hok.fresh (Nat.le_refl _)
theorem Inv.lstM (I:Inv X Ac σ H s) (hH:H l=some (.lst xs)):xs.length<=sizeLine/\∃ (its:List Value) (n:Nat),Vals xs its/\xs.length=its.length/\s.heap.get? l=some { cls:=.type "list",data:=.seq its.toArray n }:=by
 obtain⟨z,its,n,r,e⟩:=I.hok l _ hH
 exact ⟨z,its,n,r,r.length,e⟩
theorem Ao8 {n:Nat} (h:n<=sizeLine):Builtin.List.listTooLong n=false:=by
 unfold Builtin.List.listTooLong
 exact decide_eq_false (by omega)
end
section
variable {X:Cx}
def Av1:V->List V->Hp->VK->Prop:=fun x vs H Q=>∃ l xs y,x=.ref l/\vs=[y]/\H l=some (.lst xs)/\xs.length<sizeLine/\Q .non (upd H l (.lst (xs++[y])))
theorem Hl:MtM X "list.append" Av1:=by
 intro Ac s σ H x vs v us Q I rx rv h
 obtain⟨l,xs,y,rfl,rfl,hH,hz,q⟩:=h
 cases rx
 obtain⟨u,rfl,ru⟩:=rv.one
 obtain⟨z,its,n,r,hl,e⟩:=I.lstM hH
 refine call_meets F.slot_list_append ⟨_,e,rfl⟩ F.entry_list_append (F.args_list_append_2 _ _) (PySem.list_append l its.toArray n u (by rw [List.size_toArray];omega)) ⟨e,?_⟩
 refine⟨.non,_,I.lset (its':=its++[u]) hH e (by simp) (r.append (.cons ru .nil)) ?_,rfl,q⟩
 rw [List.length_append,List.length_singleton]
 omega
def A19:V->List V->Hp->VK->Prop:=fun x vs H Q=>∃ l xs i k y,x=.ref l/\vs=[.int i]/\H l=some (.lst xs)/\-(2 ^ 63)<=i/\i<2 ^ 63/\seqIndex? i xs.length=some k/\xs[k]?=some y/\Q y (upd H l (.lst (xs.eraseIdx k)))
theorem Zq:MtM X "list.pop" A19:=by
 intro Ac s σ H x vs v us Q I rx rv h
 obtain⟨l,xs,i,k,y,rfl,rfl,hH,h1,h2,hk,hy,q⟩:=h
 cases rx
 obtain⟨u,rfl,ru⟩:=rv.one
 obtain⟨t,rfl⟩:=ru
 obtain⟨z,its,n,r,hl,e⟩:=I.lstM hH
 obtain⟨w,hw,rw'⟩:=r.get hy
 refine call_meets F.slot_list_pop ⟨_,e,rfl⟩ F.entry_list_pop (F.args_list_pop_2 _ _)
  (MeetsSeq.list_pop_at l its.toArray n i t k w (fitsIndex_both h1 h2) (by rw [List.size_toArray,←hl];exact hk) (by rw [←Array.getElem?_toList];exact hw) (by rw [List.size_toArray];omega)) ⟨e,?_⟩
 refine⟨y,_,I.lset (its':=its.eraseIdx k) hH e ?_ (r.eraseIdx k) ?_,rw',q⟩
 . show its.toArray.eraseIdxIfInBounds k=(its.eraseIdx k).toArray
   rw [List.eraseIdxIfInBounds_toArray]
 . have:=Vy xs k
   omega
def rRep:R2:=fun x y H Q=>∃ l k xs,x=.ref l/\y=.int k/\H l=some (.lst xs)/\-(2 ^ 63)<=k/\k<2 ^ 63/\xs.length*k.toNat<=sizeLine ∧
 ∀ p,H p=none->Q (.ref p) (upd H p (.lst (List.replicate k.toNat xs).flatten))
theorem Ay2 {α:Type} (xs:List α) (k:Nat):(List.replicate k xs).flatten.length=k*xs.length:=by
 induction k with
 | zero=>simp
 | succ k ih=>rw [List.replicate_succ,List.flatten_cons,List.length_append,ih,Nat.succ_mul,Nat.add_comm]
theorem A27:OpR X (binaryOp .Mult) rRep:=by
 intro Ac s σ H x y v u Q I rx ry h
 obtain⟨l,k,xs,rfl,rfl,hH,h1,h2,hz,q⟩:=h
 cases rx
 obtain⟨t,rfl⟩:=ry
 obtain⟨z,its,n,r,hl,e⟩:=I.lstM hH
 have hlen:its.toArray.size*k.toNat<=sizeLine:=by rw [List.size_toArray,←hl];exact hz
 have hcap:¬its.toArray.size*k.toNat > (2 ^ 63-1) / 8:=by
  have:(sizeLine:Nat)<=(2 ^ 63-1) / 8:=by decide
  omega
 have hfit:¬(!Builtin.List.listFitsIndex k)=true:=by
  rw [fitsIndex_both h1 h2]
  exact Bool.false_ne_true
 have hlong:¬Builtin.List.listTooLong (its.toArray.size*k.toNat)=true:=by
  rw [Ao8 hlen]
  exact Bool.false_ne_true
 have hnew:List.foldl (fun x1 x2=>x1++x2) #[] (List.replicate (if its.toArray.isEmpty=true then 0 else k.toNat) its.toArray)=(List.replicate k.toNat its).flatten.toArray:=by
  have f0:∀ m:Nat,List.foldl (fun x1 x2=>x1++x2) #[] (List.replicate m its.toArray)=(List.replicate m its).flatten.toArray:=fun m=>by
   have:=V8 its m []
   rw [List.nil_append] at this
   exact this
  rw [f0]
  cases its with
  | nil=>simp
  | cons a r'=>rw [if_neg (by simp)]
 refine wpAny_binaryOp_repeat_ref (T:="list") (U:="int") (by decide) ⟨_,e,rfl⟩ (fun s'=>typeIs_int s' k t) noFill_list_mul F.fills_int_mul F.slot_int_rmul repeat_list F.slot_int_index.lookup
  (call_meets F.slot_int_rmul (typeIs_int s k t) F.entry_int_rmul (F.args_int_rmul_2 _ _) (int___rmul___int_list k t l its.toArray n)
    ⟨e,rfl,⟨_,e,rfl⟩,call_meets F.slot_list_mul ⟨_,e,rfl⟩ F.entry_list_mul (F.args_list_mul_2 _ _) (AutoListH.list___mul___list_int_3 l its.toArray n k t hfit hcap hlong) ⟨e,?_⟩⟩)
 rw [hnew]
 exact ⟨.ref _,_,I.lnew (t':=s.toks) (r.rep k.toNat) (by rw [Ay2,Nat.mul_comm];exact hz),rfl,q _ I.fresh⟩
end
section
variable {prog:Program}{w:World}{A:Around}{E:Value->Shared->Prop}{s:Shared}
end
section
variable {X:Cx}
end
end L2
namespace Att
open PySem PySem.W PySem.Calls PyProof.Rows
theorem Ps {P:Params}{h:Heap}:∀ (ns:List Int) (vs:List Value),WellAll P h vs (ns.map WData.int)->IntsAre vs ns:=by
 intro ns
 induction ns with
 | nil =>
   intro vs w
   rw [List.map_nil] at w
   cases w
   exact .nil
 | cons n ns ih =>
   intro vs w
   rw [List.map_cons] at w
   cases w with
   | cons a b =>
     cases a
     exact .cons _ _ (ih _ b)
theorem script_of {l:OpenLaw}{n:Nat} (hn:l.most=some n) {P:Params}{h:Heap}{args:List WData}{vals:List Value}
 (hpre:l.row.toRowW.claim.pre args=true) (hwl:WellAll P h vals args) :
 ∃ a vs ns,vals=[Value.ref a]/\args=[WData.list (ns.map WData.int)]/\h.get? a=some { cls:=.type "list",data:=.seq vs.toArray }/\IntsAre vs ns/\ns.length<=n:=by
 have hsh:WShape.hasAll [] args [.list .int]=true:=(pre_splitW hpre).1
 have hc:l.pre.holds [] { args:=args }=true:=(pre_splitW hpre).2
 obtain⟨d,r,rfl,h1,h2⟩:=hasAllW_cons hsh
 obtain rfl:=hasAllW_nil h2
 obtain⟨xs,rfl,h3⟩:=hasW_list h1
 obtain⟨ns,rfl⟩:=items_int h3
 have hlen:ns.length<=n:=by
  unfold OpenLaw.pre at hc
  have h4:(WTm.not (.lt (.lit (.int (n:Int))) (.len (.arg 0)))).holds [] { args:=[.list (ns.map .int)] }=true:=by
   have h4:=(holds_andW hc).1
   rw [hn] at h4
   exact h4
  have h5:=condW_of h4 (w_not (w_lt w_lit (w_len_list (w_arg rfl))))
  rw [List.length_map] at h5
  refine Nat.le_of_not_lt fun q=>?_
  have q':(n:Int)<((ns.length:Nat):Int):=by omega
  first
   | (rw [decide_eq_true q'] at h5;exact absurd h5 (by decide))
   | (simp at h5;omega)
 cases hwl with
 | cons w1 w2 =>
   cases w2
   cases w1 with
   | list ho hall=>exact ⟨_,_,ns,rfl,rfl,ho,Ps ns _ hall,hlen⟩
theorem post_true (l:OpenLaw) (args:List WData):l.row.toRowW.claim.post args (.bool true) args=true :=
 postW_of (r:=l.row.toRowW) (X:=(true==true))
  (show WShape.has [] (.bool true) .bool=true by first | rfl | decide | simp [WShape.has,WShape.arms,WShape.armsAll])
  (show (WTm.eq .res (.lit (.bool true))).value [] { args:=args,res:=some (.bool true),after:=args }=some (.bool (true==true)) from w_eq_bool (w_res rfl) w_lit) rfl
section
variable {prog:Program}{w:World}{A:Around}{E:Value->Shared->Prop}{s:Shared}{K:Frag}
end
end Att
namespace L2
open PySem PySem.Spec PyProof.Rows
theorem Uw:∀{vs:List Value}{ns:List Int},IntsAre vs ns->Vals (ns.map V.int) vs
 | _,_,.nil=>.nil
 | _,_,.cons n t h=>.cons ⟨t,rfl⟩ (Uw h)
def Only (H:Hp):Prop:=∀ b,H b=none\/∃ o xs,H b=some (.frz o (.lst xs))
theorem Ap3 {P:Program}{w:World}{K:W.Frag}{mg mb:Str->Option Value}{CX:CXT}{k:Nat}{fa a:Addr}{fd:FuncData}{x:Str}{sp:Sp}{s₁:Shared}{vs:List Value}{ns:List Int}
 (KX:K.In s₁.heap) (hns:s₁.heap.Ns mainGlobals mg) (hb:s₁.heap.Ns builtinsNs mb) (hbb:∀ x:Str,x≠"__name__"->mb x=bootBuiltins x) (hlim:s₁.heap.NoLimit) (hg:s₁.gens=#[])
 (ha:s₁.heap.get? a=some { cls:=.type "list",data:=.seq vs.toArray }) (hi:IntsAre vs ns) (hl:ns.length<=sizeLine) (hr:Room k callerA)
 (F:∀ base:Heap,K.In base->base.Ns mainGlobals mg->FnOk P w K mg base CX k fa fd [x] sp) (hbind:∀ (s:Shared) (u:Value),BindsTo s fd ⟨[u],[]⟩ [(x,u)])
 (hsp:∀ H:Hp,Only H->SqL K H a (ns.map V.int)->sp [.ref a] H (fun v _=>v=.bl true) fun _ _ _=>False)
 (hCX:∀ H e s',CX [] H s₁ (fun _ _ _=>False) e s'->False) :
 codeAny (model P w) callerA (.call (.ref fa) ⟨[.ref a],[]⟩) (fun r s'=>r=.ok (.ret (.bool true))/\OldK s₁.heap s'.heap/\s'.os=s₁.os/\AllBare s'.gens) s₁:=by
 have rv:=Uw hi
 have lenV:=hi.length
 have core:∀ H:Hp,Only H->SqL K H a (ns.map V.int)->HOk P w H s₁.heap->(∀ b,H b≠none->b=a)->(H a≠none->K.lookup a=none) →
  codeAny (model P w) callerA (.call (.ref fa) ⟨[.ref a],[]⟩) (fun r s'=>r=.ok (.ret (.bool true))/\OldK s₁.heap s'.heap/\s'.os=s₁.os/\AllBare s'.gens) s₁:=by
  intro H hO hS hok hA hK
  have base_of:∀{b:Addr}{o:Obj},s₁.heap.get? b=some o->H b=none->(hidT s₁.heap H).get? b=some o:=fun e n=>Ap8 e n
  have noA:∀{b:Addr}{o:Obj}{es:Array DictEntry}{ep:Nat},s₁.heap.get? b=some o->o.data=.dict es ep->H b=none:=fun {b o es ep} e d=>by
   cases q:H b with
   | none=>rfl
   | some u =>
     have e':b=a:=hA b (by rw [q];simp)
     subst e'
     rw [ha] at e;cases e
     have d':Data.seq vs.toArray _=Data.dict es ep:=d
     cases d'
  have nsK:∀{b:Addr}{m:Str->Option Value},s₁.heap.Ns b m->(hidT s₁.heap H).Ns b m:=fun {b m} ⟨o,es,ep,e,d,r⟩=>⟨o,es,ep,base_of e (noA e d),d,r⟩
  have hKb:K.In (hidT s₁.heap H):=fun b o e=>base_of (KX b o e) (by
   cases q:H b with
   | none=>rfl
   | some u =>
     have e':b=a:=hA b (by rw [q];simp)
     subst e'
     rw [hK (by rw [q];simp)] at e;cases e)
  have hM:Mod K mg (hidT s₁.heap H):=⟨hKb,nsK hns,⟨mb,nsK hb,hbb⟩,let ⟨mc,h1,h2⟩:=hlim;⟨mc,nsK h1,h2⟩⟩
  have e0:Env0 P w K mg (hidT s₁.heap H) callerA [] s₁ H:=⟨rfl,hM,fun b o e=>Aw9 e,Nat.le_of_eq (Ag5 _ _),trivial,fun b hb=>absurd (show b∈([]:List Addr) from hb) (by simp),hok,.of_eq hg⟩
  refine codeAny_mono ((F _ hKb (nsK hns)).run callerA [] s₁ H ⟨[.ref a],[]⟩ [.ref a] [.ref a] _ _ hr e0 (hbind s₁ (.ref a)) (.cons rfl .nil) (hsp H hO hS)) fun r s' h=>?_
  cases r with
  | error e=>exact (hCX H e s' h).elim
  | ok fl =>
    cases fl with
    | next=>exact False.elim h
    | brk=>exact False.elim h
    | cont=>exact False.elim h
    | ret u =>
      obtain⟨v,H',os,bare,un,hok',r',q⟩:=h
      have q':v=.bl true:=q
      subst q'
      obtain rfl:u=Value.bool true:=r'
      refine⟨rfl,OldK.of_keep fun b o e=>?_,os,bare⟩
      cases q:H b with
      | none=>exact un.keep b o e q (by intro z;exact absurd (show b∈([]:List Addr) from z) (by simp)) (by simp)
      | some u =>
        rcases hO b with z|⟨ob,xs,z⟩
        . rw [q] at z;cases z
        . have z2:=un.frzs b ob _ z
          obtain⟨e1,_⟩:=hok b _ z
          obtain⟨e2,_⟩:=hok' b _ z2
          rw [e] at e1;cases e1
          exact e2
 cases hk:K.lookup a with
 | some o =>
   have e:=KX a o hk
   rw [ha] at e
   cases e
   refine core (fun _=>none) (fun _=>.inl rfl) (.inr ⟨_,vs.toArray,_,hk,rfl,rfl,rfl,by rw [List.size_toArray,lenV];exact hl,by simpa using rv⟩) (fun b u z=>by have z':(none:Option HO)=some u:=z;cases z') (fun b z=>absurd rfl z) fun z=>absurd rfl z
 | none =>
   refine core (fun b=>if b=a then some (.frz { cls:=.type "list",data:=.seq vs.toArray } (.lst (ns.map V.int))) else none) (fun b=>?_) (.inl (.inr ⟨{ cls:=.type "list",data:=.seq vs.toArray },if_pos rfl⟩)) (fun b u z=>?_) (fun b z=>?_) fun _=>hk
   . by_cases hb:b=a
     . exact .inr ⟨_,_,if_pos hb⟩
     . exact .inl (if_neg hb)
   . by_cases hb:b=a
     . have z':=(if_pos hb).symm.trans z
       cases z'
       subst hb
       exact ⟨ha,by rw [List.length_map];exact hl,vs,_,rv,ha⟩
     . have z':=(if_neg hb).symm.trans z
       cases z'
   . by_cases hb:b=a
     . exact hb
     . exact absurd (if_neg hb) z
end L2
namespace L2
open PySem PySem.Spec PyProof.Rows
end L2
namespace L2
open PySem PySem.Spec PyProof.Rows
def Dx (s:Stmt) (j:Nat):Stmt:=match s with
 | .ClassDef _ _ _ body _ _ _ _ _ _ _=>body.getD j (.Pass ⟨0,0,0,0⟩)
 | _=>.Pass ⟨0,0,0,0⟩
def Ax (s:Stmt):Arguments:=match s with
 | .FunctionDef _ a _ _ _ _ _ _ _ _=>a
 | _=>{ posonlyargs:=[],args:=[],vararg:=none,kwonlyargs:=[],kw_defaults:=[],kwarg:=none,defaults:=[] }
def Aw (s:Stmt):List Stmt:=match s with
 | .FunctionDef _ _ b _ _ _ _ _ _ _=>b
 | _=>[]
def Aj (s:Stmt):Scope:=match s with
 | .FunctionDef _ _ _ _ _ _ sc _ _ _=>sc
 | _=>{ kind:=.function,names:=[],isGenerator:=false,isCoroutine:=false }
abbrev CX0:CXT:=fun _ _ _ _ _ _=>False
abbrev E0:XK:=fun _ _ _=>False
theorem Ac1 {X:Cx}:Qq CX0 X E0:=fun _ _ _ _ _ _ _ h=>h.elim
structure Fun (K:W.Frag) (x qual:Str) (st:Stmt) (f:Addr) (fd:FuncData):Prop where
 ex:∃ (oc:Value) (od:Option Addr) (kV doc pm:Value) (an:Option Addr) (C5 ct:Value) (osl:Array (Option Value)),
  fd=PySem.W.fnOf x qual (Ax st) (Aw st) (Aj st) .none kV doc pm an C5 ct/\K.lookup f=some ⟨oc,od,.func fd,osl⟩/\PySem.W.codeIn K C5 qual=true
 kp:PySem.W.keepIn K (.ref f)=true
section
variable {P:Program}{w:World}{K:W.Frag}{mg:Str->Option Value}{base:Heap}
theorem Fun.ok {x qual:Str}{st:Stmt}{f:Addr}{fd:FuncData}{N ps:List Str}{k:Nat}{sp:Sp} (F:Fun K x qual st f fd) (S:FnScope N ps (Aj st)) (len:∀ vs H Q E,sp vs H Q E->vs.length=ps.length)
 (hbody:∀ (C5:Value) (A:Around) (outer:List Env) (s:Shared) (H:Hp) (vs:List V) (Q:VK) (E:XK),Room k (A.deeper (envOfC qual (Aj st) s.heap.objs.size f C5))->sp vs H Q E →
   ∃ t,PSs (cxOf CX0 P w K mg base N qual (Aj st) f C5 A outer s H E).nox (Aw st) t/\t { nx:=fun _ H'=>Q .non H',rt:=Q } (start N vs) H):FnOk P w K mg base CX0 (k+1) f fd ps sp:=by
 obtain⟨oc,od,kV,doc,pm,an,C5,ct,osl,rfl,lk,hcd⟩:=F.ex
 refine A92 lk hcd S len fun A outer s H vs Q E hr hsp=>?_
 obtain⟨t,h,q⟩:=hbody C5 A outer s H vs Q E hr hsp
 exact ⟨t,h.nox,q⟩
theorem Fun.binds {x qual:Str}{st:Stmt}{f:Addr}{fd:FuncData}{ps:List Str} (F:Fun K x qual st f fd)
 (h:∀ (kV doc pm:Value) (an:Option Addr) (C5 ct:Value) (us:List Value),us.length=ps.length->bindArgs (PySem.W.fnOf x qual (Ax st) (Aw st) (Aj st) .none kV doc pm an C5 ct) ⟨us,[]⟩=pure (ps.zip us)):My K fd ps []:=by
 obtain⟨oc,od,kV,doc,pm,an,C5,ct,osl,rfl,lk,hcd⟩:=F.ex
 exact .all (h kV doc pm an C5 ct)
theorem Be {x qual:Str}{st:Stmt}{f:Addr}{oc:Value}{od an:Option Addr}{osl:Array (Option Value)}{kV doc pm C5 ct:Value} (l:K.lookup f=some ⟨oc,od,.func (PySem.W.fnOf x qual (Ax st) (Aw st) (Aj st) .none kV doc pm an C5 ct),osl⟩)
 (c:PySem.W.codeIn K C5 qual=true) (k:PySem.W.keepIn K (.ref f)=true):Fun K x qual st f (PySem.W.fnOf x qual (Ax st) (Aw st) (Aj st) .none kV doc pm an C5 ct):=⟨⟨oc,od,kV,doc,pm,an,C5,ct,osl,rfl,l,c⟩,k⟩
end
section
variable {X:Cx}
theorem pv (i:Nat) {x:Str}{pos:Pos} (hN:X.N[i]?=some x:=by rfl) (hv:Vis X.env.scope x:=by first | exact Or.inl rfl | exact Or.inr (Or.inl rfl) | exact Or.inr (Or.inr rfl)) (hd:(x==("__debug__":Str))=false:=by decide)
 (hcd:(x==("__classdict__":Str))=false:=by decide):PE X (.Name x pos) (tVar i):=A24 hN hv hd hcd
end
theorem ite2 {c A B:Prop} [Decidable c] (h1:c->A) (h2:¬c->B):if c then A else B:=by
 by_cases h:c
 . rw [if_pos h]
   exact h1 h
 . rw [if_neg h]
   exact h2 h
def Same (H H':Hp):Prop:=∀ b o,H b=some o->H' b=some o
theorem Same.refl (H:Hp):Same H H:=fun _ _ h=>h
theorem Same.trans {H H1 H2:Hp} (a:Same H H1) (b:Same H1 H2):Same H H2:=fun c o h=>b c o (a c o h)
theorem Same.free {H H':Hp} (e:Same H H') {l:Addr} (h:H' l=Option.none):H l=Option.none:=by
 cases q:H l with
 | none=>rfl
 | some o =>
   rw [e l o q] at h
   cases h
theorem Same.seq {K:W.Frag}{H H':Hp}{a:Addr}{xs:List V} (e:Same H H') (h:SqL K H a xs):SqL K H' a xs:=by
 rcases h with (h|⟨o,h⟩) | h
 . exact .inl (.inl (e _ _ h))
 . exact .inl (.inr ⟨o,e _ _ h⟩)
 . exact .inr h
end L2
namespace L2
open PySem PySem.Spec PyProof.Rows
def clOf (cells:List (Str × Addr)):List (Str × NameKind)->List (Str × Addr)->List (Str × Addr)
 | [],acc=>acc
 | (n,k)::r,acc=>clOf cells r (if (k==NameKind.free)=true then (n,(cells.lookup n).getD 0)::acc else acc)
theorem t7 {sc:Scope}{env:Env} (h:∀ n,(n,NameKind.free)∈sc.names->∃ c,env.cells.lookup n=some c):closureFor sc env=pure (clOf env.cells sc.names []):=by
 have all:∀ (l:List (Str × NameKind)) (acc:List (Str × Addr)),(∀ n,(n,NameKind.free)∈l->∃ c,env.cells.lookup n=some c) →
  (forIn l acc fun (x:Str × NameKind) (cs:List (Str × Addr))=>match x with
    | (name,kind)=>if (kind==NameKind.free)=true then (do let c ←cellOf env name;pure (ForInStep.yield ((name,c)::cs))) else pure (ForInStep.yield cs))=(pure (clOf env.cells l acc):Sem _):=by
  intro l
  induction l with
  | nil=>intro acc _;rfl
  | cons x r ih =>
    intro acc hl
    obtain⟨n,k⟩:=x
    rw [List.forIn_cons]
    by_cases hk:(k==NameKind.free)=true
    . have hk':k=NameKind.free:=by simpa using hk
      subst hk'
      obtain⟨c,hc⟩:=hl n List.mem_cons_self
      have e1:cellOf env n=pure c:=by unfold cellOf;rw [hc]
      simp only [beq_self_eq_true,if_true,e1,pure_bind]
      rw [ih _ fun m hm=>hl m (List.mem_cons_of_mem _ hm)]
      show _=(pure (clOf env.cells r (if (NameKind.free==NameKind.free)=true then (n,(env.cells.lookup n).getD 0)::acc else acc)):Sem _)
      rw [if_pos (by simp),hc]
      rfl
    . have hk2:(k==NameKind.free)=false:=by simpa using hk
      simp only [hk2,Bool.false_eq_true,if_false,pure_bind]
      rw [ih _ fun m hm=>hl m (List.mem_cons_of_mem _ hm)]
      show _=(pure (clOf env.cells r (if (k==NameKind.free)=true then (n,(env.cells.lookup n).getD 0)::acc else acc)):Sem _)
      rw [if_neg hk]
 have:=all sc.names [] h
 unfold closureFor
 dsimp only
 rw [this,pure_bind]
theorem Dv {cells:List (Str × Addr)}{x:Str}{c:Addr}:∀{l:List (Str × NameKind)}{acc:List (Str × Addr)},(∀ n,(n,NameKind.free)∈l->∃ c,cells.lookup n=some c) →
 (acc.lookup x=some c->cells.lookup x=some c)->(clOf cells l acc).lookup x=some c->cells.lookup x=some c
 | [],_,_,ha,h=>ha h
 | (n,k)::r,acc,hl,ha,h=>by
   refine Dv (l:=r) (fun m hm=>hl m (List.mem_cons_of_mem _ hm)) ?_ h
   by_cases hk:(k==NameKind.free)=true
   . rw [if_pos hk]
     have hk':k=NameKind.free:=by simpa using hk
     subst hk'
     obtain⟨d,hd⟩:=hl n List.mem_cons_self
     intro e
     rw [List.lookup_cons] at e
     cases hx:x==n with
     | true =>
       rw [hx] at e
       have hxn:x=n:=by simpa using hx
       subst hxn
       rw [hd] at e ⊢
       exact e
     | false=>rw [hx] at e;exact ha e
   . rw [if_neg hk];exact ha
theorem Ur {cells:List (Str × Addr)}{x:Str}:∀{l:List (Str × NameKind)}{acc:List (Str × Addr)},((x,NameKind.free)∈l\/∃ c,acc.lookup x=some c)->∃ c,(clOf cells l acc).lookup x=some c
 | [],_,h=>by
   rcases h with h | h
   . exact nomatch h
   . exact h
 | (n,k)::r,acc,h=>by
   refine Ur (l:=r) ?_
   by_cases hk:(k==NameKind.free)=true
   . rw [if_pos hk]
     by_cases hx:(x==n)=true
     . exact .inr ⟨(cells.lookup n).getD 0,by rw [List.lookup_cons,hx]⟩
     . have hx2:(x==n)=false:=by simpa using hx
       rcases h with h|⟨c,h⟩
       . rcases List.mem_cons.mp h with e | e
         . have e1:x=n:=congrArg Prod.fst e
           exact absurd (by simp [e1]) hx
         . exact .inl e
       . exact .inr ⟨c,by rw [List.lookup_cons,hx2];exact h⟩
   . rw [if_neg hk]
     rcases h with h | h
     . rcases List.mem_cons.mp h with e | e
       . have e2:NameKind.free=k:=congrArg Prod.snd e
         exact absurd (by simp [←e2]) hk
       . exact .inl e
     . exact .inr h
def Fo (X:Cx) (sc:Scope) (N':List Str) (C:Addr) (s₀:Shared) (H₀:Hp) (fp:List Addr):Cx where
 prog:=X.prog
 w:=X.w
 K:=X.K
 mg:=X.mg
 base:=X.base
 A:=X.A
 N:=N'
 s₀:=s₀
 H₀:=H₀
 env:=compEnvC sc (clOf X.env.cells sc.names []) C X.env
 outer:=X.stack
 stack:=X.stack
 ex:=fp
 fn:=fun _=>false
 calm:=X.calm
 pn:=[]
 xe:=fun _ _=>False
def capS (cap:List (Option Nat)) (σ:St):St:=cap.map fun o=>o.bind fun j=>(σ[j]?).join
structure Zc (X:Cx) (sc:Scope) (N':List Str) (cap:List (Option Nat)):Prop where
 kind:sc.kind=.function
 len:cap.length=N'.length
 nocell:∀ x∈sc.names,x.2≠NameKind.cell
 locals:∀ x∈sc.names,x.2=NameKind.local->sc.names.lookup x.1=some NameKind.local
 free:∀ n,(n,NameKind.free)∈sc.names->X.env.kindOf n=some .cell\/X.env.kindOf n=some .free
 slots:∀ (i j:Nat) (x:Str),N'[i]?=some x->cap[i]?=some (some j)->X.N[j]?=some x/\((relabel sc X.env).names.lookup x=some .cell\/(relabel sc X.env).names.lookup x=some .free)/\Vis X.env.scope x
section
variable {X:Cx}{sc:Scope}{N':List Str}{cap:List (Option Nat)}{Ac:List (Addr × Obj)}{σ:St}{H:Hp}{s:Shared}{C:Addr}{fp:List Addr}
theorem Zc.cells (c:Zc X sc N' cap) (ok:X.Ok):∀ n,(n,NameKind.free)∈sc.names->∃ c,X.env.cells.lookup n=some c:=fun n hn=>ok.has n (c.free n hn)
theorem Gf {env:Env}{x:Str}{k:NameKind} (hnc:∀ x∈sc.names,x.2≠NameKind.cell) (h:(relabel sc env).names.lookup x=some k) (hk:k=.cell\/k=.free):(x,NameKind.free)∈sc.names:=by
 have all:∀ (l:List (Str × NameKind)),(∀ x∈l,x.2≠NameKind.cell)->(l.map fun (n,k)=>if (k==NameKind.free&&env.scope.kind==.function&&env.kindOf n==some .cell) then (n,NameKind.cell) else (n,k)).lookup x=some k->(x,NameKind.free)∈l:=by
  intro l
  induction l with
  | nil=>intro _ h;exact nomatch h
  | cons p r ih =>
    intro hn h
    obtain⟨n,q⟩:=p
    rw [List.map_cons,List.lookup_cons] at h
    by_cases hc:(q==NameKind.free&&env.scope.kind==.function&&env.kindOf n==some .cell)=true
    . have hq:q=NameKind.free:=by
       have:=hc
       simp only [Bool.and_eq_true] at this
       simpa using this.1.1
      simp only [hc,if_true] at h
      cases hx:x==n with
      | true =>
        have e:x=n:=by simpa using hx
        rw [e,hq]
        exact List.mem_cons_self
      | false =>
        rw [hx] at h
        exact List.mem_cons_of_mem _ (ih (fun y hy=>hn y (List.mem_cons_of_mem _ hy)) h)
    . simp only [hc] at h
      cases hx:x==n with
      | true =>
        have e:x=n:=by simpa using hx
        simp only [Bool.false_eq_true,if_false,hx] at h
        have e2:q=k:=by simpa using h
        rcases hk with z | z
        . exact absurd (e2.trans z) (hn (n,q) List.mem_cons_self)
        . rw [e,←z,←e2]
          exact List.mem_cons_self
      | false =>
        simp only [Bool.false_eq_true,if_false,hx] at h
        exact List.mem_cons_of_mem _ (ih (fun y hy=>hn y (List.mem_cons_of_mem _ hy)) h)
 exact all sc.names hnc h
theorem Az8 (c:Zc X sc N' cap) (I:Inv X Ac σ H s) (hC:s.heap.objs.size<=C) (hf:∀ b∈fp,FpOk X Ac H b) (hb:∀ b∈fp,b<s.heap.objs.size):(Fo X sc N' C s H fp).Ok where
 mod:=I.ok.mod
 kind:=c.kind
 glob:=I.ok.glob
 blt:=I.ok.blt
 above:=hC
 inj:=fun x y a hx hy=>I.ok.inj x y a (Dv (c.cells I.ok) (fun z=>by simp at z) hx) (Dv (c.cells I.ok) (fun z=>by simp at z) hy)
 has:=fun x hx=>by
  refine Ur (.inl ?_)
  rcases hx with hx | hx
  . exact Gf c.nocell hx (.inl rfl)
  . exact Gf c.nocell hx (.inr rfl)
 cab:=fun _ _ h=>nomatch h
 hd:=I.ok.hd
 frames:=I.ok.frames
 stk:=.inl rfl
 exf:=fun b hb'=>⟨Nat.ne_of_lt (Nat.lt_of_lt_of_le (hb b hb') hC),fun x a e=>(hf b hb').2.2.2.2.1 x a (Dv (c.cells I.ok) (fun z=>by simp at z) e)⟩
 bs:=I.bs
 bsz:=Nat.le_trans I.ok.bsz I.sz
 noex:=fun b o e hb'=>by
  rcases (hf b hb').2.2.2.1 with z | z
  . exact I.ok.noex b o e z
  . exact absurd (Nat.lt_of_lt_of_le (Heap.lt_size e) (Nat.le_trans I.ok.bsz z)) (Nat.lt_irrefl _)
 exfs:=fun b hb' z=>by
  obtain⟨_,f1,f2,_⟩:=hf b hb'
  rcases List.mem_cons.mp (I.stkSub b z) with e | e
  . exact f1 e
  . exact f2 e
 funs:=I.stack
 frf:=I.stkFree
theorem Ar1 (c:Zc X sc N' cap) (I:Inv X Ac σ H s) {D:Addr}{h1:Heap}{t:Nat} (hC:C=s.heap.objs.size+1) (hD:D=s.heap.objs.size) (hf:∀ b∈fp,FpOk X Ac H b) (hb:∀ b∈fp,b<s.heap.objs.size)
 (hn:h1.Ns C fun _=>none) (hl:h1.get? D=some { cls:=.type "list",data:=.seq #[] 0 }) (k:∀ b o,s.heap.get? b=some o->h1.get? b=some o) :
 Inv (Fo X sc N' C s H fp) [] (capS cap σ) (upd H D (.lst [])) { s with heap:=h1,toks:=t }:=by
 have hCs:s.heap.objs.size<=C:=by rw [hC];exact Nat.le_succ _
 have hCD:C≠D:=by rw [hC,hD];exact Nat.succ_ne_self _
 have ok:=Az8 (C:=C) (fp:=fp) c I hCs hf hb
 have hDn:H D=none:=by rw [hD];exact I.fresh
 have ltc:∀ x a,(clOf X.env.cells sc.names []).lookup x=some a->X.env.cells.lookup x=some a:=fun x a e=>Dv (c.cells I.ok) (fun z=>by simp at z) e
 have cel:∀ a v,s.heap.IsCell a v->h1.IsCell a v:=fun a v ⟨o,ho,hd⟩=>⟨o,k a o ho,hd⟩
 have ltD:∀ a v,s.heap.IsCell a v->a≠D:=fun a v ⟨o,ho,hd⟩=>by rw [hD];exact Nat.ne_of_lt (Heap.lt_size ho)
 refine⟨ok,rfl,I.bare,Un.laid k (by rw [hD];exact Nat.le_refl _) hDn,⟨_,hn,fun i x v e1 e2 e3=>?_⟩,fun x a e=>?_,?_,fun x a e=>?_,fun p hp=>absurd hp (by simp [Fo]),?_,?_⟩
 . have e2':cap[i]?.map (fun o=>o.bind fun j=>(σ[j]?).join)=some (some v):=by
    have:=e2
    unfold capS at this
    rw [List.getElem?_map] at this
    exact this
   cases hc:cap[i]? with
   | none=>rw [hc] at e2';cases e2'
   | some o =>
     rw [hc] at e2'
     cases o with
     | none=>cases e2'
     | some j =>
       have e4:(σ[j]?).join=some v:=by simpa using e2'
       obtain⟨q1,q2',q3⟩:=c.slots i j x e1 hc
       have q2:(x,NameKind.free)∈sc.names:=q2'.elim (fun z=>Gf c.nocell z (.inl rfl)) fun z=>Gf c.nocell z (.inr rfl)
       obtain⟨m,hm,hl'⟩:=I.loc
       have e5:σ[j]?=some (some v):=by
        cases z:σ[j]? with
        | none=>rw [z] at e4;cases e4
        | some y=>rw [z] at e4;cases y with
          | none=>cases e4
          | some y'=>cases e4;rfl
       obtain⟨u,r,l⟩:=hl' j x v q1 e5 q3
       refine⟨u,r,?_⟩
       obtain⟨a,ha⟩:=Ur (cells:=X.env.cells) (l:=sc.names) (acc:=[]) (x:=x) (.inl q2)
       have kd:X.env.kindOf x=some .cell\/X.env.kindOf x=some .free:=c.free x q2
       rcases l with ⟨hk,_⟩|⟨hk,a',ha',hcell⟩
       . rcases kd with z | z<;>rw [z] at hk<;>cases hk
       . have e6:a'=a:=by
          have:=ltc x a ha
          rw [ha'] at this
          exact Option.some.inj this
         refine .inr ⟨q2',a,ha,?_⟩
         rw [←e6]
         exact cel _ _ hcell
 . obtain⟨v,z⟩:=I.cell x a (ltc x a e)
   exact ⟨v,cel a v z⟩
 . show upd H D (.lst []) C=none
   rw [Aq hCD]
   exact I.hok.fresh hCs
 . show upd H D (.lst []) a=none
   obtain⟨v,z⟩:=I.cell x a (ltc x a e)
   rw [Aq (ltD a v z)]
   exact I.freeC x a (ltc x a e)
 . exact I.hok.laid k (by rw [hD];exact Nat.le_refl _) ⟨Nat.zero_le _,[],0,.nil,hl⟩
 . show (capS cap σ).length=N'.length
   unfold capS
   rw [List.length_map,c.len]
end
end L2
namespace L2
open PySem PySem.Spec PyProof.Rows
def capB (osc:Scope) (N:List Str) (sc:Scope) (N':List Str) (cap:List (Option Nat)):Bool :=
 decide (sc.kind=.function)&&decide (cap.length=N'.length)&&sc.names.all (fun x=>decide (x.2≠NameKind.cell))&&sc.names.all (fun x=>decide (x.2=NameKind.local->sc.names.lookup x.1=some NameKind.local)) &&
 sc.names.all (fun x=>decide (x.2=NameKind.free->(osc.names.lookup x.1=some .cell\/osc.names.lookup x.1=some .free))) &&
 (N'.zip cap).all (fun p=>match p.2 with
   | none=>true
   | some j=>decide (N[j]?=some p.1)&&decide (((sc.names.map fun (n,k)=>if (k==.free&&osc.kind==.function&&osc.names.lookup n==some .cell) then (n,NameKind.cell) else (n,k)).lookup p.1=some .cell) ∨
      ((sc.names.map fun (n,k)=>if (k==.free&&osc.kind==.function&&osc.names.lookup n==some .cell) then (n,NameKind.cell) else (n,k)).lookup p.1=some .free)) &&
     decide (osc.names.lookup p.1=some .local\/osc.names.lookup p.1=some .cell\/osc.names.lookup p.1=some .free))
theorem Az9 {X:Cx}{sc:Scope}{N':List Str}{cap:List (Option Nat)} (h:capB X.env.scope X.N sc N' cap=true):Zc X sc N' cap:=by
 unfold capB at h
 rw [Bool.and_eq_true,Bool.and_eq_true,Bool.and_eq_true,Bool.and_eq_true,Bool.and_eq_true,List.all_eq_true,List.all_eq_true,List.all_eq_true,List.all_eq_true] at h
 obtain⟨⟨⟨⟨⟨h1,h2⟩,h3⟩,h4⟩,h5⟩,h6⟩:=h
 refine⟨of_decide_eq_true h1,of_decide_eq_true h2,fun x hx=>of_decide_eq_true (h3 x hx),fun x hx=>of_decide_eq_true (h4 x hx),fun n hn=>of_decide_eq_true (h5 _ hn) rfl,fun i j x e1 e2=>?_⟩
 have hm:(x,some j)∈N'.zip cap:=by
  have e:(N'.zip cap)[i]?=some (x,some j):=by
   rw [List.getElem?_zip_eq_some]
   exact ⟨e1,e2⟩
  exact List.mem_of_getElem? e
 have h7:=h6 _ hm
 dsimp only at h7
 rw [Bool.and_eq_true,Bool.and_eq_true] at h7
 obtain⟨⟨h8,h9⟩,h10⟩:=h7
 exact ⟨of_decide_eq_true h8,of_decide_eq_true (p:=(relabel sc X.env).names.lookup x=some .cell\/(relabel sc X.env).names.lookup x=some .free) h9,of_decide_eq_true (p:=X.env.scope.names.lookup x=some .local\/X.env.scope.names.lookup x=some .cell\/X.env.scope.names.lookup x=some .free) h10⟩
def PTs (X:Cx) (ifs:List Expr) (t:TT):Prop :=
 ∀ (Ac:List (Addr × Obj)) (s:Shared) (σ:St) (H:Hp) (Q:Bool->Hp->Prop),Inv X Ac σ H s->t σ H Q →
   wpAny (model X.prog X.w) X.A (forIn ifs true fun c r=>if r=true then do let ok ←isTrue c X.env (eval c X.env);pure (ForInStep.yield ok) else pure (ForInStep.yield r)) (TP X Ac σ Q) X.xe s
def tYes:TT:=fun _ H Q=>Q true H
theorem Cl {X:Cx}:PTs X [] tYes:=fun _ _ _ H _ I h=>wpAny_tests_nil ⟨H,I,h⟩
theorem Av4 {X:Cx}{c:Expr}{t:TT} (h:PT X c t):PTs X [c] t:=fun Ac s σ H Q I hw=>wpAny_tests_one (h Ac s σ H Q I hw)
def RunC (J:It) (g:TG) (tc:TT) (te:TE) (D:Addr) (Q:Hp->Prop) (τ:St) (H:Hp):Prop :=
 ∃ W:Nat->Nat->List V->St->Hp->Prop,(∃ m,W 0 m [] τ H)/\∀ i m ys τ H,W i m ys τ H →
   (J.stop i H/\Q H) ∨
   (J.go i H/\∃ N:List V->St->Hp->Prop,(∀ ys' τ' H',N ys' τ' H'->∃ m',m'<m/\W (i+1) m' ys' τ' H') ∧
     ∀ x H',J.yld i H x H'->g x τ H' fun τ2 H2=>tc τ2 H2 fun b H3=>if b=true then te τ2 H3 fun y H4=>H4 D=some (.lst ys)/\ys.length<sizeLine/\N (ys++[y]) τ2 (upd H4 D (.lst (ys++[y]))) else N ys τ2 H3)
section
variable {X:Cx}{sc:Scope}{N':List Str}{cap:List (Option Nat)}{tg elt iter:Expr}{ifs:List Expr}{pos:Pos}{g:TG}{tc:TT}{te:TE}
theorem Aj4 {Y:Cx}{J:It}{fp:List Addr}{it D:Addr}{tn:Nat->Heap->Prop}{R:Result->Shared->Prop}{Q:Hp->Prop}{τ:St}{H:Hp}{s:Shared}
 (hx:Y.xe=fun _ _=>False) (hc:Y.calm=true) (hg:PG Y tg g) (ht:PTs Y ifs tc) (he:PE Y elt te) (T:Turn Y.prog Y.w Y.K tg J fp it tn) (st:tn 0 s.heap) (hf:∀ b∈fp,FpOk Y [] H b) (I:Inv Y [] τ H s)
 (h:RunC J g tc te D Q τ H) (hR:∀ τ' H' s',Inv Y [] τ' H' s'->Q H'->R (.ok .next) s') :
 codeAny (model Y.prog Y.w) Y.A (.compLoop (.ListComp elt [⟨tg,iter,ifs,0⟩] sc pos) 0 (.ref it) (.ref D) Y.env) R s:=by
 obtain⟨W,⟨m0,w0⟩,turn⟩:=h
 have stat:∀{H':Hp},(∀ b∈fp,H' b=none)->∀ b∈fp,FpOk Y [] H' b:=fun hn b hb=>⟨hn b hb,(hf b hb).2⟩
 have no:∀{P:Prop}{e:Value}{s':Shared},Y.xe e s'->P:=fun z=>by rw [hx] at z;exact z.elim
 refine codeAny_loop rfl (fun n s'=>∃ i ys τ' H',Inv Y [] τ' H' s'/\tn i s'.heap/\(∀ b∈fp,H' b=none)/\W i n ys τ' H') ?_ m0 ⟨0,[],τ,H,I,st,fun b hb=>(hf b hb).1,w0⟩
 rintro n s3 ⟨i,ys,τ3,H3,I3,st3,fr3,w3⟩
 show wpAny _ Y.A ((compTurn (.ListComp elt [⟨tg,iter,ifs,0⟩] sc pos) 0 (.ref it) (.ref D) Y.env).onRaise (fun x=>do noteFrame x Y.env;theTreesLotGoes x)) _ _ s3
 refine wpAny_noted ?_
 rw [compTurn_list]
 refine wpAny_bind (wpAny_standAt (wpAny_bind ?_))
 rcases turn i n ys τ3 H3 w3 with ⟨stop,qn⟩|⟨go,N,hN,step⟩
 . refine wpAny_mono (T.done Y rfl rfl rfl hc i [] s3 τ3 H3 (fun _ _=>False) I3 (stat fr3) st3 stop) (fun r s4 ⟨hr,I4⟩=>?_) fun _ _ z=>z.elim
   subst hr
   exact wpAny_pure (hR _ _ _ I4 qn)
 . refine wpAny_mono (T.item Y rfl rfl rfl hc i [] s3 τ3 H3 (fun _ _=>False) I3 (stat fr3) st3 go) (fun r s4 ⟨u,hr,h4⟩=>?_) fun _ _ z=>z.elim
   subst hr
   refine wpAny_bind (wpAny_mono h4 (fun _ s5 ⟨x,H5,I5,r5,y5,st5,fr5⟩=>?_) fun _ _ z=>z.elim)
   have I5':=I5.pinned (stat fr5) (T.obj _ _ st5)
   have again:∀{τ7:St}{H7:Hp}{ys7:List V}{s7:Shared},Inv Y ([]++Vd fp s5.heap) τ7 H7 s7->N ys7 τ7 H7->∃ m,m<n/\∃ i ys τ' H',Inv Y [] τ' H' s7/\tn i s7.heap/\(∀ b∈fp,H' b=none)/\W i m ys τ' H':=fun {τ7 H7 ys7 s7} I7 n7=>by
    obtain⟨m',hm,w7⟩:=hN ys7 τ7 H7 n7
    refine⟨m',hm,i+1,ys7,τ7,H7,I7.unpinned,T.keep _ _ _ st5 fun b hb o e=>(I7.pin (b,o) (List.mem_append_right _ (List.mem_append_right _ (Ig hb e)))).1,fun b hb=>?_,w7⟩
    obtain⟨o,e,d⟩:=T.obj _ _ st5 b hb
    exact (I7.pin (b,o) (List.mem_append_right _ (List.mem_append_right _ (Ig hb e)))).2.1
   refine wpAny_bind (wpAny_mono (hg _ s5 τ3 H5 x u _ I5' r5 (step x H5 y5)) (fun _ s6 ⟨τ6,H6,I6,q6⟩=>?_) fun _ _ z=>no z)
   refine wpAny_bind (wpAny_mono (ht _ s6 τ6 H6 _ I6 q6) (fun ok s7 ⟨H7,I7,q7⟩=>?_) fun _ _ z=>no z)
   cases ok with
   | false =>
     have q8:N ys τ6 H7:=by simpa using q7
     exact wpAny_pure ⟨rfl,again I7 q8⟩
   | true =>
     have q8:te τ6 H7 fun y H4=>H4 D=some (.lst ys)/\ys.length<sizeLine/\N (ys++[y]) τ6 (upd H4 D (.lst (ys++[y]))):=by simpa using q7
     refine wpAny_bind (wpAny_bind (wpAny_mono (he _ s7 τ6 H7 _ I7 q8) (fun y s8 ⟨v8,H8,I8,r8,hD,hl,n8⟩=>?_) fun _ _ z=>no z))
     refine wpAny_bind (wpAny_mono (Hl _ s8 τ6 H8 (.ref D) [v8] (.ref D) [y] (fun _ H9=>N (ys++[v8]) τ6 H9) I8 rfl (.cons r8 .nil) ⟨D,ys,v8,rfl,rfl,hD,hl,n8⟩) (fun _ s9 ⟨_,H9,I9,_,n9⟩=>?_) fun _ _ z=>no z)
     exact wpAny_pure (wpAny_pure ⟨rfl,again I9 n9⟩)
theorem t6 {Ac:List (Addr × Obj)}{σ:St}{H:Hp}{s:Shared}{J:It}{fp:List Addr}{it:Addr}{tn:Nat->Heap->Prop}{RR:Value->Addr->Result->Shared->Prop}{Q:Addr->Hp->Prop}{E:Value->Shared->Prop}
 (c:Zc X sc N' cap) (hc:X.calm=true) (hg:∀ C s₀ H₀ fp,PG (Fo X sc N' C s₀ H₀ fp) tg g) (ht:∀ C s₀ H₀ fp,PTs (Fo X sc N' C s₀ H₀ fp) ifs tc) (he:∀ C s₀ H₀ fp,PE (Fo X sc N' C s₀ H₀ fp) elt te)
 (I:Inv X Ac σ H s) (T:Turn X.prog X.w X.K tg J fp it tn) (st:tn 0 s.heap) (hf:∀ b∈fp,FpOk X Ac H b)
 (h:∀ D,H D=none->RunC J g tc te D (Q D) (capS cap σ) (upd H D (.lst [])))
 (hR:∀ D C s' H' m',H D=none->s.heap.objs.size<=C->s'.os=s.os->AllBare s'.gens->Un (frs X.stack) fp H H' s.heap s'.heap->HOk X.prog X.w H' s'.heap->s'.heap.Ns C m'->H' C=none->C ∉ fp->Q D H'->RR (.ref D) C (.ok .next) s') :
 wpAny (model X.prog X.w) X.A (newList []) (fun acc s₃=>wpAny (model X.prog X.w) X.A (newFunctionEnv sc X.env.globals (clOf X.env.cells sc.names []) [] X.env.qual none .none (some X.env)) (fun cenv s₄ =>
  codeAny (model X.prog X.w) X.A (.compStart (.ListComp elt [⟨tg,iter,ifs,0⟩] sc pos) 0 (.ref it) acc { cenv with scope:=relabel sc X.env }) (RR acc cenv.locals) s₄) E s₃) E s:=by
 have hb:∀ b∈fp,b<s.heap.objs.size:=fun b hb=>by
  obtain⟨o,e,_⟩:=T.obj _ _ st b hb
  exact Heap.lt_size e
 refine wpAny_newObj_type (wpAny_newFunctionEnv c.nocell (by intro y hy;simp at hy) (fun h₁ hns₁ hsb₁=>?_) c.kind)
 dsimp only at hns₁ hsb₁ ⊢
 generalize hH2:s.heap.push { cls:=.type "list",dict:=none,data:=.seq ([]:List Value).toArray }=H2 at hns₁ hsb₁ ⊢
 have hC:H2.objs.size=s.heap.objs.size+1:=by rw [←hH2,Heap.size_push]
 have hCl:s.heap.objs.size<=H2.objs.size:=by rw [hC];exact Nat.le_succ _
 have hCn:s.heap.objs.size≠H2.objs.size:=by rw [hC];exact (Nat.succ_ne_self _).symm
 have old:∀ b o,s.heap.get? b=some o->h₁.get? b=some o:=fun b o e=>by
  have l1:=Heap.lt_size e
  exact hsb₁.extBut b o (Nat.ne_of_lt (Nat.lt_of_lt_of_le l1 hCl)) (Heap.get?_push_of_some _ (hH2▸Heap.get?_push_of_some _ e))
 have hl:h₁.get? s.heap.objs.size=some { cls:=.type "list",data:=.seq #[] 0 }:=hsb₁.extBut _ _ hCn (Heap.get?_push_of_some _ (hH2▸Heap.get?_push_size _ rfl))
 have hns₂:h₁.Ns H2.objs.size fun _=>none:=by simpa using hns₁
 have I4:Inv (Fo X sc N' H2.objs.size s H fp) [] (capS cap σ) (upd H s.heap.objs.size (.lst [])) { s with heap:=h₁,toks:=s.toks+([]:List (Str × Value)).length }:=Ar1 c I hC rfl hf hb hns₂ hl old
 have hfr:H s.heap.objs.size=none:=I.fresh
 have f4:∀ b∈fp,FpOk (Fo X sc N' H2.objs.size s H fp) [] (upd H s.heap.objs.size (.lst [])) b:=fun b hb'=>by
  obtain⟨f0,f1,f2,f3,f4,f5⟩:=hf b hb'
  have lb:=hb b hb'
  refine⟨by rw [Aq (Nat.ne_of_lt lb)];exact f0,(Nat.ne_of_lt (Nat.lt_of_lt_of_le lb hCl):b≠H2.objs.size),fun z=>?_,.inl hb',fun x a e=>f4 x a (Dv (c.cells I.ok) (fun z=>by simp at z) e),fun p hp=>absurd hp (by simp [Fo])⟩
  rcases List.mem_cons.mp (I.stkSub b z) with e | e
  . exact f1 e
  . exact f2 e
 have st4:tn 0 h₁:=T.keep _ _ _ st fun b _ o e=>old b o e
 have loop:∀ s₅:Shared,s₅={ s with heap:=h₁,toks:=s.toks+([]:List (Str × Value)).length } →
  codeAny (model X.prog X.w) X.A (.compLoop (.ListComp elt [⟨tg,iter,ifs,0⟩] sc pos) 0 (.ref it) (.ref s.heap.objs.size) (Fo X sc N' H2.objs.size s H fp).env) (RR (.ref s.heap.objs.size) H2.objs.size) s₅:=by
  rintro s₅ rfl
  refine Aj4 (Y:=Fo X sc N' H2.objs.size s H fp) (J:=J) (fp:=fp) (tn:=tn) (Q:=Q s.heap.objs.size) rfl hc (hg _ _ _ _) (ht _ _ _ _) (he _ _ _ _) T st4 f4 I4 (h _ hfr) fun τ' H' s' I' q'=>?_
  obtain⟨m',hn',_⟩:=I'.loc
  exact hR _ _ s' H' m' hfr hCl I'.os I'.bare I'.base I'.hok hn' I'.free (fun z=>absurd (Nat.lt_of_lt_of_le (hb _ z) hCl) (Nat.lt_irrefl _)) q'
 exact codeAny_compStart_list (loop _ rfl) (T.self _ 0 _ _ _ st4 (loop _ rfl))
def A72 (wi:TI) (cap:List (Option Nat)) (g:TG) (tc:TT) (te:TE):TE:=fun σ H Q=>wi σ H fun J H1=>∀ D,H1 D=none->RunC J g tc te D (fun H'=>Q (.ref D) H') (capS cap σ) (upd H1 D (.lst []))
theorem Inv.fpCh {Ac:List (Addr × Obj)}{H:Hp}{fp:List Addr} (hf:∀ b∈fp,FpOk X Ac H b):∀ b∈fp,(b∈X.ex\/X.s₀.heap.objs.size<=b)/\b≠X.env.locals/\(∀ x c,X.env.cells.lookup x=some c->c≠b)/\∀ p∈X.pn++Ac,p.1≠b :=
 fun b hb=>let ⟨_,f1,_,f3,f4,f5⟩:=hf b hb;⟨f3,f1,f4,f5⟩
theorem Cj {wi:TI} (hc:X.calm=true) (hcap:capB X.env.scope X.N sc N' cap=true) (hi:PI X tg iter wi) (hg:∀ C s₀ H₀ fp,PG (Fo X sc N' C s₀ H₀ fp) tg g) (ht:∀ C s₀ H₀ fp,PTs (Fo X sc N' C s₀ H₀ fp) ifs tc)
 (he:∀ C s₀ H₀ fp,PE (Fo X sc N' C s₀ H₀ fp) elt te) (hs:∀ x,foldedSetIterable iter X.env x=pure x:=by intro _;rfl):PE X (.ListComp elt [⟨tg,iter,ifs,0⟩] sc pos) (A72 wi cap g tc te):=by
 intro Ac s σ H Q I h
 have c:Zc X sc N' cap:=Az9 hcap
 rw [eval_ListComp]
 refine wpAny_comprehension_free (use:=none) rfl hs (t7 (c.cells I.ok)) c.kind c.locals (thn (hi Ac s σ H _ I h) fun v s1 h1=>thn h1 fun itv s2 h2=>?_)
 obtain⟨it,fp,tn,J,H2,e,I2,T,st2,f2,hW⟩:=h2
 subst e
 refine t6 (RR:=fun acc C=>compPost (model X.prog X.w) X.A X.xe none (EP X Ac σ Q) acc C) (Q:=fun D H'=>Q (.ref D) H') c hc hg ht he I2 T st2 f2 hW ?_
 intro D C s' H' m' hD hC hos hbare hun hok hn hHC hCf q
 refine⟨m',hn,fun h' hsb=>?_⟩
 have I3:Inv X Ac σ H' s':=I2.call' hos hun hok hbare (Inv.fpCh f2)
 have f3:FpOk X Ac H' C:=I2.fpOk hC hHC
 obtain⟨_,k1,_,k3,k4,k5⟩:=f3
 have I4:Inv X Ac σ H' { s' with heap:=h' }:=I3.turned (t':=s'.toks) (fun b o hb e=>(hsb.2 b hb).trans e) hHC k1 k3 k4 k5
 exact ⟨.ref D,H',I4,rfl,q⟩
end
section
variable {g:TG}{tc:TT}{te:TE}{D:Addr}{Q:Hp->Prop}{τ:St}{H:Hp}
theorem Aj5 {K:W.Frag}{a:Addr}{xs:List V} (Pv:Nat->List V->St->Hp->Prop) (h0:Pv 0 [] τ H) (hl:∀ i ys τ H,i<=xs.length->Pv i ys τ H->SqL K H a xs)
 (hs:∀ i x ys τ H,xs[i]?=some x->Pv i ys τ H->g x τ H fun τ2 H2=>tc τ2 H2 fun b H3=>if b=true then te τ2 H3 fun y H4=>H4 D=some (.lst ys)/\ys.length<sizeLine/\Pv (i+1) (ys++[y]) τ2 (upd H4 D (.lst (ys++[y]))) else Pv (i+1) ys τ2 H3)
 (hd:∀ ys τ H,Pv xs.length ys τ H->Q H):RunC (Itl K a) g tc te D Q τ H:=by
 refine⟨fun i m ys τ H=>m=xs.length-i/\i<=xs.length/\Pv i ys τ H,⟨xs.length,by simp,Nat.zero_le _,h0⟩,?_⟩
 rintro i m ys τ H ⟨rfl,hi,p⟩
 have q:=hl i ys τ H hi p
 by_cases hlt:i<xs.length
 . refine .inr ⟨⟨xs,xs[i],q,by simp [hlt]⟩,Pv (i+1),fun ys' τ' H' p'=>⟨xs.length-(i+1),by omega,rfl,hlt,p'⟩,fun x H' y=>?_⟩
   obtain⟨e,y⟩:=y
   subst e
   exact hs i x ys τ _ (y xs q) p
 . have e:i=xs.length:=by omega
   subst e
   exact .inl ⟨⟨xs,q,Nat.le_refl _⟩,hd ys τ H p⟩
theorem Ar0 {K:W.Frag}{a:Addr}{xs:List V} (Pv:Nat->List V->St->Hp->Prop) (h0:Pv 0 [] τ H) (hl:∀ i ys τ H,i<=xs.length->Pv i ys τ H->SqT K H a xs)
 (hs:∀ i x ys τ H,xs[i]?=some x->Pv i ys τ H->g x τ H fun τ2 H2=>tc τ2 H2 fun b H3=>if b=true then te τ2 H3 fun y H4=>H4 D=some (.lst ys)/\ys.length<sizeLine/\Pv (i+1) (ys++[y]) τ2 (upd H4 D (.lst (ys++[y]))) else Pv (i+1) ys τ2 H3)
 (hd:∀ ys τ H,Pv xs.length ys τ H->Q H):RunC (Itt K a) g tc te D Q τ H:=by
 refine⟨fun i m ys τ H=>m=xs.length-i/\i<=xs.length/\Pv i ys τ H,⟨xs.length,by simp,Nat.zero_le _,h0⟩,?_⟩
 rintro i m ys τ H ⟨rfl,hi,p⟩
 have q:=hl i ys τ H hi p
 by_cases hlt:i<xs.length
 . refine .inr ⟨⟨xs,xs[i],q,by simp [hlt]⟩,Pv (i+1),fun ys' τ' H' p'=>⟨xs.length-(i+1),by omega,rfl,hlt,p'⟩,fun x H' y=>?_⟩
   obtain⟨e,y⟩:=y
   subst e
   exact hs i x ys τ _ (y xs q) p
 . have e:i=xs.length:=by omega
   subst e
   exact .inl ⟨⟨xs,q,Nat.le_refl _⟩,hd ys τ H p⟩
theorem t5 {lo:Int}{n:Nat} (Pv:Nat->List V->St->Hp->Prop) (h0:Pv 0 [] τ H)
 (hs:∀ i ys τ H,i<n->Pv i ys τ H->g (.int (lo+i)) τ H fun τ2 H2=>tc τ2 H2 fun b H3=>if b=true then te τ2 H3 fun y H4=>H4 D=some (.lst ys)/\ys.length<sizeLine/\Pv (i+1) (ys++[y]) τ2 (upd H4 D (.lst (ys++[y]))) else Pv (i+1) ys τ2 H3)
 (hd:∀ ys τ H,Pv n ys τ H->Q H):RunC (Itr lo n) g tc te D Q τ H:=by
 refine⟨fun i m ys τ H=>m=n-i/\i<=n/\Pv i ys τ H,⟨n,by simp,Nat.zero_le _,h0⟩,?_⟩
 rintro i m ys τ H ⟨rfl,hi,p⟩
 by_cases hlt:i<n
 . refine .inr ⟨hlt,Pv (i+1),fun ys' τ' H' p'=>⟨n-(i+1),by omega,rfl,hlt,p'⟩,fun x H' y=>?_⟩
   obtain⟨e,y⟩:=y
   subst e y
   exact hs i ys τ _ hlt p
 . have e:i=n:=by omega
   subst e
   exact .inl ⟨Nat.le_refl _,hd ys τ H p⟩
end
end L2
namespace L2
open PySem PySem.Spec PyProof.Rows PySem.SeqAt
inductive D where
 | non | bl (b:Bool) | int (i:Int) | str (x:Str) | tup (ds:List D) | lst (ds:List D)
mutual
def Rep (K:W.Frag) (H:Hp):V->D->Prop
 | v,.non=>v=.non
 | v,.bl b=>v=.bl b
 | v,.int i=>v=.int i
 | v,.str x=>v=.str x
 | v,.tup ds=>∃ a vs,v=.ref a/\SqT K H a vs/\Reps K H vs ds
 | v,.lst ds=>∃ a vs,v=.ref a/\SqL K H a vs/\Reps K H vs ds
def Reps (K:W.Frag) (H:Hp):List V->List D->Prop
 | vs,[]=>vs=[]
 | vs,d::ds=>∃ v r,vs=v::r/\Rep K H v d/\Reps K H r ds
end
mutual
def imm:D->Bool
 | .lst _=>false
 | .tup ds=>imms ds
 | _=>true
def imms:List D->Bool
 | []=>true
 | d::ds=>imm d&&imms ds
end
mutual
def dep:D->Nat
 | .lst ds=>deps ds+1
 | .tup ds=>deps ds+1
 | _=>0
def deps:List D->Nat
 | []=>0
 | d::ds=>max (dep d) (deps ds)
end
mutual
def eqD:D->D->Bool
 | .non,.non=>true
 | .bl a,.bl b=>a==b
 | .bl a,.int b=>(if a then 1 else 0)==b
 | .int a,.bl b=>a==(if b then 1 else 0)
 | .int a,.int b=>a==b
 | .str a,.str b=>a==b
 | .tup a,.tup b=>eqDs a b
 | .lst a,.lst b=>eqDs a b
 | _,_=>false
def eqDs:List D->List D->Bool
 | [],[]=>true
 | a::r,b::q=>eqD a b&&eqDs r q
 | _,_=>false
end
mutual
theorem Le (d:D):eqD d d=true:=by
 cases d with
 | non=>rfl
 | bl b=>simp [eqD]
 | int b=>simp [eqD]
 | str b=>simp [eqD]
 | tup ds=>simp only [eqD];exact eqDs_refl ds
 | lst ds=>simp only [eqD];exact eqDs_refl ds
theorem eqDs_refl (ds:List D):eqDs ds ds=true:=by
 cases ds with
 | nil=>rfl
 | cons d r=>simp only [eqDs,Bool.and_eq_true];exact ⟨Le d,eqDs_refl r⟩
end
theorem eqDs_len:∀{a b:List D},eqDs a b=true->a.length=b.length
 | [],[],_=>rfl
 | [],_::_,h=>by simp [eqDs] at h
 | _::_,[],h=>by simp [eqDs] at h
 | x::a,y::b,h=>by
   simp only [eqDs,Bool.and_eq_true] at h
   rw [List.length_cons,List.length_cons,eqDs_len h.2]
theorem Ld:∀ (a b:List D),a.length=b.length->eqDs a b=(List.range a.length).all fun j=>match a[j]?,b[j]? with | some x,some y=>eqD x y | _,_=>true
 | [],[],_=>by simp [eqDs]
 | [],_::_,h=>by simp at h
 | _::_,[],h=>by simp at h
 | x::a,y::b,h=>by
   have h':a.length=b.length:=by simpa using h
   rw [List.length_cons,List.range_succ_eq_map,List.all_cons,List.all_map]
   simp only [eqDs,Ld a b h']
   congr 1
structure Ar5 (H H':Hp):Prop where
 tup:∀ b xs,H b=some (.tup xs)->H' b=some (.tup xs)
 frz:∀ b o u,H b=some (.frz o u)->H' b=some (.frz o u)
section
variable {K:W.Frag}{H H' H1 H2:Hp}{a l p:Addr}{xs:List V}{o:HO}
theorem Same.t (x:Same H H'):Ar5 H H':=⟨fun b xs h=>x b _ h,fun b o u h=>x b _ h⟩
theorem Same.new (h:H l=none):Same H (upd H l o):=fun b u e=>by rw [Aq (Ar e h)];exact e
theorem Same.turn (x:Same H H1) (h:H l=none):Same H (upd H1 l o):=fun b u e=>by rw [Aq (Ar e h)];exact x b u e
theorem SqT.t (x:Ar5 H H') (h:SqT K H a xs):SqT K H' a xs:=by
 rcases h with (h|⟨o,h⟩) | h
 . exact .inl (.inl (x.tup _ _ h))
 . exact .inl (.inr ⟨o,x.frz _ _ _ h⟩)
 . exact .inr h
theorem Same.seqT (x:Same H H') (h:SqT K H a xs):SqT K H' a xs:=h.t x.t
mutual
theorem Rep.t (x:Ar5 H H') {v:V}{d:D} (hi:imm d=true) (h:Rep K H v d):Rep K H' v d:=by
 cases d with
 | non=>exact h
 | bl b=>exact h
 | int i=>exact h
 | str x=>exact h
 | tup ds =>
   obtain⟨a,vs,e,q,r⟩:=h
   exact ⟨a,vs,e,q.t x,Reps.t x (by simpa [imm] using hi) r⟩
 | lst ds=>simp [imm] at hi
theorem Reps.t (x:Ar5 H H') {vs:List V}{ds:List D} (hi:imms ds=true) (h:Reps K H vs ds):Reps K H' vs ds:=by
 cases ds with
 | nil=>exact h
 | cons d r =>
   obtain⟨v,q,e,h1,h2⟩:=h
   simp only [imms,Bool.and_eq_true] at hi
   exact ⟨v,q,e,Rep.t x hi.1 h1,Reps.t x hi.2 h2⟩
end
mutual
theorem Rep.same (x:Same H H') {v:V}{d:D} (h:Rep K H v d):Rep K H' v d:=by
 cases d with
 | non=>exact h
 | bl b=>exact h
 | int i=>exact h
 | str x=>exact h
 | tup ds =>
   obtain⟨a,vs,e,q,r⟩:=h
   exact ⟨a,vs,e,x.seqT q,Reps.same x r⟩
 | lst ds =>
   obtain⟨a,vs,e,q,r⟩:=h
   exact ⟨a,vs,e,x.seq q,Reps.same x r⟩
theorem Reps.same (x:Same H H') {vs:List V}{ds:List D} (h:Reps K H vs ds):Reps K H' vs ds:=by
 cases ds with
 | nil=>exact h
 | cons d r =>
   obtain⟨v,q,e,h1,h2⟩:=h
   exact ⟨v,q,e,Rep.same x h1,Reps.same x h2⟩
end
theorem Reps.length:∀{vs:List V}{ds:List D},Reps K H vs ds->vs.length=ds.length
 | vs,[],h=>by cases (show vs=[] from h);rfl
 | vs,d::ds,h=>by
   obtain⟨v,r,rfl,_,h2⟩:=h
   rw [List.length_cons,List.length_cons,Reps.length h2]
theorem Reps.get:∀{vs:List V}{ds:List D}{i:Nat}{d:D},Reps K H vs ds->ds[i]?=some d->∃ v,vs[i]?=some v/\Rep K H v d
 | vs,[],i,d,h,e=>by simp at e
 | vs,d0::ds,0,d,h,e=>by
   obtain⟨v,r,rfl,h1,_⟩:=h
   simp only [List.getElem?_cons_zero,Option.some.injEq] at e
   subst e
   exact ⟨v,by simp,h1⟩
 | vs,d0::ds,i+1,d,h,e=>by
   obtain⟨v,r,rfl,_,h2⟩:=h
   obtain⟨u,e1,e2⟩:=Reps.get (i:=i) h2 (by simpa using e)
   exact ⟨u,by simpa using e1,e2⟩
theorem Reps.getV:∀{vs:List V}{ds:List D}{i:Nat}{v:V},Reps K H vs ds->vs[i]?=some v->∃ d,ds[i]?=some d/\Rep K H v d:=fun {vs ds i v} h e=>by
 have hl:=h.length
 have hi:i<vs.length:=(List.getElem?_eq_some_iff.mp e).1
 obtain⟨d,hd⟩:∃ d,ds[i]?=some d:=⟨ds[i]'(by omega),by simp<;>omega⟩
 obtain⟨u,e1,e2⟩:=h.get hd
 rw [e] at e1
 cases e1
 exact ⟨d,hd,e2⟩
def nums (ns:List Int):List D:=ns.map D.int
abbrev tI (ns:List Int):D:=.tup (nums ns)
theorem Kt:∀{vs:List V}{ns:List Int},Reps K H vs (nums ns)↔vs=ns.map V.int
 | vs,[]=>Iff.rfl
 | vs,n::ns=>by
   constructor
   . rintro ⟨v,r,rfl,h1,h2⟩
     have h1':v=.int n:=h1
     rw [h1',Kt.mp h2];rfl
   . rintro rfl
     exact ⟨.int n,ns.map V.int,rfl,rfl,Kt.mpr rfl⟩
end
section
variable {X:Cx}{Ac:List (Addr × Obj)}{σ:St}{H:Hp}{s:Shared}
theorem Ae2 (I:Inv X Ac σ H s) {a:Addr}{xs ys:List V} (h:SqT X.K H a xs) (h':SqL X.K H a ys):False:=by
 obtain⟨its,r,⟨o,e,c,n,d⟩,_⟩:=I.tuple h
 obtain⟨its',r',⟨o',n',e',c',_,d'⟩,_⟩:=I.list h'
 rw [e] at e';cases e'
 rw [c] at c'
 have z:("tuple":String)="list":=by injection c'
 exact absurd z (by decide)
mutual
theorem Rep.inj (I:Inv X Ac σ H s) {v:V}{d e:D} (h:Rep X.K H v d) (h':Rep X.K H v e):d=e:=by
 cases d with
 | non=>cases (show v=.non from h);cases e<;>first | rfl | (exfalso;first | (cases (show V.non=_ from h')) | (obtain⟨_,_,z,_⟩:=h';cases z))
 | bl b=>cases (show v=.bl b from h);cases e<;>first | (cases (show V.bl b=_ from h');rfl) | (exfalso;first | (cases (show V.bl b=_ from h')) | (obtain⟨_,_,z,_⟩:=h';cases z))
 | int b=>cases (show v=.int b from h);cases e<;>first | (cases (show V.int b=_ from h');rfl) | (exfalso;first | (cases (show V.int b=_ from h')) | (obtain⟨_,_,z,_⟩:=h';cases z))
 | str b=>cases (show v=.str b from h);cases e<;>first | (cases (show V.str b=_ from h');rfl) | (exfalso;first | (cases (show V.str b=_ from h')) | (obtain⟨_,_,z,_⟩:=h';cases z))
 | tup ds =>
   obtain⟨a,vs,rfl,q,r⟩:=h
   cases e with
   | tup es =>
     obtain⟨b,ws,z,q',r'⟩:=h'
     cases z
     have e1:=I.tuple_inj q q'
     subst e1
     rw [Reps.inj I r r']
   | lst es =>
     obtain⟨b,ws,z,q',r'⟩:=h'
     cases z
     exact (Ae2 I q q').elim
   | non=>cases (show V.ref a=_ from h')
   | bl _=>cases (show V.ref a=_ from h')
   | int _=>cases (show V.ref a=_ from h')
   | str _=>cases (show V.ref a=_ from h')
 | lst ds =>
   obtain⟨a,vs,rfl,q,r⟩:=h
   cases e with
   | lst es =>
     obtain⟨b,ws,z,q',r'⟩:=h'
     cases z
     have e1:=I.list_inj q q'
     subst e1
     rw [Reps.inj I r r']
   | tup es =>
     obtain⟨b,ws,z,q',r'⟩:=h'
     cases z
     exact (Ae2 I q' q).elim
   | non=>cases (show V.ref a=_ from h')
   | bl _=>cases (show V.ref a=_ from h')
   | int _=>cases (show V.ref a=_ from h')
   | str _=>cases (show V.ref a=_ from h')
theorem Reps.inj (I:Inv X Ac σ H s) {vs:List V}{ds es:List D} (h:Reps X.K H vs ds) (h':Reps X.K H vs es):ds=es:=by
 cases ds with
 | nil =>
   cases (show vs=[] from h)
   cases es with
   | nil=>rfl
   | cons e es=>obtain⟨_,_,z,_⟩:=h';cases z
 | cons d ds =>
   obtain⟨v,r,rfl,h1,h2⟩:=h
   cases es with
   | nil=>cases (show v::r=[] from h')
   | cons e es =>
     obtain⟨v',r',z,h1',h2'⟩:=h'
     cases z
     rw [Rep.inj I h1 h1',Reps.inj I h2 h2']
end
def EqD (X:Cx) (H:Hp) (s:Shared) (d:D):Prop:=∀ (A:Around) (x y:V) (u v:Value) (e:D),A.units+dep d<cLine->Rep X.K H x d->Rep X.K H y e->RelV x u->RelV y v->RcAt A s u v (eqD d e)/\EqAt A s u v (eqD d e)
theorem Zi (I:Inv X Ac σ H s) {ds es:List D}{vs ws:List V}{us us':List Value}{A:Around} (hu:A.units+deps ds<cLine) (r:Reps X.K H vs ds) (r':Reps X.K H ws es) (rv:Vals vs us) (rv':Vals ws us')
 (ih:∀ d∈ds,EqD X H s d) (hdm:∀ d∈ds,dep d<=deps ds):∀ j (h1:j<us.toArray.size) (h2:j<us'.toArray.size),EqAt A s us.toArray[j] us'.toArray[j] (match ds[j]?,es[j]? with | some x,some y=>eqD x y | _,_=>true):=by
 intro j h1 h2
 have l1:=r.length
 have l2:=r'.length
 have l3:=rv.length
 have l4:=rv'.length
 have h1':j<us.length:=by simpa using h1
 have h2':j<us'.length:=by simpa using h2
 have e1:ds[j]?=some (ds[j]'(by omega)):=by simp<;>omega
 have e2:es[j]?=some (es[j]'(by omega)):=by simp<;>omega
 obtain⟨v,ev,rd⟩:=r.get e1
 obtain⟨w,ew,re⟩:=r'.get e2
 obtain⟨u,eu,ru⟩:=rv.get ev
 obtain⟨u',eu',ru'⟩:=rv'.get ew
 have f1:us.toArray[j]=u:=by
  have:us[j]?=some us[j]:=by simp
  rw [eu] at this
  have:=(Option.some.inj this).symm
  simpa using this
 have f2:us'.toArray[j]=u':=by
  have:us'[j]?=some us'[j]:=by simp
  rw [eu'] at this
  have:=(Option.some.inj this).symm
  simpa using this
 rw [f1,f2,e1,e2]
 have hm:ds[j]'(by omega)∈ds:=List.getElem_mem _
 exact (ih _ hm A v w u u' _ (by have:=hdm _ hm;omega) rd re ru ru').2
theorem P5:∀{ds:List D}{d:D},d∈ds->dep d<=deps ds
 | d0::ds,d,h=>by
   simp only [deps]
   rcases List.mem_cons.mp h with rfl | h
   . omega
   . have:=P5 h;omega
theorem Ku {a b:List D} (h:¬a.length=b.length):eqDs a b=false:=by
 cases q:eqDs a b with
 | false=>rfl
 | true=>exact absurd (eqDs_len q) h
mutual
theorem A52 (I:Inv X Ac σ H s) (d:D):EqD X H s d:=by
 intro A x y u v e hu hx hy rx ry
 cases d with
 | non =>
   cases (show x=.non from hx)
   cases (show u=Value.none from rx)
   cases e with
   | non=>cases (show y=.non from hy);cases (show v=Value.none from ry);exact ⟨.none_none,.same _⟩
   | bl b=>cases (show y=.bl b from hy);cases (show v=Value.bool b from ry);exact ⟨.none_bool b,.none_bool b⟩
   | int i=>cases (show y=.int i from hy);obtain⟨t,rfl⟩:=ry;exact ⟨.none_int i t,.none_int i t⟩
   | str z=>cases (show y=.str z from hy);obtain⟨t,rfl⟩:=ry;exact ⟨.none_str z t,.none_str z t⟩
   | tup es=>obtain⟨a,vs,rfl,q,r⟩:=hy;cases ry;obtain⟨its,_,p,_⟩:=I.tuple q;exact ⟨.none_tuple p (by omega),.none_tuple p (by omega)⟩
   | lst es=>obtain⟨a,vs,rfl,q,r⟩:=hy;cases ry;obtain⟨its,_,p,_⟩:=I.list q;exact ⟨.none_list p.isList (by omega),.none_list p.isList (by omega)⟩
 | bl c =>
   cases (show x=.bl c from hx)
   cases (show u=Value.bool c from rx)
   cases e with
   | non=>cases (show y=.non from hy);cases (show v=Value.none from ry);exact ⟨.bool_none c,.bool_none c⟩
   | bl b=>cases (show y=.bl b from hy);cases (show v=Value.bool b from ry);exact ⟨.bool_bool c b,.bool_bool c b⟩
   | int i=>cases (show y=.int i from hy);obtain⟨t,rfl⟩:=ry;exact ⟨.bool_int c i t,.bool_int c i t⟩
   | str z=>cases (show y=.str z from hy);obtain⟨t,rfl⟩:=ry;exact ⟨.bool_str c z t,.bool_str c z t⟩
   | tup es=>obtain⟨a,vs,rfl,q,r⟩:=hy;cases ry;obtain⟨its,_,p,_⟩:=I.tuple q;exact ⟨.bool_tuple c p (by omega),.bool_tuple c p (by omega)⟩
   | lst es=>obtain⟨a,vs,rfl,q,r⟩:=hy;cases ry;obtain⟨its,_,p,_⟩:=I.list q;exact ⟨.bool_list c p.isList (by omega),.bool_list c p.isList (by omega)⟩
 | int c =>
   cases (show x=.int c from hx)
   obtain⟨t,rfl⟩:=rx
   cases e with
   | non=>cases (show y=.non from hy);cases (show v=Value.none from ry);exact ⟨.int_none c t,.int_none c t⟩
   | bl b=>cases (show y=.bl b from hy);cases (show v=Value.bool b from ry);exact ⟨.int_bool c t b,.int_bool c t b⟩
   | int i=>cases (show y=.int i from hy);obtain⟨t',rfl⟩:=ry;exact ⟨.int_int c t i t',.int_int c t i t'⟩
   | str z=>cases (show y=.str z from hy);obtain⟨t',rfl⟩:=ry;exact ⟨.int_str c t z t',.int_str c t z t'⟩
   | tup es=>obtain⟨a,vs,rfl,q,r⟩:=hy;cases ry;obtain⟨its,_,p,_⟩:=I.tuple q;exact ⟨.int_tuple c t p (by omega),.int_tuple c t p (by omega)⟩
   | lst es=>obtain⟨a,vs,rfl,q,r⟩:=hy;cases ry;obtain⟨its,_,p,_⟩:=I.list q;exact ⟨.int_list c t p.isList (by omega),.int_list c t p.isList (by omega)⟩
 | str c =>
   cases (show x=.str c from hx)
   obtain⟨t,rfl⟩:=rx
   cases e with
   | non=>cases (show y=.non from hy);cases (show v=Value.none from ry);exact ⟨.str_none c t,.str_none c t⟩
   | bl b=>cases (show y=.bl b from hy);cases (show v=Value.bool b from ry);exact ⟨.str_bool c t b,.str_bool c t b⟩
   | int i=>cases (show y=.int i from hy);obtain⟨t',rfl⟩:=ry;exact ⟨.str_int c t i t',.str_int c t i t'⟩
   | str z=>cases (show y=.str z from hy);obtain⟨t',rfl⟩:=ry;exact ⟨.str_str c t z t',.str_str c t z t'⟩
   | tup es=>obtain⟨a,vs,rfl,q,r⟩:=hy;cases ry;obtain⟨its,_,p,_⟩:=I.tuple q;exact ⟨.str_tuple c t p (by omega),.str_tuple c t p (by omega)⟩
   | lst es=>obtain⟨a,vs,rfl,q,r⟩:=hy;cases ry;obtain⟨its,_,p,_⟩:=I.list q;exact ⟨.str_list c t p.isList (by omega),.str_list c t p.isList (by omega)⟩
 | tup ds =>
   have hx':=hx
   obtain⟨a,vs,rfl,q,r⟩:=hx
   cases rx
   obtain⟨its,rv,p,_⟩:=I.tuple q
   have hu':A.units+1+deps ds<cLine:=by simp only [dep] at hu;omega
   cases e with
   | non=>cases (show y=.non from hy);cases (show v=Value.none from ry);exact ⟨.tuple_none p (by omega),.tuple_none p (by omega)⟩
   | bl b=>cases (show y=.bl b from hy);cases (show v=Value.bool b from ry);exact ⟨.tuple_bool b p (by omega),.tuple_bool b p (by omega)⟩
   | int i=>cases (show y=.int i from hy);obtain⟨t',rfl⟩:=ry;exact ⟨.tuple_int i t' p (by omega),.tuple_int i t' p (by omega)⟩
   | str z=>cases (show y=.str z from hy);obtain⟨t',rfl⟩:=ry;exact ⟨.tuple_str z t' p (by omega),.tuple_str z t' p (by omega)⟩
   | lst es=>obtain⟨b,ws,rfl,q',r'⟩:=hy;cases ry;obtain⟨its',_,p',_⟩:=I.list q';exact ⟨.tuple_list p p'.isList (by omega),.tuple_list p p'.isList (by omega)⟩
   | tup es =>
     have hy':=hy
     obtain⟨b,ws,rfl,q',r'⟩:=hy
     cases ry
     obtain⟨its',rv',p',_⟩:=I.tuple q'
     have main:RcAt A s (.ref a) (.ref b) (eqD (.tup ds) (.tup es)):=by
      have:=RcAt.tuples (A:=A) p p' (by omega) (Zi I (A:=A.in1) (by show A.units+1+deps ds<cLine;omega) r r' rv rv' (eqDs_ok I ds) fun d h=>P5 h)
      have l1:=r.length
      have l2:=r'.length
      have l3:=rv.length
      have l4:=rv'.length
      have e1:its.toArray.size=ds.length:=by simp<;>omega
      have e2:its'.toArray.size=es.length:=by simp<;>omega
      rw [e1,e2] at this
      simp only [eqD]
      by_cases hl:ds.length=es.length
      . rw [Ld ds es hl]
        rw [←hl,Nat.min_self] at this
        simpa using this
      . rw [Ku hl]
        have z:(ds.length==es.length)=false:=by simpa using hl
        rw [z,Bool.and_false] at this
        exact this
     refine⟨main,?_⟩
     by_cases hab:a=b
     . subst hab
       have e3:D.tup ds=D.tup es:=Rep.inj I hx' hy'
       rw [e3,Le]
       exact .same _
     . exact .of_refs hab main
 | lst ds =>
   have hx':=hx
   obtain⟨a,vs,rfl,q,r⟩:=hx
   cases rx
   obtain⟨its,rv,p,_⟩:=I.list q
   have hu':A.units+1+deps ds<cLine:=by simp only [dep] at hu;omega
   cases e with
   | non=>cases (show y=.non from hy);cases (show v=Value.none from ry);exact ⟨.list_none p.isList (by omega),.list_none p.isList (by omega)⟩
   | bl b=>cases (show y=.bl b from hy);cases (show v=Value.bool b from ry);exact ⟨.list_bool b p.isList (by omega),.list_bool b p.isList (by omega)⟩
   | int i=>cases (show y=.int i from hy);obtain⟨t',rfl⟩:=ry;exact ⟨.list_int i t' p.isList (by omega),.list_int i t' p.isList (by omega)⟩
   | str z=>cases (show y=.str z from hy);obtain⟨t',rfl⟩:=ry;exact ⟨.list_str z t' p.isList (by omega),.list_str z t' p.isList (by omega)⟩
   | tup es=>obtain⟨b,ws,rfl,q',r'⟩:=hy;cases ry;obtain⟨its',_,p',_⟩:=I.tuple q';exact ⟨.list_tuple p.isList p' (by omega),.list_tuple p.isList p' (by omega)⟩
   | lst es =>
     have hy':=hy
     obtain⟨b,ws,rfl,q',r'⟩:=hy
     cases ry
     obtain⟨its',rv',p',_⟩:=I.list q'
     have main:RcAt A s (.ref a) (.ref b) (eqD (.lst ds) (.lst es)):=by
      have l1:=r.length
      have l2:=r'.length
      have l3:=rv.length
      have l4:=rv'.length
      have e1:its.toArray.size=ds.length:=by simp<;>omega
      have e2:its'.toArray.size=es.length:=by simp<;>omega
      simp only [eqD]
      by_cases hl:ds.length=es.length
      . have:=RcAt.lists (A:=A) p.isList p'.isList (by omega) (by omega) (Zi I (A:=A.in1) (by show A.units+1+deps ds<cLine;omega) r r' rv rv' (eqDs_ok I ds) fun d h=>P5 h)
        rw [e1] at this
        rw [Ld ds es hl]
        exact this
      . rw [Ku hl]
        exact RcAt.lists_lengths p.isList p'.isList (by simpa [e1,e2] using hl) (by omega)
     refine⟨main,?_⟩
     by_cases hab:a=b
     . subst hab
       have e3:D.lst ds=D.lst es:=Rep.inj I hx' hy'
       rw [e3,Le]
       exact .same _
     . exact .of_refs hab main
theorem eqDs_ok (I:Inv X Ac σ H s) (ds:List D):∀ d∈ds,EqD X H s d:=by
 cases ds with
 | nil=>exact fun _ h=>nomatch h
 | cons d0 r =>
   intro d h
   rcases List.mem_cons.mp h with e | h
   . exact e▸A52 I d0
   . exact eqDs_ok I r d h
end
end
end L2
namespace L2
open PySem PySem.Spec PyProof.Rows PySem.SeqAt
section
variable {X:Cx}
def rNeD (K:W.Frag) (n:Nat):R2:=fun x y H Q=>∃ d e,Rep K H x d/\Rep K H y e/\dep d<=n/\Q (.bl (!eqD d e)) H
theorem A28 {n:Nat} (hu:X.A.units+n<cLine):OpR X (compareOp .NotEq) (rNeD X.K n):=by
 intro Ac s σ H x y v u Q I rx ry h
 obtain⟨d,e,hd,he,hn,q⟩:=h
 have fin:EP X Ac σ Q (.bool (!eqD d e)) s:=⟨.bl (!eqD d e),H,I,rfl,q⟩
 have go:∀{k:Bool},RcNeAt X.A s v u k->k=(!eqD d e)->wpAny (model X.prog X.w) X.A (compareOp .NotEq v u) (EP X Ac σ Q) X.xe s:=fun h1 h2=>by
  subst h2
  exact h1 X.prog X.w X.xe _ fin
 cases d with
 | non =>
   cases (show x=.non from hd)
   cases (show v=Value.none from rx)
   cases e with
   | non=>cases (show y=.non from he);cases (show u=Value.none from ry);exact go .none_none rfl
   | bl b=>cases (show y=.bl b from he);cases (show u=Value.bool b from ry);exact go (.none_bool b) rfl
   | int i=>cases (show y=.int i from he);obtain⟨t,rfl⟩:=ry;exact go (.none_int i t) rfl
   | str z=>cases (show y=.str z from he);obtain⟨t,rfl⟩:=ry;exact go (.none_str z t) rfl
   | tup es=>obtain⟨a,vs,rfl,q,r⟩:=he;cases ry;obtain⟨its,_,p,_⟩:=I.tuple q;exact go (.none_tuple p (by omega)) rfl
   | lst es=>obtain⟨a,vs,rfl,q,r⟩:=he;cases ry;obtain⟨its,_,p,_⟩:=I.list q;exact go (.none_list p.isList (by omega)) rfl
 | bl c =>
   cases (show x=.bl c from hd)
   cases (show v=Value.bool c from rx)
   cases e with
   | non=>cases (show y=.non from he);cases (show u=Value.none from ry);exact go (.bool_none c) rfl
   | bl b=>cases (show y=.bl b from he);cases (show u=Value.bool b from ry);exact go (.bool_bool c b) rfl
   | int i=>cases (show y=.int i from he);obtain⟨t,rfl⟩:=ry;exact go (.bool_int c i t) rfl
   | str z=>cases (show y=.str z from he);obtain⟨t,rfl⟩:=ry;exact go (.bool_str c z t) rfl
   | tup es=>obtain⟨a,vs,rfl,q,r⟩:=he;cases ry;obtain⟨its,_,p,_⟩:=I.tuple q;exact go (.bool_tuple c p (by omega)) rfl
   | lst es=>obtain⟨a,vs,rfl,q,r⟩:=he;cases ry;obtain⟨its,_,p,_⟩:=I.list q;exact go (.bool_list c p.isList (by omega)) rfl
 | int c =>
   cases (show x=.int c from hd)
   obtain⟨t,rfl⟩:=rx
   cases e with
   | non=>cases (show y=.non from he);cases (show u=Value.none from ry);exact go (.int_none c t) rfl
   | bl b=>cases (show y=.bl b from he);cases (show u=Value.bool b from ry);exact go (.int_bool c t b) rfl
   | int i=>cases (show y=.int i from he);obtain⟨t',rfl⟩:=ry;exact go (.int_int c t i t') rfl
   | str z=>cases (show y=.str z from he);obtain⟨t',rfl⟩:=ry;exact go (.int_str c t z t') rfl
   | tup es=>obtain⟨a,vs,rfl,q,r⟩:=he;cases ry;obtain⟨its,_,p,_⟩:=I.tuple q;exact go (.int_tuple c t p (by omega)) rfl
   | lst es=>obtain⟨a,vs,rfl,q,r⟩:=he;cases ry;obtain⟨its,_,p,_⟩:=I.list q;exact go (.int_list c t p.isList (by omega)) rfl
 | str c =>
   cases (show x=.str c from hd)
   obtain⟨t,rfl⟩:=rx
   cases e with
   | non=>cases (show y=.non from he);cases (show u=Value.none from ry);exact go (.str_none c t) rfl
   | bl b=>cases (show y=.bl b from he);cases (show u=Value.bool b from ry);exact go (.str_bool c t b) rfl
   | int i=>cases (show y=.int i from he);obtain⟨t',rfl⟩:=ry;exact go (.str_int c t i t') rfl
   | str z=>cases (show y=.str z from he);obtain⟨t',rfl⟩:=ry;exact go (.str_str c t z t') rfl
   | tup es=>obtain⟨a,vs,rfl,q,r⟩:=he;cases ry;obtain⟨its,_,p,_⟩:=I.tuple q;exact go (.str_tuple c t p (by omega)) rfl
   | lst es=>obtain⟨a,vs,rfl,q,r⟩:=he;cases ry;obtain⟨its,_,p,_⟩:=I.list q;exact go (.str_list c t p.isList (by omega)) rfl
 | tup ds =>
   obtain⟨a,vs,rfl,q1,r⟩:=hd
   cases rx
   obtain⟨its,rv,p,_⟩:=I.tuple q1
   have hu':X.A.units+1+deps ds<cLine:=by simp only [dep] at hn;omega
   cases e with
   | non=>cases (show y=.non from he);cases (show u=Value.none from ry);exact go (.tuple_none p (by omega)) rfl
   | bl b=>cases (show y=.bl b from he);cases (show u=Value.bool b from ry);exact go (.tuple_bool b p (by omega)) rfl
   | int i=>cases (show y=.int i from he);obtain⟨t',rfl⟩:=ry;exact go (.tuple_int i t' p (by omega)) rfl
   | str z=>cases (show y=.str z from he);obtain⟨t',rfl⟩:=ry;exact go (.tuple_str z t' p (by omega)) rfl
   | lst es=>obtain⟨b,ws,rfl,q',r'⟩:=he;cases ry;obtain⟨its',_,p',_⟩:=I.list q';exact go (.tuple_list p p'.isList (by omega)) rfl
   | tup es =>
     obtain⟨b,ws,rfl,q',r'⟩:=he
     cases ry
     obtain⟨its',rv',p',_⟩:=I.tuple q'
     refine go (RcNeAt.tuples p p' (by omega) (Zi I (A:=X.A.in1) (by show X.A.units+1+deps ds<cLine;omega) r r' rv rv' (eqDs_ok I ds) fun d h=>P5 h)) ?_
     have l1:=r.length
     have l2:=r'.length
     have l3:=rv.length
     have l4:=rv'.length
     have e1:its.toArray.size=ds.length:=by simp<;>omega
     have e2:its'.toArray.size=es.length:=by simp<;>omega
     rw [e1,e2]
     simp only [eqD]
     by_cases hl:ds.length=es.length
     . rw [Ld ds es hl,←hl,Nat.min_self]
       simp
     . rw [Ku hl]
       have z:(ds.length==es.length)=false:=by simpa using hl
       rw [z,Bool.and_false]
 | lst ds =>
   obtain⟨a,vs,rfl,q1,r⟩:=hd
   cases rx
   obtain⟨its,rv,p,_⟩:=I.list q1
   have hu':X.A.units+1+deps ds<cLine:=by simp only [dep] at hn;omega
   cases e with
   | non=>cases (show y=.non from he);cases (show u=Value.none from ry);exact go (.list_none p.isList (by omega)) rfl
   | bl b=>cases (show y=.bl b from he);cases (show u=Value.bool b from ry);exact go (.list_bool b p.isList (by omega)) rfl
   | int i=>cases (show y=.int i from he);obtain⟨t',rfl⟩:=ry;exact go (.list_int i t' p.isList (by omega)) rfl
   | str z=>cases (show y=.str z from he);obtain⟨t',rfl⟩:=ry;exact go (.list_str z t' p.isList (by omega)) rfl
   | tup es=>obtain⟨b,ws,rfl,q',r'⟩:=he;cases ry;obtain⟨its',_,p',_⟩:=I.tuple q';exact go (.list_tuple p.isList p' (by omega)) rfl
   | lst es =>
     obtain⟨b,ws,rfl,q',r'⟩:=he
     cases ry
     obtain⟨its',rv',p',_⟩:=I.list q'
     have l1:=r.length
     have l2:=r'.length
     have l3:=rv.length
     have l4:=rv'.length
     have e1:its.toArray.size=ds.length:=by simp<;>omega
     have e2:its'.toArray.size=es.length:=by simp<;>omega
     by_cases hl:ds.length=es.length
     . refine go (RcNeAt.lists p.isList p'.isList (by omega) (by omega) (Zi I (A:=X.A.in1) (by show X.A.units+1+deps ds<cLine;omega) r r' rv rv' (eqDs_ok I ds) fun d h=>P5 h)) ?_
       rw [e1]
       simp only [eqD]
       rw [Ld ds es hl]
     . refine go (RcNeAt.lists_lengths p.isList p'.isList (by simpa [e1,e2] using hl) (by omega)) ?_
       simp only [eqD]
       rw [Ku hl]
       rfl
def isD (n:String):D->Bool
 | .non=>false
 | .bl _=>n=="int" || n=="bool"
 | .int _=>n=="int"
 | .str _=>n=="str"
 | .tup _=>n=="tuple"
 | .lst _=>n=="list"
def tyD:D->String
 | .non=>"NoneType"
 | .bl _=>"bool"
 | .int _=>"int"
 | .str _=>"str"
 | .tup _=>"tuple"
 | .lst _=>"list"
theorem A42 {K:W.Frag}{n:String}{d:D} (hn:n="int"\/n="bool"\/n="str"\/n="tuple"\/n="list"\/n="dict"):PySem.W.kitOne K (.type (tyD d)) (.type n)=some (isD n d):=by
 rcases hn with rfl | rfl | rfl | rfl | rfl | rfl<;>cases d<;>(unfold PySem.W.kitOne PySem.W.kitCls PySem.W.subIn tyD isD;first | rfl | decide +kernel)
theorem Y2:Km X (.builtin "isinstance") (fun xs H Q=>∃ x n d,xs=[x,.ty n]/\(n="int"\/n="bool"\/n="str"\/n="tuple"\/n="list"\/n="dict")/\Rep X.K H x d/\Q (.bl (isD n d)) H):=by
 intro Ac s σ H xs us Q I r h
 obtain⟨x,n,d,rfl,hn,hx,q⟩:=h
 obtain⟨u,v,rfl,rx,rt⟩:=Au0 r
 cases rt
 have k:=A42 (K:=X.K) (d:=d) hn
 have fin:∀ tk,EP X Ac σ Q (.bool (isD n d)) { s with toks:=tk }:=fun tk=>⟨.bl (isD n d),H,I.tok tk,rfl,q⟩
 cases d with
 | non=>cases (show x=.non from hx);cases (show u=Value.none from rx);exact PySem.W.kia_one PySem.W.kitx_none I.kIn True.intro k (fun z=>nomatch z) fin
 | bl b=>cases (show x=.bl b from hx);cases (show u=Value.bool b from rx);exact PySem.W.kia_one PySem.W.kitx_bool I.kIn True.intro k (fun z=>nomatch z) fin
 | int b=>cases (show x=.int b from hx);obtain⟨t,rfl⟩:=rx;exact PySem.W.kia_one PySem.W.kitx_int I.kIn True.intro k (fun z=>nomatch z) fin
 | str b=>cases (show x=.str b from hx);obtain⟨t,rfl⟩:=rx;exact PySem.W.kia_one PySem.W.kitx_str I.kIn True.intro k (fun z=>nomatch z) fin
 | tup ds =>
   obtain⟨a,vs,rfl,hq,_⟩:=hx
   cases rx
   obtain⟨its,_,⟨o,e,c,_⟩,_⟩:=I.tuple hq
   exact PySem.W.kia_one PySem.W.kitx_tuple I.kIn ⟨o,e,c⟩ k (fun z=>nomatch z) fin
 | lst ds =>
   obtain⟨a,vs,rfl,hq,_⟩:=hx
   cases rx
   obtain⟨its,_,⟨o,_,e,c,_⟩,_⟩:=I.list hq
   exact PySem.W.kia_one PySem.W.kitx_list I.kIn ⟨o,e,c⟩ k (fun z=>nomatch z) fin
def As1 (K:W.Frag):R2:=fun x y H Q=>∃ l b xs zs,x=.ref l/\y=.ref b/\SqL K H l xs/\SqL K H b zs/\xs.length+zs.length<=sizeLine/\∀ p,H p=none->Q (.ref p) (upd H p (.lst (xs++zs)))
theorem Ao3:OpR X (binaryOp .Add) (As1 X.K):=by
 intro Ac s σ H x y v u Q I rx ry h
 obtain⟨l,b,xs,zs,rfl,rfl,hl,hb,hz,q⟩:=h
 cases rx
 cases ry
 obtain⟨its,r1,p1,_⟩:=I.list hl
 obtain⟨its2,r2,p2,_⟩:=I.list hb
 obtain⟨⟨cls,dd,data,sl⟩,n,ho,hc,hdd,hd⟩:=id p1
 obtain⟨⟨cls2,dd2,data2,sl2⟩,n2,ho2,hc2,hdd2,hd2⟩:=id p2
 simp only at hc hd hc2 hd2
 subst hc hd hc2 hd2
 refine concat_meets ⟨_,ho,rfl⟩ ⟨_,ho2,rfl⟩ noFill_list_add seq_list_add PySem.F.slot_list_add PySem.F.entry_list_add (PySem.F.args_list_add_2 _ _)
  (list_addW l b its.toArray its2.toArray n n2 dd dd2 sl sl2 (by rw [List.size_toArray,List.size_toArray,←r1.length,←r2.length];exact hz)) ⟨ho,ho2,?_⟩
 rw [show its.toArray++its2.toArray=(its++its2).toArray by simp]
 exact ⟨.ref s.heap.objs.size,_,I.lnew (t':=s.toks) (r1.append r2) (by rw [List.length_append];exact hz),rfl,q _ I.fresh⟩
theorem Ak5 (hc:X.calm=true):Km X (.builtin "all") (fun xs H Q=>∃ (p:Addr) (bs:List Bool),xs=[.ref p]/\SqL X.K H p (bs.map V.bl)/\Q (.bl (bs.all id)) H):=by
 intro Ac s σ H xs us Q I r h
 obtain⟨p,bs,rfl,hq,q⟩:=h
 obtain⟨u,rfl,ru⟩:=v4 r
 cases ru
 obtain⟨its,rv,pl,hz⟩:=I.list hq
 have hh:X.A.handled=none:=I.ok.hd hc
 have rel:∀ (i:Nat) (v:Value),its.toArray[i]?=some v->∃ b,bs[i]?=some b/\v=.bool b:=fun i v e=>by
  have e':its[i]?=some v:=by simpa using e
  have hlt:i<its.length:=(List.getElem?_eq_some_iff.mp e').1
  have l1:=rv.length
  rw [List.length_map] at l1
  have hb:bs[i]?=some (bs[i]'(by omega)):=by simp<;>omega
  obtain⟨u,hu,ru⟩:=rv.get (i:=i) (x:=V.bl (bs[i]'(by omega))) (by rw [List.getElem?_map,hb];rfl)
  rw [e'] at hu
  cases hu
  exact ⟨_,hb,ru⟩
 refine call_all_walk (wpAny_pyIter_list pl.isList ?_)
 refine⟨s.heap.objs.size,[s.heap.objs.size,p],[s.heap.objs.size],its.toArray.size,_,_,fun i=>(bs[i]?).getD true,rfl,Walks.list (show X.A.in1.handled=none from hh) s.heap.objs.size p ?_ its.toArray,⟨⟨_,Heap.get?_push_size _ rfl,rfl,rfl⟩,?_⟩,?_,fun h' tk k=>?_⟩
 . obtain⟨o,_,ho,_⟩:=pl
   exact Nat.ne_of_lt (Heap.lt_size ho)
 . exact pl.isList.at fun o e=>Heap.get?_push_of_some _ e
 . intro i v s' Q' E' hv hQ
   obtain⟨b,hb,rfl⟩:=rel i v hv
   dsimp only at hQ
   rw [hb] at hQ
   exact wpAny_truthy_bool hQ
 . have e:(List.range its.toArray.size).all (fun i=>(bs[i]?).getD true)=bs.all id:=by
    have l1:=rv.length
    rw [List.length_map] at l1
    rw [List.size_toArray,←l1]
    rw [Bool.eq_iff_iff,List.all_eq_true,List.all_eq_true]
    constructor
    . intro hx b hb
      obtain⟨i,hi⟩:=List.getElem?_of_mem hb
      have:=hx i (List.mem_range.mpr (List.getElem?_eq_some_iff.mp hi).1)
      rw [hi] at this
      exact this
    . intro hx i hi
      have hlt:=List.mem_range.mp hi
      have hb:bs[i]?=some bs[i]:=by simp
      rw [hb]
      exact hx _ (List.getElem_mem _)
   rw [e]
   have I1:Inv X Ac σ H { s with heap:=h',toks:=tk }:=I.kept (fun b o e=>k b o (by simp;exact Nat.ne_of_lt (Heap.lt_size e)) (Heap.get?_push_of_some _ e))
   exact ⟨.bl (bs.all id),H,I1,rfl,q⟩
end
structure Has (P:Program) (w:World) (K:W.Frag) (mg:Str->Option Value) (base:Heap) (x:Str) (ps:List Str) (k:Nat) (sp:Sp):Prop where
 ex:∃ (f:Addr) (fd:FuncData),mg x=some (.ref f)/\PySem.W.keepIn K (.ref f)=true/\My K fd ps []/\FnOk P w K mg base CX0 k f fd ps sp
section
variable {X:Cx}{x:Str}{ps:List Str}{j k:Nat}{sp:Sp}{p pos:Pos}{e:Expr}{es:List Expr}{t:TA}
theorem Ap (h:Has X.prog X.w X.K X.mg X.base x ps j sp) (hr:Room k X.A) (hg:Gl X x) (ha:PA X (e::es) t) (hk:j<=k:=by decide) (hdb:(x==("__debug__":Str))=false:=by decide)
 (he:starEach (e::es) X.env=(false,eval e X.env)::starEach es X.env:=by rfl) (hpl:(backTo pos (starEach es X.env)).any (·.1)=false:=by rfl):PE X (.Call (.Name x p) (e::es) [] pos) (tCall sp [] E0 t):=by
 obtain⟨f,fd,h1,h2,h3,h4⟩:=h.ex
 exact Aw3 h4 (hr.mono hk) hg h1 h2 h3 .nil Ac1 ha hdb he hpl
end
theorem boot_intT:bootBuiltins "int"=some (.type "int"):=by decide +kernel
theorem Sr:bootBuiltins "bool"=some (.type "bool"):=by decide +kernel
theorem Kk:bootBuiltins "tuple"=some (.type "tuple"):=by decide +kernel
theorem De:bootBuiltins "list"=some (.type "list"):=by decide +kernel
theorem Ak7:bootBuiltins "min"=some (.builtin "min"):=by decide +kernel
theorem Ws:bootBuiltins "all"=some (.builtin "all"):=by decide +kernel
theorem Bh:bootBuiltins "isinstance"=some (.builtin "isinstance"):=by decide +kernel
end L2
namespace L2
open PySem PySem.Spec PyProof.Rows
section
variable {X:Cx}{K:W.Frag}{tg l:Expr}{tl:TE}{n:Nat}
theorem Af4 (hK:X.K=K:=by rfl):OpR X (binaryOp .Add) (As1 K):=by subst hK;exact Ao3
theorem T4 (hK:X.K=K:=by rfl):SlR X (rSlL K):=by subst hK;exact Au6
theorem As (hK:X.K=K:=by rfl):IxR X (rIxL K):=by subst hK;exact Ay5
theorem A4 (hK:X.K=K:=by rfl):IxR X (rIxT K):=by subst hK;exact A48
theorem A0 (hK:X.K=K:=by rfl):Km X (.builtin "len") (fun xs H Q=>∃ p ys,xs=[.ref p]/\(SqL K H p ys\/SqT K H p ys)/\Q (.int ys.length) H):=by subst hK;exact Wr
theorem Dg (hK:X.K=K:=by rfl):Km X (.type "list") (fun xs H Q=>∃ p ys,xs=[.ref p]/\(SqL K H p ys\/SqT K H p ys)/\∀ l,H l=none->Q (.ref l) (upd H l (.lst ys))):=by subst hK;exact Wq
theorem Jy (hK:X.K=K:=by rfl):Km X (.type "tuple") (fun xs H Q=>∃ p ys,xs=[.ref p]/\((SqL K H p ys/\∀ l,H l=none->Q (.ref l) (upd H l (.tup ys)))\/(SqT K H p ys/\Q (.ref p) H))):=by subst hK;exact Us
theorem Ca (hK:X.K=K:=by rfl):Km X (.builtin "isinstance") (fun xs H Q=>∃ x n d,xs=[x,.ty n]/\(n="int"\/n="bool"\/n="str"\/n="tuple"\/n="list"\/n="dict")/\Rep K H x d/\Q (.bl (isD n d)) H):=by subst hK;exact Y2
theorem Sj (hc:X.calm=true) (hK:X.K=K:=by rfl):Km X (.builtin "all") (fun xs H Q=>∃ (p:Addr) (bs:List Bool),xs=[.ref p]/\SqL K H p (bs.map V.bl)/\Q (.bl (bs.all id)) H):=by subst hK;exact Ak5 hc
theorem Af3 (hu:X.A.units+n<cLine) (hK:X.K=K:=by rfl):OpR X (compareOp .NotEq) (rNeD K n):=by subst hK;exact A28 hu
theorem Df (hl:PE X l tl) (hK:X.K=K:=by rfl):PI X tg l (A51 K tl):=by subst hK;exact Av8 hl
theorem Af2 (hl:PE X l tl) (hK:X.K=K:=by rfl):PI X tg l (iTup K tl):=by subst hK;exact A22 hl
variable {o e:Expr}{es:List Expr}{to:TE}{t:TA}{name:Str}{apos cpos:Pos}{T id:String}{r:V->List V->Hp->VK->Prop}
theorem K9 (pa:PlainAttrs T) (slot:Slot T name id) (hty:typeOf (.builtin id)=pure (.type "method_descriptor")) (hm:MtR X id r) (ho:PE X o to) (ha:PA X (e::es) t) (hK:X.K=K:=by rfl)
 (hbase:attributeBase o name X.env (eval o X.env)=eval o X.env:=by rfl)
 (hfew:((backTo cpos (starEach (e::es) X.env)).all (fun x=>!x.1)&&(backToKw cpos (keywordEach [] X.env)).all (fun x=>x.1.isSome)
   && decide ((e::es).length+([]:List Keyword).length+(if ([]:List Keyword).isEmpty then 0 else 1)<30))=true:=by rfl)
 (hline:(apos.endLine==cpos.line)=true:=by rfl) (hs:starEach (e::es) X.env=(false,eval e X.env)::starEach es X.env:=by rfl) (hplain:(backTo cpos (starEach es X.env)).any (·.1)=false:=by rfl) :
 PE X (.Call (.Attribute o name apos) (e::es) [] cpos) (tBM K T r to t):=by subst hK;exact A76 pa slot hty hm ho ha hbase hfew hline hs hplain
theorem Mf {es:List Expr}{k:Nat}{t:TGs}{n:Nat}{pos:Pos} (hc:X.calm=true) (h:PGs X es t) (hK:X.K=K:=by rfl)
 (hn:(assignEach es X.env).length=n:=by rfl) (hst:(assignEach es X.env).findIdx? (·.1)=none:=by rfl):PG X (.Tuple es k pos) (gTup K n t):=by subst hK;exact A23 hc h hn hst
end
end L2
namespace Hb
def Az0 (w:List Int) (fam:Int):List (List Int) :=
 if fam=0 then (if w.length<2 then [] else (List.range w.length).map fun i=>w.take i++w.drop (i+1))
 else if w.length=0 then []
 else if fam<0 then (if w.length=1 then [[],[]] else w.map fun l=>[l])
 else w.drop 1::((List.range (w.length-1)).map fun i=>w.take i++[(w.getD i 0+w.getD (i+1) 0)%fam]++w.drop (i+2))++[w.take (w.length-1)]
def lv (fam:Int) (w:List Int):Nat:=if fam=0 then w.length-1 else if fam<0 then (if w.length=3 then 2 else w.length) else w.length
section
variable {fam:Int}
end
def addNew (ws:List (List Int)):List (List Int)->List (List Int)->List (List Int)
 | acc,[]=>acc
 | acc,f::r=>addNew ws (if f ∉ ws/\f ∉ acc then acc++[f] else acc) r
def A00 (ws:List (List Int)) (fam:Int):List (List Int)->List (List Int)->List (List Int)
 | acc,[]=>acc
 | acc,w::r=>A00 ws fam (addNew ws acc (Az0 w fam)) r
end Hb
namespace Hb
section
variable {xs:List (List Int)}
end
end Hb
namespace Hb
open PySem L2
def Do (ns:List Int) (k:Int):Int:=ns.getD k.toNat 0
abbrev TI (K:W.Frag) (H:Hp) (v:V) (ns:List Int):Prop:=Rep K H v (tI ns)
section
variable {K:W.Frag}{H H':Hp}
def SameX (B:Addr) (H H':Hp):Prop:=∀ b o,b≠B->H b=some o->H' b=some o
theorem SameX.refl (B:Addr) (H:Hp):SameX B H H:=fun _ _ _ h=>h
theorem SameX.trans {B:Addr}{H H1 H2:Hp} (a:SameX B H H1) (b:SameX B H1 H2):SameX B H H2:=fun c o n h=>b c o n (a c o n h)
theorem SameX.of {B:Addr}{H H1:Hp} (a:Same H H1):SameX B H H1:=fun c o _ h=>a c o h
theorem SameX.upd {B:Addr}{H H1:Hp}{o:HO} (a:SameX B H H1):SameX B H (upd H1 B o):=fun c u n h=>by rw [Aq n];exact a c u n h
theorem SameX.same {B:Addr}{H0 H H1:Hp} (a:SameX B H H1) (s:Same H0 H) (h:H0 B=none):Same H0 H1:=fun b o e=>a b o (Ar e h) (s b o e)
theorem Wd:∀ ns:List Int,deps (nums ns)=0
 | []=>rfl
 | n::ns=>by show max (dep (.int n)) (deps (nums ns))=0;rw [Wd ns];rfl
theorem ifP {c A B:Prop} [Decidable c] (hc:c) (h:A):if c then A else B:=by rw [if_pos hc];exact h
theorem ifN {c A B:Prop} [Decidable c] (hc:¬c) (h:B):if c then A else B:=by rw [if_neg hc];exact h
theorem isI {a b:Int} (h:a=b):decide (V.int a=V.int b)=true:=by simp [h]
theorem Ct {g:TG}{te:TE}{D:Addr}{Q:Hp->Prop}{τ:St}{H:Hp}{K:W.Frag}{a:Addr}{xs:List V} (Pv:Nat->List V->St->Hp->Prop) (h0:Pv 0 [] τ H) (hl:∀ i ys τ H,i<=xs.length->Pv i ys τ H->SqL K H a xs)
 (hs:∀ i x ys τ H,xs[i]?=some x->Pv i ys τ H->g x τ H fun τ2 H2=>te τ2 H2 fun y H4=>H4 D=some (.lst ys)/\ys.length<sizeLine/\Pv (i+1) (ys++[y]) τ2 (upd H4 D (.lst (ys++[y]))))
 (hd:∀ ys τ H,Pv xs.length ys τ H->Q H):RunC (Itl K a) g tYes te D Q τ H:=Aj5 Pv h0 hl (fun i x ys τ H e p=>hs i x ys τ H e p) hd
theorem Aj3 {g:TG}{te:TE}{D:Addr}{Q:Hp->Prop}{τ:St}{H:Hp}{K:W.Frag}{a:Addr}{xs:List V} (Pv:Nat->List V->St->Hp->Prop) (h0:Pv 0 [] τ H) (hl:∀ i ys τ H,i<=xs.length->Pv i ys τ H->SqT K H a xs)
 (hs:∀ i x ys τ H,xs[i]?=some x->Pv i ys τ H->g x τ H fun τ2 H2=>te τ2 H2 fun y H4=>H4 D=some (.lst ys)/\ys.length<sizeLine/\Pv (i+1) (ys++[y]) τ2 (upd H4 D (.lst (ys++[y]))))
 (hd:∀ ys τ H,Pv xs.length ys τ H->Q H):RunC (Itt K a) g tYes te D Q τ H:=Ar0 Pv h0 hl (fun i x ys τ H e p=>hs i x ys τ H e p) hd
theorem Kj {g:TG}{te:TE}{D:Addr}{Q:Hp->Prop}{τ:St}{H:Hp}{lo:Int}{n:Nat} (Pv:Nat->List V->St->Hp->Prop) (h0:Pv 0 [] τ H)
 (hs:∀ i ys τ H,i<n->Pv i ys τ H->g (.int (lo+i)) τ H fun τ2 H2=>te τ2 H2 fun y H4=>H4 D=some (.lst ys)/\ys.length<sizeLine/\Pv (i+1) (ys++[y]) τ2 (upd H4 D (.lst (ys++[y]))))
 (hd:∀ ys τ H,Pv n ys τ H->Q H):RunC (Itr lo n) g tYes te D Q τ H:=t5 Pv h0 (fun i ys τ H e p=>hs i ys τ H e p) hd
theorem An {t u:TS}{D:Ends}{σ:St}{H:Hp} (P:St->Hp->Prop) (hu:∀ σ' H',P σ' H'->u D σ' H') (h:∀{N:St->Hp->Prop},(∀ σ' H',P σ' H'->N σ' H')->t { D with nx:=N } σ H):tSeq t u D σ H:=h hu
theorem B4 {t u:TS}{D:Ends}{σ:St}{H:Hp} (P:St->Hp->Prop) (hu:∀ σ' H',P σ' H'->u D σ' H') (h:(∀ σ' H',P σ' H'->u D σ' H')->tSeq t u D σ H):tSeq t u D σ H:=h hu
theorem small {n:Nat} (h:n<=1000000):n<sizeLine:=Nat.lt_of_le_of_lt h (by decide)
theorem Ec {n:Nat} (h:n<=1000000):n<=sizeLine:=Nat.le_of_lt (small h)
end
section
variable (K:W.Frag)
def b6:Sp:=fun vs H Q _=>∃ (a:Addr) (ns:List Int) (k:Int),vs=[.ref a,.int k]/\SqL K H a (ns.map V.int)/\0<=k/\ns.length<=63/\Q (.int (Do ns k)) H
end
end Hb
namespace Hb
open PySem L2
def Ju (d:L2.D):Bool:=isD "int" d&&!isD "bool" d
section
variable (K:W.Frag)
def Gd:Sp:=fun vs H Q _=>∃ (x:V) (d:L2.D),vs=[x]/\Rep K H x d/\Q (.bl (Ju d)) H
abbrev Lv:Sp:=Gd K
abbrev Hd:Sp:=b6 K
end
section
variable {K:W.Frag}{H:Hp}
end
end Hb
namespace L2
open PySem PySem.Spec PyProof.Rows
section
variable {X:Cx}{sc:Scope}{N':List Str}{cap:List (Option Nat)}{xc:Str}{Ac:List (Addr × Obj)}{σ:St}{H:Hp}{s:Shared}{C c:Addr}{fp:List Addr}
end
section
variable {X:Cx}{sc:Scope}{N':List Str}{cap:List (Option Nat)}{xc:Str}{tg elt iter:Expr}{ifs:List Expr}{pos:Pos}{g:TG}{tc:TT}{te:TE}
end
end L2
namespace L2
open PySem PySem.Spec PyProof.Rows
end L2
namespace L2
open PySem PySem.Spec PyProof.Rows
section
variable {fs:List Addr}{H H':Hp}{h B h' h2:Heap}
end
abbrev XJ:=Value->Option Addr->St->Hp->Prop
section
variable {X:Cx}{Ac:List (Addr × Obj)}{σ:St}{H H':Hp}{s s':Shared}{e:Addr}{cls a0:Value}{dx:Option Addr}
end
section
variable {P:Program}{w:World}{K:W.Frag}{mg:Str->Option Value}{base:Heap}{N:List Str}{qual:Str}{scope:Scope}{f:Addr}{cd:Value}{A:Around}{outer:List Env}{s:Shared}{H:Hp}{E:XK}
end
section
variable {X:Cx}{J:XJ}{x:Str}{ps:List Str}{j k:Nat}{sp:Sp}{p pos:Pos}{e:Expr}{es:List Expr}{t:TA}
end
end L2
namespace L2
open PySem PySem.Spec PyProof.Rows PySem.W
section
variable {X:Cx}{Ac pn:List (Addr × Obj)}{σ:St}{H:Hp}{s:Shared}{J:XJ}
end
section
variable {X:Cx}{th:Ends->XJ}
end
section
variable {prog:Program}{w:World}{A:Around}{E:Value->Shared->Prop}{h:Heap}{g:Array GenState}{d:Drawn}{t:Nat}{os:OsState}{a C:Addr}{o:Obj}{K:Frag}
end
section
variable {X:Cx}{K:Frag}
end
end L2
namespace L2
open PySem PySem.Spec PyProof.Rows
def Ite (K:W.Frag) (a:Addr):It :=
 ⟨fun i H=>∃ xs x,SqL K H a xs/\xs[i]?=some x,fun i H x H'=>∃ p v,H p=none/\x=.ref p/\H'=upd H p (.tup [.int i,v])/\∀ xs,SqL K H a xs->xs[i]?=some v,fun i H=>∃ xs,SqL K H a xs/\xs.length<=i⟩
theorem v7 {P:Program}{w:World}{K:W.Frag}{es:List Expr}{x1:Nat}{tpos:Pos} (a e it:Addr) (hne:e≠it):Turn P w K (.Tuple es x1 tpos) (Ite K a) [e,it] e (fun i h=>(∃ old,IsEnum h e it (i:Int) old)/\h.IsListIter it a i) where
 mem:=by simp
 obj:=fun i h st b hb=>by
  obtain⟨⟨old,h1⟩,o,h2,c,d⟩:=st
  rcases List.mem_cons.mp hb with rfl | hb
  . exact ⟨_,h1,fun v z=>by cases (show Data.fields _=Data.cell v from z)⟩
  . have z:b=it:=by simpa using hb
    subst z
    exact ⟨o,h2,fun v z=>by rw [d] at z;cases z⟩
 keep:=fun i h h' st k=>by
  obtain⟨⟨old,h1⟩,h2⟩:=st
  exact ⟨⟨old,k e (by simp) _ h1⟩,h2.at fun o z=>k it (by simp) o z⟩
 item:=by
  intro X hP hw hK hc i Ac s σ H E I hf st hg
  subst hP hw hK
  obtain⟨⟨old,h1⟩,h2⟩:=st
  obtain⟨xs,x,hq,hx⟩:=hg
  obtain⟨its,rv,p,hz⟩:=I.list hq
  obtain⟨u,hu,ru⟩:=rv.get hx
  have fe:=hf e (by simp)
  have fi:=hf it (by simp)
  have lte:e<s.heap.objs.size:=Heap.lt_size h1
  have hfresh:H s.heap.objs.size=none:=I.hok.fresh (Nat.le_refl _)
  refine wpAny_pyNext_enum_item h1 h2 p.isList (x:=u) (by simpa using hu) hne fun h' hout hit' htup hsz hk=>?_
  refine⟨_,rfl,wpAny_letOwnedTupleGo_enum hout fun h3 hen hsb=>?_⟩
  replace hsb:Heap.SameBut e h' h3:=hsb
  have kk:∀ b o,b≠e->b≠it->s.heap.get? b=some o->h3.get? b=some o:=fun b o n1 n2 z=>(hsb.2 b n1).trans (hk b o n1 n2 z)
  have ht3:h3.get? s.heap.objs.size=some { cls:=.type "tuple",data:=.seq #[.int i s.toks,u] }:=(hsb.2 _ (Nat.ne_of_gt lte)).trans htup
  have hi3:h3.IsListIter it a (i+1):=hit'.at fun o z=>(hsb.2 it hne.symm).trans z
  have nch:∀ b,b ∉ [e,it]->b≠e/\b≠it:=fun b hb=>by simpa using hb
  have ntr:∀ b v,H b=some v->b≠e/\b≠it:=fun b v z=>⟨Ar z fe.1,Ar z fi.1⟩
  have nsz:∀ b v,H b=some v->b≠s.heap.objs.size:=fun b v z=>Ar z hfresh
  refine⟨.ref s.heap.objs.size,upd H s.heap.objs.size (.tup [.int i,x]),?_,rfl,⟨s.heap.objs.size,x,hfresh,rfl,rfl,fun ys hy=>by rw [I.list_inj hy hq];exact hx⟩,⟨⟨_,hen⟩,hi3⟩,fun b hb=>?_⟩
  . refine Inv.step (s:=s) (h':=h3) (t':=s.toks+1) (H':=upd H s.heap.objs.size (.tup [.int i,x])) I (g':=s.gens) (d':=s.drawn) (ch:=[e,it]) (fun b hb=>?_) (fun b o _ _ hb z _=>kk b o (nch b hb).1 (nch b hb).2 z) (fun b o _ _ hb z _=>⟨o.slots,kk b o (nch b hb).1 (nch b hb).2 z⟩) (fun b o hb z n=>?_) (fun b o hb z=>⟨o,kk b o (nch b hb).1 (nch b hb).2 z⟩)
     (fun b ys z=>by rw [Aq (nsz b _ z)];exact z) (fun b o v z=>by rw [Aq (nsz b _ z)];exact z) (fun b ps z=>⟨#[],by rw [Aq (nsz b _ z),z];simp⟩) (fun m hm=>?_) (fun b v z=>?_) I.bare
    . rcases List.mem_cons.mp hb with rfl | hb
      . exact ⟨fe.2.2.2.1,fe.2.1,fe.2.2.2.2.1,fe.2.2.2.2.2⟩
      . have z:b=it:=by simpa using hb
        subst z
        exact ⟨fi.2.2.2.1,fi.2.1,fi.2.2.2.2.1,fi.2.2.2.2.2⟩
    . rw [Aq (Nat.ne_of_lt (Heap.lt_size z))]
      exact n
    . obtain⟨o,es',ep,ho,r⟩:=hm
      exact ⟨o,es',ep,kk _ o fe.2.1.symm fi.2.1.symm ho,r⟩
    . by_cases hb:b=s.heap.objs.size
      . subst hb
        rw [Ag] at z
        cases z
        exact ⟨(by show (2:Nat)<=sizeLine;decide),[.int i s.toks,u],.cons ⟨_,rfl⟩ (.cons ru .nil),⟨_,ht3,rfl,rfl,_,rfl⟩⟩
      . rw [Aq hb] at z
        refine (I.hok b v z).stay (fun c y hc' q=>?_) (fun c q=>by rw [Aq (nsz c _ q)];exact q) fun c ys q=>by rw [Aq (nsz c _ q)];exact q
        rcases hc' with rfl | hc'
        . exact kk _ _ (ntr _ _ z).1 (ntr _ _ z).2 q
        . exact kk _ _ (ntr _ _ hc').1 (ntr _ _ hc').2 q
  . have lb:b<s.heap.objs.size:=by
     rcases List.mem_cons.mp hb with rfl | hb
     . exact lte
     . have z:b=it:=by simpa using hb
       subst z
       obtain⟨o,z,_⟩:=h2
       exact Heap.lt_size z
    rw [Aq (Nat.ne_of_lt lb)]
    exact (hf b hb).1
 done:=by
  intro X hP hw hK hc i Ac s σ H E I hf st hg
  subst hP hw hK
  obtain⟨⟨old,h1⟩,h2⟩:=st
  obtain⟨xs,hq,hx⟩:=hg
  obtain⟨its,rv,p,hz⟩:=I.list hq
  obtain⟨f0,f1,f2,f3,f4,f5⟩:=hf it (by simp)
  have hl:=rv.length
  exact wpAny_pyNext_enum_end (I.ok.hd hc) h1 h2 p.isList (by simp;omega) fun h' eb=>⟨rfl,I.turned (t':=s.toks) (fun b o hb z=>eb b o hb z) f0 f1 f3 f4 f5⟩
 self:=fun _ _ _ _ _ st h=>by
  obtain⟨⟨old,h1⟩,h2⟩:=st
  exact wpAny_pyIter_enum h1 h
def A89 (K:W.Frag) (ta:TA):TI:=fun σ H R=>ta σ H fun vs H1=>∃ a,vs=[.ref a]/\(∃ xs,SqL K H1 a xs)/\R (Ite K a) H1
theorem Qh:bootBuiltins "enumerate"=some (.type "enumerate"):=by decide +kernel
theorem Ab9 {X:Cx}{K:W.Frag}{es:List Expr}{x1:Nat}{tpos:Pos}{a:Expr}{ta:TA}{p pos:Pos} (hg:Gl X "enumerate") (hm:X.mg "enumerate"=none) (ha:PA X [a] ta) (hK:X.K=K:=by rfl) (hs:starEach [a] X.env=[(false,eval a X.env)]:=by rfl):PI X (.Tuple es x1 tpos) (.Call (.Name "enumerate" p) [a] [] pos) (A89 K ta):=by
 subst hK
 intro Ac s σ H R I h
 refine Call_ (K8 I hg hm Qh (PyProof.Rows.callWith_type1 (thn (ha pos Ac s σ H _ I h) fun us s1 ⟨vs,H1,I1,r1,q1⟩=>?_) hs rfl))
 obtain⟨l,e,⟨xs,hq⟩,q⟩:=q1
 subst e
 cases r1 with
 | cons r rr =>
   cases rr
   cases r
   obtain⟨its,rv,pl,hz⟩:=I1.list hq
   refine call_enumerate_list pl.isList fun h' hen hit hsz hk=>?_
   refine wpAny_pyIter_enum hen ⟨s1.heap.objs.size+1,[s1.heap.objs.size+1,s1.heap.objs.size],_,_,H1,rfl,I1.kept (t':=s1.toks) hk,v7 l _ _ (Nat.succ_ne_self _),⟨⟨_,hen⟩,hit⟩,fun b hb=>?_,q⟩
   have lb:s1.heap.objs.size<=b:=by
    rcases List.mem_cons.mp hb with rfl | hb
    . exact Nat.le_succ _
    . have z:b=s1.heap.objs.size:=by simpa using hb
      rw [z]
      exact Nat.le_refl _
   exact I1.fpOk lb (I1.hok.fresh lb)
section
variable {g:TG}{tc:TT}{te:TE}{D:Addr}{Q:Hp->Prop}{τ:St}{H:Hp}
theorem Aj6 {K:W.Frag}{a:Addr}{xs:List V} (Pv:Nat->List V->St->Hp->Prop) (h0:Pv 0 [] τ H) (hl:∀ i ys τ H,i<=xs.length->Pv i ys τ H->SqL K H a xs)
 (hs:∀ i x ys τ H p,xs[i]?=some x->Pv i ys τ H->H p=none->g (.ref p) τ (upd H p (.tup [.int i,x])) fun τ2 H2=>tc τ2 H2 fun b H3=>if b=true then te τ2 H3 fun y H4=>H4 D=some (.lst ys)/\ys.length<sizeLine/\Pv (i+1) (ys++[y]) τ2 (upd H4 D (.lst (ys++[y]))) else Pv (i+1) ys τ2 H3)
 (hd:∀ ys τ H,Pv xs.length ys τ H->Q H):RunC (Ite K a) g tc te D Q τ H:=by
 refine⟨fun i m ys τ H=>m=xs.length-i/\i<=xs.length/\Pv i ys τ H,⟨xs.length,by simp,Nat.zero_le _,h0⟩,?_⟩
 rintro i m ys τ H ⟨rfl,hi,pp⟩
 have q:=hl i ys τ H hi pp
 by_cases hlt:i<xs.length
 . refine .inr ⟨⟨xs,xs[i],q,by simp [hlt]⟩,Pv (i+1),fun ys' τ' H' p'=>⟨xs.length-(i+1),by omega,rfl,hlt,p'⟩,fun x H' y=>?_⟩
   obtain⟨p,v,hp,rfl,rfl,y⟩:=y
   exact hs i v ys τ _ p (y xs q) pp hp
 . have e:i=xs.length:=by omega
   subst e
   exact .inl ⟨⟨xs,q,Nat.le_refl _⟩,hd ys τ H pp⟩
theorem Aq1 {K:W.Frag}{a:Addr}{xs:List V}{g:TG}{tb:TS}{D:Ends}{σ:St}{H:Hp} (Pv:Nat->St->Hp->Prop) (h0:Pv 0 σ H) (hl:∀ i σ H,i<=xs.length->Pv i σ H->SqL K H a xs)
 (hs:∀ i x σ H p,xs[i]?=some x->Pv i σ H->H p=none->g (.ref p) σ (upd H p (.tup [.int i,x])) fun σ2 H2=>tb { D with nx:=Pv (i+1),ct:=Pv (i+1),bk:=D.nx } σ2 H2) (hd:∀ σ H,Pv xs.length σ H->D.nx σ H) :
 ∃ W:Nat->Nat->St->Hp->Prop,(∃ m,W 0 m σ H)/\∀ i m σ H,W i m σ H →
   ((Ite K a).stop i H/\D.nx σ H)\/((Ite K a).go i H/\∃ N:St->Hp->Prop,(∀ σ' H',N σ' H'->∃ m',m'<m/\W (i+1) m' σ' H')/\∀ x H',(Ite K a).yld i H x H'->g x σ H' fun σ2 H2=>tb { D with nx:=N,ct:=N,bk:=D.nx } σ2 H2):=by
 refine⟨fun i m σ H=>m=xs.length-i/\i<=xs.length/\Pv i σ H,⟨xs.length,by simp,Nat.zero_le _,h0⟩,?_⟩
 rintro i m σ H ⟨rfl,hi,pp⟩
 have q:=hl i σ H hi pp
 by_cases hlt:i<xs.length
 . refine .inr ⟨⟨xs,xs[i],q,by simp [hlt]⟩,Pv (i+1),fun σ' H' p'=>⟨xs.length-(i+1),by omega,rfl,hlt,p'⟩,fun x H' y=>?_⟩
   obtain⟨p,v,hp,rfl,rfl,y⟩:=y
   exact hs i v σ _ p (y xs q) pp hp
 . have e:i=xs.length:=by omega
   subst e
   exact .inl ⟨⟨xs,q,Nat.le_refl _⟩,hd σ H pp⟩
end
end L2
namespace L2
open PySem PySem.Spec PyProof.Rows
theorem Inv.turnedN {X:Cx}{Ac:List (Addr × Obj)}{σ:St}{H:Hp}{s:Shared}{h':Heap}{t':Nat}{fp:List Addr} (I:Inv X Ac σ H s) (k:∀ b o,b ∉ fp->s.heap.get? b=some o->h'.get? b=some o) (hf:∀ b∈fp,FpOk X Ac H b) :
 Inv X Ac σ H { s with heap:=h',toks:=t' }:=by
 have ntr:∀ c o,H c=some o->c ∉ fp:=fun c o e hm=>by rw [(hf c hm).1] at e;cases e
 refine I.step (g':=s.gens) (d':=s.drawn) (ch:=fp) (fun b hb=>?_) (fun b o _ _ hc e _=>k b o hc e) (fun b o _ _ hc e _=>⟨o.slots,k b o hc e⟩) (fun _ _ _ _ n=>n)
  (fun b o hc e=>⟨o,k b o hc e⟩) (fun _ _ e=>e) (fun _ _ _ e=>e) (fun b ps e=>⟨#[],by rw [e];simp⟩) (fun m hm=>?_) (fun b u e=>?_) I.bare
 . have f:=hf b hb
   exact ⟨f.2.2.2.1,f.2.1,f.2.2.2.2.1,f.2.2.2.2.2⟩
 . obtain⟨o,es',ep,ho,r⟩:=hm
   exact ⟨o,es',ep,k _ o (fun z=>(hf _ z).2.1 rfl) ho,r⟩
 . refine (I.hok b u e).stay (fun c y hc' q=>?_) (fun c q=>q) fun c ys q=>q
   rcases hc' with rfl | hc'
   . exact k _ _ (ntr _ _ e) q
   . exact k _ _ (ntr _ _ hc') q
def Itz (K:W.Frag) (a b:Addr):It :=
 ⟨fun i H=>∃ xs ys x y,SqL K H a xs/\SqL K H b ys/\xs[i]?=some x/\ys[i]?=some y,
  fun i H v H'=>∃ p x y,H p=none/\v=.ref p/\H'=upd H p (.tup [x,y])/\(∀ xs,SqL K H a xs->xs[i]?=some x)/\∀ ys,SqL K H b ys->ys[i]?=some y,
  fun i H=>∃ xs ys,SqL K H a xs/\SqL K H b ys/\(xs.length<=i\/ys.length<=i)⟩
theorem Am8 {P:Program}{w:World}{K:W.Frag}{es:List Expr}{x1:Nat}{tpos:Pos} (a b z TI TO i1 i2:Addr) (D:ZipApart z TI TO i1 i2 a b) :
 Turn P w K (.Tuple es x1 tpos) (Itz K a b) [z,TI,TO,i1,i2] z (fun i h=>IsZip h z TI TO .none/\IsPair h TI (.ref i1) (.ref i2)/\(∃ c d,IsPair h TO c d)/\h.IsListIter i1 a i/\h.IsListIter i2 b i) where
 mem:=by simp
 obj:=fun i h st c hc=>by
  obtain⟨hz,hTI,⟨u,v,hTO⟩,⟨o1,h1,c1,d1⟩,⟨o2,h2,c2,d2⟩⟩:=st
  simp only [List.mem_cons,List.not_mem_nil,or_false] at hc
  rcases hc with rfl | rfl | rfl | rfl | rfl
  . exact ⟨_,hz,fun v q=>by cases (show Data.fields _=Data.cell v from q)⟩
  . exact ⟨_,hTI,fun v q=>by cases (show Data.seq _ _=Data.cell v from q)⟩
  . exact ⟨_,hTO,fun v q=>by cases (show Data.seq _ _=Data.cell v from q)⟩
  . exact ⟨o1,h1,fun v q=>by rw [d1] at q;cases q⟩
  . exact ⟨o2,h2,fun v q=>by rw [d2] at q;cases q⟩
 keep:=fun i h h' st k=>by
  obtain⟨hz,hTI,⟨u,v,hTO⟩,h1,h2⟩:=st
  exact ⟨k z (by simp) _ hz,k TI (by simp) _ hTI,⟨u,v,k TO (by simp) _ hTO⟩,h1.at fun o q=>k i1 (by simp) o q,h2.at fun o q=>k i2 (by simp) o q⟩
 item:=by
  intro X hP hw hK hc i Ac s σ H E I hf st hg
  subst hP hw hK
  obtain⟨hz,hTI,⟨u0,v0,hTO⟩,h1,h2⟩:=st
  obtain⟨xs,ys,x,y,hqa,hqb,hx,hy⟩:=hg
  obtain⟨ia,ra,pa,_⟩:=I.list hqa
  obtain⟨ib,rb,pb,_⟩:=I.list hqb
  obtain⟨u,hu,ru⟩:=ra.get hx
  obtain⟨v,hv,rv⟩:=rb.get hy
  have hfresh:H s.heap.objs.size=none:=I.hok.fresh (Nat.le_refl _)
  have ltz:=Heap.lt_size hz
  refine wpAny_pyNext_zip_item D hz hTI hTO h1 h2 pa.isList pb.isList (x:=u) (y:=v) (by simpa using hu) (by simpa using hv) fun h' hz' hTO' h1' h2' htup hsz hk=>?_
  refine⟨_,rfl,wpAny_letOwnedTupleGo_zip hz' fun h3 hz3 hsb=>?_⟩
  replace hsb:Heap.SameBut z h' h3:=hsb
  have kk:∀ c o,c ∉ [z,TI,TO,i1,i2]->s.heap.get? c=some o->h3.get? c=some o:=fun c o hc e=>by
   simp only [List.mem_cons,List.not_mem_nil,or_false,not_or] at hc
   obtain⟨n1,n2,n3,n4,n5⟩:=hc
   exact (hsb.2 c n1).trans (hk c o n1 n3 n4 n5 e)
  have ht3:h3.get? s.heap.objs.size=some { cls:=.type "tuple",data:=.seq #[u,v] }:=(hsb.2 _ (Nat.ne_of_gt ltz)).trans htup
  have hi1:h3.IsListIter i1 a (i+1):=h1'.at fun o e=>(hsb.2 i1 D.i1z).trans e
  have hi2:h3.IsListIter i2 b (i+1):=h2'.at fun o e=>(hsb.2 i2 D.i2z).trans e
  have hTI3:IsPair h3 TI (.ref i1) (.ref i2):=(hsb.2 TI D.TIz).trans (hk _ _ D.TIz D.TITO D.TIi1 D.TIi2 hTI)
  have hTO3:IsPair h3 TO u v:=(hsb.2 TO D.TOz).trans hTO'
  have ntr:∀ c o,H c=some o->c ∉ [z,TI,TO,i1,i2]:=fun c o e hm=>by rw [(hf c hm).1] at e;cases e
  have nsz:∀ c o,H c=some o->c≠s.heap.objs.size:=fun c o e=>Ar e hfresh
  refine⟨.ref s.heap.objs.size,upd H s.heap.objs.size (.tup [x,y]),?_,rfl,⟨s.heap.objs.size,x,y,hfresh,rfl,rfl,fun zs q=>by rw [I.list_inj q hqa];exact hx,fun zs q=>by rw [I.list_inj q hqb];exact hy⟩,⟨hz3,hTI3,⟨_,_,hTO3⟩,hi1,hi2⟩,fun c hc=>?_⟩
  . refine Inv.step (s:=s) (h':=h3) (t':=s.toks) (H':=upd H s.heap.objs.size (.tup [x,y])) I (g':=s.gens) (d':=s.drawn) (ch:=[z,TI,TO,i1,i2]) (fun c hc=>?_) (fun c o _ _ hc e _=>kk c o hc e) (fun c o _ _ hc e _=>⟨o.slots,kk c o hc e⟩) (fun c o hc e n=>?_) (fun c o hc e=>⟨o,kk c o hc e⟩)
     (fun c zs e=>by rw [Aq (nsz c _ e)];exact e) (fun c o w' e=>by rw [Aq (nsz c _ e)];exact e) (fun c ps e=>⟨#[],by rw [Aq (nsz c _ e),e];simp⟩) (fun m hm=>?_) (fun c w' e=>?_) I.bare
    . have f:=hf c hc
      exact ⟨f.2.2.2.1,f.2.1,f.2.2.2.2.1,f.2.2.2.2.2⟩
    . rw [Aq (Nat.ne_of_lt (Heap.lt_size e))]
      exact n
    . obtain⟨o,es',ep,ho,r⟩:=hm
      exact ⟨o,es',ep,kk _ o (fun q=>(hf _ q).2.1 rfl) ho,r⟩
    . by_cases hcs:c=s.heap.objs.size
      . subst hcs
        rw [Ag] at e
        cases e
        exact ⟨(by show (2:Nat)<=sizeLine;decide),[u,v],.cons ru (.cons rv .nil),⟨_,ht3,rfl,rfl,_,rfl⟩⟩
      . rw [Aq hcs] at e
        refine (I.hok c w' e).stay (fun c' y' hc' q=>?_) (fun c' q=>by rw [Aq (nsz c' _ q)];exact q) fun c' zs q=>by rw [Aq (nsz c' _ q)];exact q
        rcases hc' with rfl | hc'
        . exact kk _ _ (ntr _ _ e) q
        . exact kk _ _ (ntr _ _ hc') q
  . have lb:c<s.heap.objs.size:=by
     simp only [List.mem_cons,List.not_mem_nil,or_false] at hc
     obtain⟨o1,q1,_⟩:=h1
     obtain⟨o2,q2,_⟩:=h2
     rcases hc with rfl | rfl | rfl | rfl | rfl
     . exact ltz
     . exact Heap.lt_size hTI
     . exact Heap.lt_size hTO
     . exact Heap.lt_size q1
     . exact Heap.lt_size q2
    rw [Aq (Nat.ne_of_lt lb)]
    exact (hf c hc).1
 done:=by
  intro X hP hw hK hc i Ac s σ H E I hf st hg
  subst hP hw hK
  obtain⟨hz,hTI,⟨u0,v0,hTO⟩,h1,h2⟩:=st
  obtain⟨xs,ys,hqa,hqb,hx⟩:=hg
  obtain⟨ia,ra,pa,_⟩:=I.list hqa
  obtain⟨ib,rb,pb,_⟩:=I.list hqb
  have la:=ra.length
  have lb:=rb.length
  refine wpAny_pyNext_zip_end (I.ok.hd hc) D hz hTI hTO h1 h2 pa.isList pb.isList ?_ fun h' hk=>⟨rfl,I.turnedN (t':=s.toks) (fp:=[z,TI,TO,i1,i2]) (fun c o hc e=>?_) hf⟩
  . rcases hx with q | q
    . exact .inl (by simp;omega)
    . exact .inr (by simp;omega)
  . simp only [List.mem_cons,List.not_mem_nil,or_false,not_or] at hc
    obtain⟨n1,n2,n3,n4,n5⟩:=hc
    exact hk c o n1 n3 n4 n5 e
 self:=fun _ _ _ _ _ st h=>wpAny_pyIter_zip st.1 h
def iZip (K:W.Frag) (ta:TA):TI:=fun σ H R=>ta σ H fun vs H1=>∃ a b,vs=[.ref a,.ref b]/\(∃ xs,SqL K H1 a xs)/\(∃ ys,SqL K H1 b ys)/\R (Itz K a b) H1
theorem Ak6:bootBuiltins "zip"=some (.type "zip"):=by decide +kernel
theorem Ab8 {X:Cx}{K:W.Frag}{es:List Expr}{x1:Nat}{tpos:Pos}{a b:Expr}{ta:TA}{p pos:Pos} (hg:Gl X "zip") (hm:X.mg "zip"=none) (ha:PA X [a,b] ta) (hK:X.K=K:=by rfl) (hs:starEach [a,b] X.env=[(false,eval a X.env),(false,eval b X.env)]:=by rfl) (hs2:starEach [b] X.env=[(false,eval b X.env)]:=by rfl) :
 PI X (.Tuple es x1 tpos) (.Call (.Name "zip" p) [a,b] [] pos) (iZip K ta):=by
 subst hK
 intro Ac s σ H R I h
 refine Call_ (K8 I hg hm Ak6 (PyProof.Rows.callWith_type1 (thn (ha pos Ac s σ H _ I h) fun us s1 ⟨vs,H1,I1,r1,q1⟩=>?_) (by rw [hs,hs2]) (by rw [hs2];rfl)))
 obtain⟨la,lb,e,⟨xs,hqa⟩,⟨ys,hqb⟩,q⟩:=q1
 subst e
 cases r1 with
 | cons ra rr =>
   cases rr with
   | cons rb rr =>
     cases rr
     cases ra
     cases rb
     obtain⟨ia,_,pa,_⟩:=I1.list hqa
     obtain⟨ib,_,pb,_⟩:=I1.list hqb
     have a1:la<s1.heap.objs.size:=by obtain⟨_,e,_⟩:=pa.isList;exact Heap.lt_size e
     have a2:lb<s1.heap.objs.size:=by obtain⟨_,e,_⟩:=pb.isList;exact Heap.lt_size e
     refine call_zip_2 pa.isList pb.isList fun h' hz hTI hTO hi1 hi2 hsz hk=>?_
     refine wpAny_pyIter_zip hz ⟨s1.heap.objs.size+4,[s1.heap.objs.size+4,s1.heap.objs.size+2,s1.heap.objs.size+3,s1.heap.objs.size,s1.heap.objs.size+1],_,_,H1,rfl,I1.kept (t':=s1.toks) hk,Am8 la lb _ _ _ _ _ (zipApart_new a1 a2),⟨hz,hTI,⟨_,_,hTO⟩,hi1,hi2⟩,fun c hc=>?_,q⟩
     have lc:s1.heap.objs.size<=c:=by
      simp only [List.mem_cons,List.not_mem_nil,or_false] at hc
      rcases hc with rfl | rfl | rfl | rfl | rfl
      . exact Nat.le_add_right _ _
      . exact Nat.le_add_right _ _
      . exact Nat.le_add_right _ _
      . exact Nat.le_refl _
      . exact Nat.le_add_right _ _
     exact I1.fpOk lc (I1.hok.fresh lc)
section
variable {g:TG}{tc:TT}{te:TE}{D:Addr}{Q:Hp->Prop}{τ:St}{H:Hp}
theorem Aq9 {K:W.Frag}{a b:Addr}{xs ys:List V}{n:Nat} (hn:n=min xs.length ys.length) (Pv:Nat->List V->St->Hp->Prop) (h0:Pv 0 [] τ H) (hl:∀ i zs τ H,i<=n->Pv i zs τ H->SqL K H a xs/\SqL K H b ys)
 (hs:∀ i x y zs τ H p,xs[i]?=some x->ys[i]?=some y->Pv i zs τ H->H p=none->g (.ref p) τ (upd H p (.tup [x,y])) fun τ2 H2=>tc τ2 H2 fun b H3=>if b=true then te τ2 H3 fun y H4=>H4 D=some (.lst zs)/\zs.length<sizeLine/\Pv (i+1) (zs++[y]) τ2 (upd H4 D (.lst (zs++[y]))) else Pv (i+1) zs τ2 H3)
 (hd:∀ zs τ H,Pv n zs τ H->Q H):RunC (Itz K a b) g tc te D Q τ H:=by
 refine⟨fun i m zs τ H=>m=n-i/\i<=n/\Pv i zs τ H,⟨n,by simp,Nat.zero_le _,h0⟩,?_⟩
 rintro i m zs τ H ⟨rfl,hi,pp⟩
 obtain⟨qa,qb⟩:=hl i zs τ H hi pp
 by_cases hlt:i<n
 . refine .inr ⟨⟨xs,ys,xs[i],ys[i],qa,qb,by simp<;>omega,by simp<;>omega⟩,Pv (i+1),fun ys' τ' H' p'=>⟨n-(i+1),by omega,rfl,hlt,p'⟩,fun x H' y=>?_⟩
   obtain⟨p,u,v,hp,rfl,rfl,y1,y2⟩:=y
   exact hs i u v zs τ _ p (y1 xs qa) (y2 ys qb) pp hp
 . have e:i=n:=by omega
   subst e
   exact .inl ⟨⟨xs,ys,qa,qb,by omega⟩,hd zs τ H pp⟩
end
theorem op_mulX {X:Cx}:OpR X (binaryOp .Mult) (rI IntMulOk fun i j=>.int (i*j)):=opI fun _ _ _ _ _ _ _ hc q=>mul_int q hc
theorem Al1 {i:Int}{m:Nat} (h:i.natAbs<2 ^ m):Builtin.Int.intBits i<=m:=by
 unfold Builtin.Int.intBits
 split
 . exact Nat.zero_le _
 . rename_i h0
   have hne:i.natAbs≠0:=by
    intro z
    exact h0 (by have:i=0:=by omega
                 simp [this])
   exact (Nat.log2_lt hne).mpr h
theorem Vv {i j:Int}{m n:Nat} (hi:i.natAbs<2 ^ m) (hj:j.natAbs<2 ^ n) (h:m+n<=134217728):IntMulOk i j:=by
 have h1:=Al1 hi
 have h2:=Al1 hj
 have h3:¬((Builtin.Int.intBits i:Nat):Int)+((Builtin.Int.intBits j:Nat):Int) > ((bitsLine:Nat):Int):=by
  have:bitsLine=134217728:=by decide
  omega
 unfold IntMulOk
 intro hz
 simp only [Bool.and_eq_true] at hz
 have h4:=hz.2
 unfold Builtin.Int.intTooBig at h4
 exact h3 (by simpa using h4)
theorem Ae3 {i j:Int} (h1:-(2 ^ 64)<i) (h2:i<2 ^ 64):IntMulOk i j:=CMul.ok (.inl ⟨h1,h2⟩)
theorem As7 {i j:Int} (h1:-(2 ^ 64)<j) (h2:j<2 ^ 64):IntMulOk i j:=CMul.ok (.inr ⟨h1,h2⟩)
end L2
namespace L2
open PySem PySem.W PySem.Calls PyProof.Rows
def Gq:Nat:=1048576
theorem Sa:∀{ns:List Int}{x:Int},x∈ns->WData.weight (.int x)<=WData.weightAll (ns.map WData.int)
 | n::ns,x,h=>by
   rw [List.map_cons]
   simp only [WData.weightAll]
   rcases List.mem_cons.mp h with rfl | h
   . omega
   . have:=Sa h
     omega
theorem Aj8 {ns:List Int} (h:WData.layableAll [WData.list (ns.map WData.int)]=true):∀ x∈ns,x.natAbs<2 ^ Gq:=by
 intro x hx
 have h1:decide (WData.weight (WData.list (ns.map WData.int))<=2 ^ 20)=true:=by
  have:WData.layable (WData.list (ns.map WData.int))=true:=by simpa [WData.layableAll] using h
  unfold WData.layable at this
  exact (Bool.and_eq_true_iff.mp this).2
 have h2:WData.weightAll (ns.map WData.int)<=1048576:=by
  have:=of_decide_eq_true h1
  simpa only [WData.weight] using this
 have h3:=Sa hx
 by_cases h0:x.natAbs=0
 . rw [h0];exact Nat.pow_pos (by decide)
 . have h4:WData.weight (.int x)=x.natAbs.log2+1:=by
    simp only [WData.weight]
    rw [if_neg (by intro z;have:x=0:=by simpa using z
                   exact h0 (by rw [this];rfl))]
   have h5:x.natAbs.log2<Gq:=by show _<1048576;omega
   exact (Nat.log2_lt h0).mp h5
theorem Wy {l:OpenLaw}{n:Nat}{q:Program}{loose:List Str}{XP:(Str->Option Value)->Heap->Prop}{YP:World->Heap->Prop}{d:DefRec}
 (hn:l.most=some n) (hdf:d.params.defaults=[])
 (call:∀ (w:World) (s₀ s₁:Shared) (mg mb:Str->Option Value) (fa:Addr) (o:Obj) (pm cd doc:Value) (a:Addr) (vs:List Value) (ns:List Int),(∀ x∈ns,x.natAbs<2 ^ Gq) →
   Ground q loose [] XP w s₀ mg mb s₁.heap->YP w s₁.heap →
   s₁.heap.get? fa=some o->o.data=.func (docDef d.name d.params d.body d.scope pm cd doc)->s₁.heap.CodeRec cd d.name->mg d.name=some (.ref fa) →
   s₁.heap.get? a=some { cls:=.type "list",data:=.seq vs.toArray }->IntsAre vs ns->ns.length<=n->s₁.gens=#[] →
   codeAny (model l.prog w) callerA (.call (.ref fa) ⟨[.ref a],[]⟩) (fun r s'=>r=.ok (.ret (.bool true))/\OldK s₁.heap s'.heap/\s'.os=s₁.os/\AllBare s'.gens) s₁) :
 WalkO q loose XP YP l.row.toRowW d [] (fun f vs=>PySem.call f vs):=by
 intro w s₀ s₁ mg mb G Y fa o pm cd doc dV kV ho hd hcd hD hmg hg args vals as hpre hlay hrd hwl hlo
 obtain rfl:dV=.none:=Dflts.none hD hdf
 obtain rfl:kV=.none:=Dflts.noKw hD
 obtain⟨a,vs,ns,rfl,rfl,hobj,hints,hlen⟩:=Att.script_of hn hpre hwl
 refine enter_call (codeAny_mono (call w s₀ s₁ mg mb fa o pm cd doc a vs ns (Aj8 hlay) G Y ho (fd_plain hd) hcd hmg hobj hints hlen hg) fun r s' hq=>?_)
 obtain⟨rfl,h2,h3,h4⟩:=hq
 exact ⟨.inl ⟨.bool true,.bool true,[],rfl,fun _=>rfl,.bool true,Att.post_true l _,fun _=>⟨List.Pairwise.nil,fun _ hm=>(nomatch hm)⟩⟩,h2,h3,h4⟩
theorem walk_ofB {l:PySem.W.OpenLaw}{n k:Nat}{q:Program}{loose:List Str}{XP:(Str->Option Value)->Heap->Prop}{YP:World->Heap->Prop}{d:DefRec}{K:Params->PySem.W.Frag}{CX:World->CXT}{sp:World->Sp}{x:Str}
 (hn:l.most=some n) (hn2:n<=sizeLine) (hdf:d.params.defaults=[]) (hr:Room k callerA)
 (hY:∀ (w:World) (h:Heap),YP w h->(K w.params).In h)
 (F:∀ (w:World) (mg:Str->Option Value) (fa:Addr) (h:Heap),(K w.params).In h->h.Ns mainGlobals mg->mg d.name=some (.ref fa) →
   ∃ fd:FuncData,(∀ (s:Shared) (u:Value),BindsTo s fd ⟨[u],[]⟩ [(x,u)]) ∧
     ∀ base:Heap,(K w.params).In base->base.Ns mainGlobals mg->FnOk l.prog w (K w.params) mg base (CX w) k fa fd [x] (sp w))
 (hsp:∀ (w:World) (H:Hp) (a:Addr) (ns:List Int),ns.length<=n->(∀ x∈ns,x.natAbs<2 ^ Gq)->Only H->SqL (K w.params) H a (ns.map V.int)->sp w [.ref a] H (fun v _=>v=.bl true) fun _ _ _=>False)
 (hCX:∀ (w:World) (H:Hp) (s:Shared) (e:Value) (s':Shared),CX w [] H s (fun _ _ _=>False) e s'->False) :
 PySem.W.WalkO q loose XP YP l.row.toRowW d [] (fun f vs=>PySem.call f vs):=by
 refine Wy hn hdf fun w s₀ s₁ mg mb fa o pm cd doc a vs ns hbit G Y ho hd hcd hmg hobj hints hlen hg=>?_
 have KX:=hY w _ Y
 obtain⟨fd,hb,hF⟩:=F w mg fa _ KX G.T.g hmg
 exact Ap3 KX G.T.g G.T.b G.T.builtins G.T.nolimit hg hobj hints (Nat.le_trans hlen hn2) hr hF hb (fun H hO hS=>hsp w H a ns hlen hbit hO hS) fun H e s'=>hCX w H s₁ e s'
end L2
namespace Hb
def sumN (f:Nat->Int):Nat->Int
 | 0=>0
 | n+1=>sumN f n+f n
theorem Ak {f g:Nat->Int}:∀{n:Nat},(∀ k,k<n->f k=g k)->sumN f n=sumN g n
 | 0,_=>rfl
 | n+1,h=>by
   show sumN f n+f n=sumN g n+g n
   rw [Ak fun k hk=>h k (by omega),h n (by omega)]
theorem Os:∀ n:Nat,sumN (fun _=>0) n=0
 | 0=>rfl
 | n+1=>by show sumN _ n+0=0;rw [Os n];rfl
theorem Bw (f g:Nat->Int):∀ n:Nat,sumN (fun k=>f k+g k) n=sumN f n+sumN g n
 | 0=>rfl
 | n+1=>by
   show sumN _ n+(f n+g n)=(sumN f n+f n)+(sumN g n+g n)
   rw [Bw f g n]
   omega
theorem Au (c:Int) (f:Nat->Int):∀ n:Nat,sumN (fun k=>c*f k) n=c*sumN f n
 | 0=>by show (0:Int)=c*0;rw [Int.mul_zero]
 | n+1=>by
   show sumN _ n+c*f n=c*(sumN f n+f n)
   rw [Au c f n,Int.mul_add]
theorem Kn (c:Int) (f:Nat->Int) (n:Nat):sumN (fun k=>f k*c) n=sumN f n*c:=by
 rw [Int.mul_comm,←Au]
 exact Ak fun k _=>Int.mul_comm ..
theorem Eb (f:Nat->Nat->Int) (m:Nat):∀ n:Nat,sumN (fun i=>sumN (f i) m) n=sumN (fun j=>sumN (fun i=>f i j) n) m
 | 0=>(Os m).symm
 | n+1=>by
   show sumN _ n+sumN (f n) m=sumN (fun j=>sumN (fun i=>f i j) n+f n j) m
   rw [Eb f m n,Bw]
theorem Bo (f:Nat->Int) (i:Nat):∀ n:Nat,sumN (fun k=>(if k=i then 1 else 0)*f k) n=if i<n then f i else 0
 | 0=>by simp [sumN]
 | n+1=>by
   show sumN _ n+(if n=i then 1 else 0)*f n=_
   rw [Bo f i n]
   by_cases h:n=i
   . subst h;simp
   . by_cases h2:i<n
     . rw [if_pos h2,if_neg h,if_pos (by omega)];omega
     . rw [if_neg h2,if_neg h,if_neg (by omega)];omega
def lsI (n:Nat) (f:Nat->Int):List Int:=(List.range n).map f
theorem Pn (n:Nat) (f:Nat->Int):(lsI n f).length=n:=by unfold lsI;rw [List.length_map,List.length_range]
theorem Yc {n i:Nat}{f:Nat->Int} (h:i<n):(lsI n f)[i]?=some (f i):=by
 unfold lsI
 rw [List.getElem?_map,List.getElem?_range h]
 rfl
theorem Tz (n:Nat) (f:Nat->Int):lsI (n+1) f=lsI n f++[f n]:=by
 unfold lsI
 rw [List.range_succ,List.map_append]
 rfl
theorem Ae9 {n:Nat}{f g:Nat->Int} (h:∀ i,i<n->f i=g i):lsI n f=lsI n g:=by
 unfold lsI
 refine List.map_congr_left fun i hi=>h i (List.mem_range.mp hi)
theorem Ay1 (n:Nat):(List.replicate n [(0:Int)]).flatten=lsI n fun _=>0:=by
 induction n with
 | zero=>rfl
 | succ n ih =>
   rw [Tz,←ih]
   clear ih
   induction n with
   | zero=>rfl
   | succ n ih =>
     rw [List.replicate_succ,List.flatten_cons,ih]
     have ih':=ih
     rw [List.replicate_succ,List.flatten_cons] at ih'
     rw [←List.append_assoc,ih']
theorem Ay0 {n i:Nat}{f:Nat->Int}{v:Int} (h:i<n):(lsI n f).set i v=lsI n fun k=>if k=i then v else f k:=by
 refine List.ext_getElem? fun j=>?_
 rw [List.getElem?_set]
 by_cases hj:j<n
 . rw [Yc hj,Yc hj,Pn]
   by_cases e:i=j
   . subst e;simp [h]
   . rw [if_neg e,if_neg (fun z=>e z.symm)]
 . rw [List.getElem?_eq_none (by rw [Pn];omega),List.getElem?_eq_none (by rw [Pn];omega)]
   split
   . split
     . rename_i e _;omega
     . rfl
   . rfl
theorem A58 {i j:Int}{m n:Nat} (hi:i.natAbs<2 ^ m) (hj:j.natAbs<2 ^ n):(i*j).natAbs<2 ^ (m+n):=by
 rw [Int.natAbs_mul,Nat.pow_add]
 exact Nat.mul_lt_mul'' hi hj
theorem A59 {i j:Int}{m:Nat} (hi:i.natAbs<2 ^ m) (hj:j.natAbs<2 ^ m):(i+j).natAbs<2 ^ (m+1):=by
 have h:=Int.natAbs_add_le i j
 rw [Nat.pow_succ]
 generalize 2 ^ m=q at *
 omega
theorem Hr {i:Int}{m n:Nat} (hi:i.natAbs<2 ^ m) (h:m<=n):i.natAbs<2 ^ n:=Nat.lt_of_lt_of_le hi (Nat.pow_le_pow_right (by decide) h)
theorem A57 {i:Int}{m:Nat} (hi:i.natAbs<2 ^ m):(-i).natAbs<2 ^ m:=by rw [Int.natAbs_neg];exact hi
end Hb
namespace Hb
open PySem L2
abbrev VI (n:Nat) (f:Nat->Int):List V:=(lsI n f).map V.int
def dL (n:Nat) (f:Nat->Int):L2.D:=.lst (nums (lsI n f))
def dT (h w:Nat) (f:Nat->Nat->Int):L2.D:=.lst ((List.range h).map fun i=>dL w (f i))
section
variable {K:W.Frag}{H H' H1 H2:Hp}
theorem A5 (n:Nat) (f:Nat->Int):(VI n f).length=n:=by rw [List.length_map,Pn]
theorem Bz {n i:Nat}{f:Nat->Int} (h:i<n):(VI n f)[i]?=some (.int (f i)):=by rw [List.getElem?_map,Yc h];rfl
theorem A63 {n i:Nat}{f:Nat->Int} (h:i<n):atI (VI n f) ((i:Nat):Int)=some (.int (f i)):=Az (Bz h)
theorem A62 {n i:Nat}{f:Nat->Int} (h:i<n):atI (VI n f) ((0:Int)+(i:Int))=some (.int (f i)):=by rw [Int.zero_add];exact A63 h
theorem Lo {n i:Nat}{f:Nat->Int}{u:V} (h:(VI n f)[i]?=some u):i<n/\u=.int (f i):=by
 have h1:i<(VI n f).length:=(List.getElem?_eq_some_iff.mp h).1
 rw [A5] at h1
 rw [Bz h1] at h
 exact ⟨h1,(Option.some.inj h).symm⟩
theorem Gs (n:Nat) (f:Nat->Int):VI (n+1) f=VI n f++[.int (f n)]:=by
 show (lsI (n+1) f).map V.int=_
 rw [Tz,List.map_append];rfl
theorem D9 {n:Nat}{f g:Nat->Int} (h:∀ i,i<n->f i=g i):VI n f=VI n g:=by
 show (lsI n f).map V.int=(lsI n g).map V.int
 rw [Ae9 h]
theorem A61 (n:Nat):(List.replicate n [V.int 0]).flatten=VI n fun _=>0:=by
 show _=(lsI n fun _=>0).map V.int
 rw [←Ay1,List.map_flatten,List.map_replicate]
 rfl
theorem A60 {n i:Nat}{f:Nat->Int}{v:Int} (h:i<n):(VI n f).set i (.int v)=VI n fun k=>if k=i then v else f k:=by
 show ((lsI n f).map V.int).set i (.int v)=(lsI n _).map V.int
 rw [←Ay0 h,List.map_set]
theorem A93 {v:V}{n:Nat}{f:Nat->Int} (h:Rep K H v (dL n f)):∃ a,v=.ref a/\SqL K H a (VI n f):=by
 obtain⟨a,vs,e,q,r⟩:=h
 rw [Kt.mp r] at q
 exact ⟨a,e,q⟩
theorem Uo {a:Addr}{n:Nat}{f:Nat->Int} (h:SqL K H a (VI n f)):Rep K H (.ref a) (dL n f):=⟨a,_,rfl,h,Kt.mpr rfl⟩
theorem Li {v:V}{h w:Nat}{f:Nat->Nat->Int} (r:Rep K H v (dT h w f)):∃ a us,v=.ref a/\SqL K H a us/\us.length=h/\∀ i u,us[i]?=some u->i<h/\∃ b,u=.ref b/\SqL K H b (VI w (f i)):=by
 obtain⟨a,us,e,q,r⟩:=r
 have hl:us.length=h:=by have:=r.length;simpa using this
 refine⟨a,us,e,q,hl,fun i u hu=>?_⟩
 have hi:i<h:=by have:=(List.getElem?_eq_some_iff.mp hu).1;omega
 obtain⟨d,hd,rd⟩:=r.getV hu
 rw [List.getElem?_map,List.getElem?_range hi] at hd
 have e2:d=dL w (f i):=(Option.some.inj hd).symm
 subst e2
 exact ⟨hi,A93 rd⟩
theorem A55 (n:Nat) (f:Nat->Int):dep (dL n f)=1:=by show deps (nums _)+1=1;rw [Wd]
theorem Ah5 (n:Nat) (f:Nat->Int):dep (dL n f)<=8:=by rw [A55];decide
structure Rows (H H1:Hp) (D:Addr) (as:List Addr) (w:Nat) (f:Nat->Nat->Int):Prop where
 same:Same H H1
 free:H D=none
 «at»:H1 D=some (.lst (as.map V.ref))
 row:∀ j a,as[j]?=some a->H a=none/\a≠D/\H1 a=some (.lst (VI w (f j)))
theorem Rows.nil {D:Addr}{w:Nat}{f:Nat->Nat->Int} (h:H D=none):Rows H (upd H D (.lst [])) D [] w f:=⟨Same.new h,h,Ag,fun j a e=>by simp at e⟩
theorem Rows.push {D b:Addr}{as:List Addr}{w:Nat}{f:Nat->Nat->Int} (R:Rows H H1 D as w f) (hb:H1 b=none) (s:Same H1 H2) (h2:H2 b=some (.lst (VI w (f as.length)))):Rows H (upd H2 D (.lst (as.map V.ref++[.ref b]))) D (as++[b]) w f:=by
 have hne:b≠D:=fun z=>by rw [z,R.at] at hb;cases hb
 refine⟨(R.same.trans s).turn R.free,R.free,by rw [Ag,List.map_append];rfl,fun j a e=>?_⟩
 by_cases hj:j<as.length
 . rw [List.getElem?_append_left hj] at e
   obtain⟨h1,h2',h3⟩:=R.row j a e
   exact ⟨h1,h2',by rw [Aq h2'];exact s _ _ h3⟩
 . have hl:j<(as++[b]).length:=(List.getElem?_eq_some_iff.mp e).1
   have ej:j=as.length:=by simp at hl;omega
   subst ej
   have eb:b=a:=by simpa using e
   subst eb
   exact ⟨R.same.free hb,hne,by rw [Aq hne];exact h2⟩
theorem Rows.rep {D:Addr}{as:List Addr}{h w:Nat}{f:Nat->Nat->Int} (R:Rows H H1 D as w f) (hl:as.length=h):Rep K H1 (.ref D) (dT h w f):=by
 refine⟨D,_,rfl,.of R.at,?_⟩
 subst hl
 have go:∀ (bs:List Addr) (n:Nat),(∀ j a,bs[j]?=some a->H1 a=some (.lst (VI w (f (n+j)))))->Reps K H1 (bs.map V.ref) ((List.range' n bs.length).map fun i=>dL w (f i)):=by
  intro bs
  induction bs with
  | nil=>intro n _;rfl
  | cons b bs ih =>
    intro n hr
    refine⟨.ref b,bs.map V.ref,rfl,Uo (.of ?_),?_⟩
    . have:=hr 0 b rfl
      simpa using this
    . refine ih (n+1) fun j a e=>?_
      have:=hr (j+1) a (by simpa using e)
      rw [show n+1+j=n+(j+1) by omega]
      exact this
 have:=go as 0 fun j a e=>by rw [Nat.zero_add];exact (R.row j a e).2.2
 rw [List.range_eq_range']
 exact this
theorem Rows.later {D:Addr}{as:List Addr}{w:Nat}{f:Nat->Nat->Int} (R:Rows H H1 D as w f) (s:Same H1 H2):Rows H H2 D as w f :=
 ⟨R.same.trans s,R.free,s _ _ R.at,fun j a e=>⟨(R.row j a e).1,(R.row j a e).2.1,s _ _ (R.row j a e).2.2⟩⟩
theorem Qa {g:TG}{te:TE}{D:Addr}{Q:Hp->Prop}{τ:St}{H:Hp}{K:W.Frag}{a b:Addr}{xs ys:List V}{n:Nat} (hn:n=min xs.length ys.length) (Pv:Nat->List V->St->Hp->Prop) (h0:Pv 0 [] τ H) (hl:∀ i zs τ H,i<=n->Pv i zs τ H->SqL K H a xs/\SqL K H b ys)
 (hs:∀ i x y zs τ H p,xs[i]?=some x->ys[i]?=some y->Pv i zs τ H->H p=none->g (.ref p) τ (upd H p (.tup [x,y])) fun τ2 H2=>te τ2 H2 fun y H4=>H4 D=some (.lst zs)/\zs.length<sizeLine/\Pv (i+1) (zs++[y]) τ2 (upd H4 D (.lst (zs++[y]))))
 (hd:∀ zs τ H,Pv n zs τ H->Q H):RunC (Itz K a b) g tYes te D Q τ H:=Aq9 hn Pv h0 hl (fun i x y zs τ H p e1 e2 pp hp=>hs i x y zs τ H p e1 e2 pp hp) hd
end
def newL (H:Hp) (n:Nat) (f:Nat->Int) (Q:V->Hp->Prop):Prop:=∀ (D:Addr) (H':Hp),H D=none->Same H H'->H' D=some (.lst (VI n f))->Q (.ref D) H'
def newT (H:Hp) (h w:Nat) (f:Nat->Nat->Int) (Q:V->Hp->Prop):Prop:=∀ (D:Addr) (as:List Addr) (H':Hp),as.length=h->Rows H H' D as w f->Q (.ref D) H'
end Hb
namespace Hb
open PySem L2
section
variable (K:W.Frag)
def S7:Sp:=fun vs H Q _=>∃ (a:Addr) (ns:List Int),vs=[.ref a]/\SqL K H a (ns.map V.int)/\ns.length<=63/\(∀ x∈ns,x.natAbs<2 ^ Gq)/\∀ H',Q (.bl true) H'
def Oi:Sp:=fun vs H Q _=>∃ (a b:Int) (x y:Addr) (n:Nat) (p q:Nat->Int),vs=[.int a,.ref x,.int b,.ref y]/\SqL K H x (VI n p)/\SqL K H y (VI n q)/\n<=1000/\(∀ j,j<n->IntMulOk a (p j)/\IntMulOk b (q j))/\newL H n (fun j=>a*p j+b*q j) Q
def Ou:Sp:=fun vs H Q _=>∃ (v:V) (h w j:Nat) (f:Nat->Nat->Int),vs=[v,.int j]/\Rep K H v (dT h w f)/\h<=1000/\j<w/\newL H h (fun i=>f i j) Q
def F0:Sp:=fun vs H Q _=>∃ (v:V) (h w:Nat) (f:Nat->Nat->Int),vs=[v,.int w]/\Rep K H v (dT h w f)/\h<=1000/\w<=1000/\newT H w h (fun i j=>f j i) Q
def Lu (_K:W.Frag):Sp:=fun vs H Q _=>∃ n i:Nat,vs=[.int n,.int i]/\n<=1000/\newL H n (fun j=>if j=i then 1 else 0) Q
def W8 (_K:W.Frag):Sp:=fun vs H Q _=>∃ n:Nat,vs=[.int n]/\n<=1000/\newT H n n (fun i j=>if j=i then 1 else 0) Q
def Kq:Sp:=fun vs H Q _=>∃ (v:V) (h w:Nat) (f:Nat->Nat->Int),vs=[v]/\Rep K H v (dT h w f)/\h<=1000/\newT H h w f Q
end
end Hb
namespace L2
open PySem PySem.Spec PyProof.Rows
structure HasM (P:Program) (w:World) (K:W.Frag) (mg:Str->Option Value) (base:Heap) (C:Addr) (m:Str) (ps:List Str) (k:Nat) (sp:Sp):Prop where
 ex:∃ (f:Addr) (fd:FuncData),Meth K C m f/\My K fd ps []/\FnOk P w K mg base CX0 k f fd ps sp
structure HasC (P:Program) (w:World) (K:W.Frag) (mg:Str->Option Value) (base:Heap) (C:Addr) (ps:List Str) (k:Nat) (sp:Sp):Prop where
 ex:∃ (f:Addr) (fd:FuncData),Mk K C f/\My K fd ps []/\FnOk P w K mg base CX0 k f fd ps sp
section
variable {X:Cx}{K:W.Frag}{j k:Nat}{C:Addr}{ps:List Str}{sp:Sp}{x m f:Str}{p pos apos pos':Pos}{e o value:Expr}{es:List Expr}{ta tv:TE}{t:TA}
theorem Ck {pl:Sem Bool} (he:PE X o ta) (c:Cls X.K C) (h:HasM X.prog X.w X.K X.mg X.base C m ps j sp) (hr:Room k X.A) (ha:PA X (e::es) t) (hk:j<=k:=by decide)
 (hst:starEach (e::es) X.env=(false,eval e X.env)::starEach es X.env:=by rfl) (hpl:(backTo pos (starEach es X.env)).any (·.1)=false:=by rfl)
 (ht:eval (.Call (.Attribute o m apos) (e::es) [] pos) X.env=(do
   let ov ←eval o X.env
   standAt apos.atName
   let (f,first) ←holding [ov] (getMethod ov m pl)
   callWith pos f first (backTo pos (starEach (e::es) X.env)) (backToKw pos (keywordEach [] X.env))):=by rfl) :
 PE X (.Call (.Attribute o m apos) (e::es) [] pos) (An0 C m sp [] E0 ta t):=by
 obtain⟨f,fd,h1,h2,h3⟩:=h.ex
 exact Aw0 he c h1 h3 (hr.mono hk) h2 .nil Ac1 ha hst hpl ht
theorem Hg {pl:Sem Bool} (he:PE X o ta) (c:Cls X.K C) (h:HasM X.prog X.w X.K X.mg X.base C m ps j sp) (hr:Room k X.A) (hk:j<=k:=by decide)
 (ht:eval (.Call (.Attribute o m apos) [] [] pos) X.env=(do
   let ov ←eval o X.env
   standAt apos.atName
   let (f,first) ←holding [ov] (getMethod ov m pl)
   callWith pos f first (backTo pos (starEach [] X.env)) (backToKw pos (keywordEach [] X.env))):=by rfl) :
 PE X (.Call (.Attribute o m apos) [] [] pos) (An0 C m sp [] E0 ta tNil):=by
 obtain⟨f,fd,h1,h2,h3⟩:=h.ex
 exact Ao0 he c h1 h3 (hr.mono hk) h2 .nil Ac1 ht
theorem Ky (h:HasC X.prog X.w X.K X.mg X.base C ps j sp) (hr:Room k X.A) (hg:Gl X x) (hm:X.mg x=some (.ref C)) (ha:PA X (e::es) t) (hk:j+1<=k:=by decide) (hdb:(x==("__debug__":Str))=false:=by decide)
 (he:starEach (e::es) X.env=(false,eval e X.env)::starEach es X.env:=by rfl) (hpl:(backTo pos (starEach es X.env)).any (·.1)=false:=by rfl):PE X (.Call (.Name x p) (e::es) [] pos) (A15 C sp [] E0 t):=by
 obtain⟨f,fd,h1,h2,h3⟩:=h.ex
 exact Aw1 h1 h3 (hr.mono hk) hg hm h2 .nil Ac1 ha hdb he hpl
theorem Ao (he:PE X e ta) (hK:X.K=K:=by rfl) (hb:attributeBase e f X.env (eval e X.env)=eval e X.env:=by rfl):PE X (.Attribute e f pos) (tFld K ta f):=by subst hK;exact A25 he hb
theorem Dw (ha:PE X o ta) (hv:PE X value tv) (hK:X.K=K:=by rfl) (hs:swapsWith value (some (.Attribute o f pos')) pos.line X.env=pure false:=by rfl):PS X (.Assign [.Attribute o f pos'] value pos) (sFld K ta tv f):=by subst hK;exact A21 ha hv hs
end
end L2
namespace L2
open PySem PySem.Spec PyProof.Rows
abbrev TJ:=St->Hp->(Hp->Prop)->Prop
section
variable {X:Cx}{e v₁ v₂:Expr}{es rest:List Expr}{te:TE}{tj:TJ}{pos:Pos}
end
end L2
namespace Hb
open PySem L2
inductive Tn where
 | mi (i:Nat) | sw (i j:Nat) | ad (i j:Nat) (n:Int)
def dTn:Tn->L2.D
 | .mi i=>.tup [.str "minus",.int i]
 | .sw i j=>.tup [.str "swap",.int i,.int j]
 | .ad i j n=>.tup [.str "add",.int i,.int j,.int n]
def okTn (m:Nat):Tn->Prop
 | .mi i=>i<m
 | .sw i j=>i<m/\j<m/\i≠j
 | .ad i j _=>i<m/\j<m/\i≠j
def tnF:Tn->(Nat->Nat->Int)->Nat->Nat->Int
 | .mi i,f=>fun r c=>if r=i then -(f i c) else f r c
 | .sw i j,f=>fun r c=>if r=j then f i c else if r=i then f j c else f r c
 | .ad i j n,f=>fun r c=>if r=i then 1*f i c+n*f j c else f r c
def tnB:Tn->Tn
 | .ad i j n=>.ad i j (-n)
 | t=>t
def tnA:Tn->Tn
 | .ad i j n=>.ad j i (-n)
 | t=>t
def tnC (t:Tn) (f:Nat->Nat->Int):Nat->Nat->Int:=fun r c=>tnF t (fun a b=>f b a) c r
def bT (B:Nat) (f:Nat->Nat->Int):Prop:=∀ r c,(f r c).natAbs<2 ^ B
def tB (B:Nat):Tn->Prop
 | .ad _ _ n=>n.natAbs<2 ^ B
 | _=>True
theorem bT.mono {B B':Nat}{f:Nat->Nat->Int} (h:bT B f) (hb:B<=B'):bT B' f:=fun r c=>Hr (h r c) hb
theorem tB.mono {B B':Nat}{t:Tn} (h:tB B t) (hb:B<=B'):tB B' t:=by
 cases t with
 | ad i j n=>exact Hr (show n.natAbs<2 ^ B from h) hb
 | _=>trivial
theorem Ie {f:Str}{v:V}:∀{fs:List (Str × V)}{x:V},fs.lookup f=some x->(putF f v fs).length=fs.length
 | [],x,h=>by cases h
 | (g,y)::r,x,h=>by
   unfold putF
   by_cases e:g=f
   . rw [if_pos e];rfl
   . rw [if_neg e,List.length_cons,List.length_cons]
     rw [List.lookup_cons] at h
     have e2:(f==g)=false:=by simpa using fun z=>e z.symm
     rw [e2] at h
     rw [Ie h]
def hide (H:Hp) (Z:Addr->Prop):Hp:=fun a=>@ite _ (Z a) (Classical.propDecidable _) none (H a)
section
variable {K:W.Frag}{H H' H1:Hp}{Z:Addr->Prop}
theorem Gm {a:Addr} (h:¬Z a):hide H Z a=H a:=by unfold hide;rw [if_neg h]
theorem T7 {a:Addr} (h:Z a):hide H Z a=none:=by unfold hide;rw [if_pos h]
theorem Fd:Same (hide H Z) H:=fun a o e=>by
 by_cases h:Z a
 . rw [T7 h] at e;cases e
 . rw [Gm h] at e;exact e
theorem V4 (h:∀ a o,¬Z a->H a=some o->H' a=some o):Same (hide H Z) (hide H' Z):=fun a o e=>by
 by_cases hz:Z a
 . rw [T7 hz] at e;cases e
 . rw [Gm hz] at e ⊢;exact h a o hz e
theorem An6 (s:Same H H'):Same (hide H Z) (hide H' Z):=V4 fun a o _ e=>s a o e
theorem Ai5 {a:Addr}{us:List V}{h w:Nat}{f:Nat->Nat->Int} (hq:SqL K H a us) (hl:us.length=h) (hr:∀ i,i<h->∃ b,us[i]?=some (.ref b)/\SqL K H b (VI w (f i))):Rep K H (.ref a) (dT h w f):=by
 refine⟨a,us,rfl,hq,?_⟩
 subst hl
 have go:∀ (vs:List V) (n:Nat),(∀ j,j<vs.length->∃ b,vs[j]?=some (.ref b)/\SqL K H b (VI w (f (n+j))))->Reps K H vs ((List.range' n vs.length).map fun i=>dL w (f i)):=by
  intro vs
  induction vs with
  | nil=>intro n _;rfl
  | cons v vs ih =>
    intro n hv
    obtain⟨b,e,hb⟩:=hv 0 (by simp)
    have ev:v=.ref b:=by simpa using e
    subst ev
    refine⟨.ref b,vs,rfl,Uo (by simpa using hb),?_⟩
    refine ih (n+1) fun j hj=>?_
    obtain⟨b',e',hb'⟩:=hv (j+1) (by simpa using hj)
    refine⟨b',by simpa using e',?_⟩
    rw [show n+1+j=n+(j+1) by omega]
    exact hb'
 have:=go us 0 fun j hj=>by rw [Nat.zero_add];exact hr j hj
 rw [List.range_eq_range']
 exact this
theorem Rows.hid {D:Addr}{as:List Addr}{h w:Nat}{f:Nat->Nat->Int} (R:Rows H H1 D as w f) (hl:as.length=h) (hz:∀ a,Z a->H a≠none):Rep K (hide H1 Z) (.ref D) (dT h w f):=by
 have nz:∀ a,H a=none->¬Z a:=fun a e z=>hz a z e
 refine Ai5 (us:=as.map V.ref) (.of ?_) (by rw [List.length_map];exact hl) fun i hi=>?_
 . rw [Gm (nz D R.free)];exact R.at
 . have hi':i<as.length:=by omega
   obtain⟨h1,_,h3⟩:=R.row i as[i] (List.getElem?_eq_getElem hi')
   refine⟨as[i],by rw [List.getElem?_map,List.getElem?_eq_getElem hi'];rfl,.of ?_⟩
   rw [Gm (nz _ h1)]
   exact h3
end
section
variable (K:W.Frag)
def Cu:Sp:=fun vs H Q _=>∃ (a:Addr) (n:Nat) (f:Nat->Int),vs=[.ref a,.int n]/\SqL K H a (VI n f)/\n<=1000/\∀ H',Same H H'->Q (.bl true) H'
def J7:Sp:=fun vs H Q _=>∃ (v:V) (h w:Nat) (f:Nat->Nat->Int),vs=[v,.int w]/\Rep K H v (dT h w f)/\h<=40/\w<=1000/\∀ H',Same H H'->Q (.bl true) H'
def Ov:Sp:=fun vs H Q _=>∃ (u:V) (t:Tn),vs=[u]/\Rep K H u (dTn t)/\∀ (v:V) (H':Hp),Same H H'->Rep K H' v (dTn (tnA t))->Q v H'
variable (CL CT:Addr)
end
section
variable {K:W.Frag}{CL CT:Addr}{H H':Hp}{Z:Addr->Prop}{p L R dn:Addr}{h w B:Nat}{f:Nat->Nat->Int}{ds:List (Bool × Tn)}
def Kp (H H':Hp):Prop:=∀ a,H a≠none->H' a≠none
theorem Kp.trans {H H1 H2:Hp} (x:Kp H H1) (y:Kp H1 H2):Kp H H2:=fun a e=>y a (x a e)
theorem Kp.of {H H1:Hp} (s:Same H H1):Kp H H1:=fun a e z=>e (s.free z)
theorem Kp.upd {H:Hp}{p:Addr}{o:HO}:Kp H (upd H p o):=fun a e z=>by
 by_cases hap:a=p
 . rw [hap,Ag] at z;cases z
 . rw [Aq hap] at z;exact e z
theorem Kp.x {H H1:Hp}{p:Addr}{o:HO} (s:SameX p H H1) (hp:H1 p=some o):Kp H H1:=fun a e z=>by
 by_cases hap:a=p
 . rw [hap,hp] at z;cases z
 . cases q:H a with
   | none=>exact e q
   | some o'=>rw [s a o' hap q] at z;cases z
end
end Hb
namespace Hb
open PySem L2
section
variable (K:W.Frag)
def Hc:Sp:=fun vs H Q _=>∃ (c n:Int) (m:Nat),vs=[.int c,.int m,.int n]/\m<=60/\(m=0->Q .non H) ∧
 (0<m->∀ (t:Tn) (v:V) (H':Hp),okTn m t->(∀ B,n.natAbs<2 ^ B->tB B t)->Same H H'->Rep K H' v (dTn t)->Q v H')
def Ko:Sp:=F0 K
def Eg:Sp:=fun vs H Q _=>∃ (v u:V) (h w B:Nat) (f:Nat->Nat->Int) (t:Tn),vs=[v,u]/\Rep K H v (dT h w f)/\Rep K H u (dTn t)/\okTn h t/\bT B f/\tB B t/\B<=1000000/\h<=1000/\w<=1000 ∧
 ∀ (D:Addr) (H':Hp),H D=none->Same H H'->Rep K (hide H' fun a=>H a≠none) (.ref D) (dT h w (tnF t f))->Q (.ref D) H'
def J8:Sp:=fun vs H Q _=>∃ (v u:V) (h w B:Nat) (f:Nat->Nat->Int) (b:Bool) (t:Tn),vs=[v,.int w,.bl b,u]/\Rep K H v (dT h w f)/\Rep K H u (dTn t)/\okTn (if b then h else w) t/\bT B f/\tB B t/\B<=1000000/\h<=1000/\w<=1000 ∧
 ∀ (D:Addr) (H':Hp),H D=none->Same H H'->Rep K (hide H' fun a=>H a≠none) (.ref D) (dT h w (if b then tnF t f else tnC t f))->Q (.ref D) H'
end
section
variable {K:W.Frag}{CL CT:Addr}{H H':Hp}{Z:Addr->Prop}{p L R dn:Addr}{h w B:Nat}{f:Nat->Nat->Int}{ds:List (Bool × Tn)}
theorem g8 {A e m:Int} (h0:0<=A) (h1:A<m) (h2:0<=e) (h3:e<m-1):(A+1+e)%m≠A/\0<=(A+1+e)%m/\(A+1+e)%m<m:=by
 refine⟨?_,Int.emod_nonneg _ (by omega),Int.emod_lt_of_pos _ (by omega)⟩
 by_cases hs:A+1+e<m
 . rw [Int.emod_eq_of_lt (by omega) hs];omega
 . have:(A+1+e)%m=A+1+e-m:=by
    have e1:A+1+e=(A+1+e-m)+m:=by omega
    rw [e1,Int.add_emod_right,Int.emod_eq_of_lt (by omega) (by omega)]
    omega
   omega
end
end Hb
namespace L2
open PySem PySem.Spec PyProof.Rows PySem.W
section
variable {X:Cx}
def CBig (_i j:Int):Prop:=j≠0/\j.natAbs.log2<9000
theorem CBig.of {i j:Int} (h0:j≠0) (h:j.natAbs<2 ^ 9000):CBig i j:=⟨h0,(Nat.log2_lt (by omega)).mpr h⟩
theorem Gh:OpR X (binaryOp .FloorDiv) (rI CBig fun i j=>.int (i.fdiv j)):=opI fun _ _ _ _ _ _ _ hc q=>floordiv_int hc.1 q (.inl (PyProof.noPylong_of_log2 hc.2))
def insAt (k:Nat) (y:α) (xs:List α):List α:=xs.take k++y::xs.drop k
def Av0:V->List V->Hp->VK->Prop:=fun x vs H Q=>∃ (l:Addr) (xs:List V) (k:Nat) (y:V),x=.ref l/\vs=[.int k,y]/\H l=some (.lst xs)/\k<=xs.length/\xs.length<sizeLine/\Q .non (upd H l (.lst (insAt k y xs)))
theorem Pl:MtM X "list.insert" Av0:=by
 intro Ac s σ H x vs v us Q I rx rv h
 obtain⟨l,xs,k,y,rfl,rfl,hH,hk,hz,q⟩:=h
 cases rx
 obtain⟨u1,u2,rfl,r1,r2⟩:=Au0 rv
 obtain⟨t,rfl⟩:=r1
 obtain⟨z,its,n,r,hl,e⟩:=I.lstM hH
 have hsl:((k:Nat):Int)<2 ^ 63:=by
  have h1:k<=sizeLine:=by omega
  have h2:sizeLine<=2 ^ 62:=by decide +kernel
  have h3:=Nat.le_trans h1 h2
  omega
 have hfit:¬(!Builtin.List.listFitsIndex (k:Int))=true:=by
  rw [fitsIndex_both (by omega) hsl]
  exact Bool.false_ne_true
 have hsz:its.toArray.size<=sizeLine:=by rw [List.size_toArray];omega
 obtain⟨ki,hki⟩:∃ ki:Int,ki=(k:Int):=⟨_,rfl⟩
 rw [←hki] at hfit ⊢
 have hm:=AutoSeq1.list_insert_list_int_val_1 l its.toArray n ki t u2 hfit hsz
 refine call_meets F.slot_list_insert ⟨_,e,rfl⟩ F.entry_list_insert (F.args_list_insert_3 _ _ _) hm ⟨e,?_⟩
 refine⟨.non,_,I.lset (its':=insAt k u2 its) hH e ?_ ?_ ?_,rfl,q⟩
 . have hkl:k<=its.length:=by omega
   have hkn:ki.toNat=k:=by omega
   simp only [List.size_toArray,hkn]
   rw [if_neg (by omega),Nat.min_eq_left hkl]
   apply Array.ext'
   simp only [insAt,Array.toList_append,Array.toList_push,Array.toList_extract,List.extract_eq_drop_take,List.drop_zero,Nat.sub_zero]
   rw [List.append_assoc,List.take_of_length_le (i:=its.length-k) (by rw [List.length_drop];omega)]
   rfl
 . exact (r.take k).append (.cons r2 (r.drop k))
 . unfold insAt
   rw [List.length_append,List.length_cons,List.length_take,List.length_drop]
   omega
structure A97 (K:Frag) (D:Addr) (m:Str) (f:Addr):Prop where
 rd:readsIn K D (.type "type")=true
 fc:findCls K (.ref D) (.type "type") m=some (.val (.ref f))
 ga:specialIn K (.ref D) "__getattribute__"=some (some (.builtin "type.__getattribute__"))
 kp:PySem.W.keepIn K (.ref f)=true
structure HasI (P:Program) (w:World) (K:Frag) (mg:Str->Option Value) (base:Heap) (C:Addr) (m:Str) (ps:List Str) (k:Nat) (sp:Sp):Prop where
 ex:∃ (f:Addr) (fd:FuncData),A97 K C m f/\My K fd ps []/\FnOk P w K mg base CX0 k f fd ps sp
theorem Aw2 {j k:Nat}{C:Addr}{ps:List Str}{sp:Sp}{x m:Str}{np apos pos:Pos}{e:Expr}{es:List Expr}{t:TA}{pl:Sem Bool} (h:HasI X.prog X.w X.K X.mg X.base C m ps j sp) (hr:Room k X.A) (hg:Gl X x) (hm:X.mg x=some (.ref C)) (ha:PA X (e::es) t) (hk:j<=k:=by decide)
 (hdb:(x==("__debug__":Str))=false:=by decide) (hst:starEach (e::es) X.env=(false,eval e X.env)::starEach es X.env:=by rfl) (hpl:(backTo pos (starEach es X.env)).any (·.1)=false:=by rfl)
 (ht:eval (.Call (.Attribute (.Name x np) m apos) (e::es) [] pos) X.env=(do
   let ov ←eval (.Name x np) X.env
   standAt apos.atName
   let (f,first) ←holding [ov] (getMethod ov m pl)
   callWith pos f first (backTo pos (starEach (e::es) X.env)) (backToKw pos (keywordEach [] X.env))):=by rfl) :
 PE X (.Call (.Attribute (.Name x np) m apos) (e::es) [] pos) (tCall sp [] E0 t):=by
 obtain⟨f,fd,B,hb,F⟩:=h.ex
 intro Ac s σ H Q I h
 refine PySem.W.methodCall_KW (pl:=pl) (T0 I hg hm ?_ hdb) ht
 refine method_cls I.kIn B.ga (cls_value I.kIn B.rd B.fc rfl ?_)
 refine PySem.W.callWith_K (h₀:=X.base) I.ok.mod.kin B.kp (thn (ha pos Ac _ σ H _ (I.tok _) h) fun us s1 ⟨vs,H1,I1,r,q⟩=>⟨I1.kIn,?_⟩) hst hpl
 exact Zj F (hr.mono hk) hb .nil Ac1 I1 r q
end
end L2
namespace L2
open PySem PySem.Spec PyProof.Rows
section
variable {prog:Program}{w:World}{A:Around}{E:Value->Shared->Prop}{s:Shared}
theorem Hj {j t:Addr}{n:Nat}{vs:Array Value}{x:Value}{Q:Value->Shared->Prop} (g:s.heap.IsTupleIter j t n) (gt:s.heap.IsTuple t vs) (gx:vs[n]?=some x)
 (k:∀ h',h'.IsTupleIter j t (n+1)->Heap.SameBut j s.heap h'->Q x { s with heap:=h' }):wpAny (model prog w) A (Builtin.SmallTypes.nextOf (.ref j)) Q E s:=by
 obtain⟨o,q1,q2,q3⟩:=id g
 obtain⟨p,p1,_,m,p2⟩:=gt
 unfold Builtin.SmallTypes.nextOf;refine wpAny_bind (wpAny_callSpecial?_slot (name:=Str.ofString "__next__") g.typeIs F.slot_tuple_iterator_next (wpAny_call_entry F.slot_tuple_iterator_next g.typeIs F.entry_tuple_iterator_next ?_ (F.args_tuple_iterator_next_1 _)))
 show wpAny _ _ (field (.ref j) 0>>=_) _ _ s;refine wpAny_bind (wpAny_field q1 q3 (x:=.ref t) rfl ?_)
 show wpAny _ _ (if (Value.ref t==Value.none)=true then _ else _) _ _ s;rw [if_neg (show ¬((Value.ref t==Value.none)=true) from Bool.false_ne_true)]
 show wpAny _ _ (field (.ref j) 1>>=_) _ _ s;refine wpAny_bind (wpAny_field q1 q3 (x:=.int n 0) rfl ?_)
 show wpAny _ _ (seqItems? (.ref t)>>=_) _ _ s;refine wpAny_bind (wpAny_seqItems p1 p2 ?_)
 simp only [Int.toNat_natCast,gx]
 refine wpAny_bind (wpAny_setField q1 q3 (by simp) (wpAny_pure ⟨x,rfl,wpAny_pure (k _ ?_ (Heap.SameBut.update ..))⟩))
 exact ⟨_,Heap.get?_update_self _ q1 (Obj.isFreed_of_fields (Obj.data_mapFields q3 _)),(Obj.cls_mapFields ..).trans q2,by rw [Obj.data_mapFields q3];simp [rawInt]⟩
theorem Rk {j t:Addr}{n:Nat}{vs:Array Value}{Q:Value->Shared->Prop} (hn:A.handled=none) (g:s.heap.IsTupleIter j t n) (gt:s.heap.IsTuple t vs) (gx:vs[n]?=none)
 (k:∀ h' e,Heap.ExtBut j s.heap h'->(∃ o,h'.get? e=some o/\o.cls=.type "StopIteration")->E (.ref e) { s with heap:=h' }):wpAny (model prog w) A (Builtin.SmallTypes.nextOf (.ref j)) Q E s:=by
 obtain⟨o,q1,q2,q3⟩:=id g
 obtain⟨p,p1,_,m,p2⟩:=gt
 unfold Builtin.SmallTypes.nextOf;refine wpAny_bind (wpAny_callSpecial?_slot (name:=Str.ofString "__next__") g.typeIs F.slot_tuple_iterator_next (wpAny_call_entry F.slot_tuple_iterator_next g.typeIs F.entry_tuple_iterator_next ?_ (F.args_tuple_iterator_next_1 _)))
 show wpAny _ _ (field (.ref j) 0>>=_) _ _ s;refine wpAny_bind (wpAny_field q1 q3 (x:=.ref t) rfl ?_)
 show wpAny _ _ (if (Value.ref t==Value.none)=true then _ else _) _ _ s;rw [if_neg (show ¬((Value.ref t==Value.none)=true) from Bool.false_ne_true)]
 show wpAny _ _ (field (.ref j) 1>>=_) _ _ s;refine wpAny_bind (wpAny_field q1 q3 (x:=.int n 0) rfl ?_)
 show wpAny _ _ (seqItems? (.ref t)>>=_) _ _ s;refine wpAny_bind (wpAny_seqItems p1 p2 ?_)
 simp only [Int.toNat_natCast,gx]
 refine wpAny_bind (wpAny_rule (wpAny_bind (wpAny_setField q1 q3 (by simp) ?_)))
 show wpAny _ _ (newExc (.type "StopIteration") []>>=_) _ _ _;refine wpAny_bind ?_
 simp only [newExc,newTuple];refine wpAny_bind (wpAny_newObj_type ?_ (by size_fits))
 refine wpAny_bind (m:=firstArgMember _ _) (wpAny_of_eq (a:=Value.none) (by first | rfl | (simp only [firstArgMember];rfl)) ?_);refine wpAny_newObj_type ?_ (by size_fits)
 simp only [raiseNew];refine wpAny_bind (wpAny_handled ?_)
 first | rw [show A.in1.handled=none from hn] | rw [hn]
 refine wpAny_bind (wpAny_pure (wpAny_throw ?_));exact k _ _ (((Heap.SameBut.update ..).extBut.push _).push _) ⟨_,Heap.get?_push_size _ rfl,rfl⟩
theorem v3 {z a b i1 i2 t1 t2:Addr}{n m:Nat}{xs ys:Array Value}{x y u v:Value}{Q:Value->Shared->Prop} (D:ZipApart z a b i1 i2 t1 t2) (gz:IsZip s.heap z a b .none) (ga:IsPair s.heap a (.ref i1) (.ref i2)) (gb:IsPair s.heap b u v)
 (g1:s.heap.IsTupleIter i1 t1 n) (g2:s.heap.IsTupleIter i2 t2 m) (e1:s.heap.IsTuple t1 xs) (e2:s.heap.IsTuple t2 ys) (gx:xs[n]?=some x) (gy:ys[m]?=some y)
 (k:∀ h',IsZip h' z a b (rawInt s.heap.objs.size)->IsPair h' b x y->h'.IsTupleIter i1 t1 (n+1)->h'.IsTupleIter i2 t2 (m+1)->IsPair h' s.heap.objs.size x y->h'.objs.size=s.heap.objs.size+1 →
   (∀ c o,c≠z->c≠b->c≠i1->c≠i2->s.heap.get? c=some o->h'.get? c=some o)->Q (.ref s.heap.objs.size) { s with heap:=h' }) :
 wpAny (model prog w) A (Builtin.«zip.__next__» ⟨[.ref z],[]⟩) (fun fin s'=>∃ r,fin=.done (.ret r)/\Q r s') E s:=by
 show wpAny _ _ (field (.ref z) 2>>=_) _ _ _;refine wpAny_bind (wpAny_field gz rfl (x:=.bool false) rfl ?_)
 show wpAny _ _ (field (.ref z) 3>>=_) _ _ _;refine wpAny_bind (wpAny_field gz rfl (x:=.ref a) rfl ?_)
 refine wpAny_bind (wpAny_seqItems ga rfl ?_)
 show wpAny _ _ (Builtin.SmallTypes.ownedTupleIsFree (.ref z)>>=_) _ _ _;refine wpAny_bind ?_;unfold Builtin.SmallTypes.ownedTupleIsFree
 refine wpAny_bind (wpAny_field gz rfl (x:=.none) rfl (wpAny_pure ?_));simp only [if_true]
 refine wpAny_bind (wpAny_rule ?_);refine wpAny_bind (wpAny_field gz rfl (x:=.ref b) rfl ?_)
 refine wpAny_bind (wpAny_setField_rec gz (by simp) fun k1 gz1 w1=>?_)
 replace gz1:IsZip k1 z a b .ellipsis:=gz1
 refine wpAny_bind ?_;simp only [List.zipIdx_cons,List.zipIdx_nil,List.forIn_cons,List.forIn_nil]
 refine wpAny_bind (wpAny_bind (wpAny_onRaise ?_));show wpAny _ _ (Builtin.SmallTypes.nextOf (.ref i1)>>=_) _ _ _
 refine wpAny_bind (Hj (g1.extBut w1.extBut D.i1z) (e1.extBut w1.extBut D.l1z) gx fun k2 f1 w2=>wpAny_pure ?_)
 have gb2:IsPair k2 b u v:=w2.extBut _ _ D.TOi1 (w1.extBut _ _ D.TOz gb)
 refine wpAny_bind (wpAny_seqItems gb2 rfl ?_);refine wpAny_bind (wpAny_updateSeq_pair gb2 fun k3 gb3 w3=>?_)
 replace gb3:IsPair k3 b x v:=gb3
 refine wpAny_bind (wpAny_letGo (wpAny_pure ?_));refine wpAny_bind (wpAny_bind (wpAny_onRaise ?_));show wpAny _ _ (Builtin.SmallTypes.nextOf (.ref i2)>>=_) _ _ _
 refine wpAny_bind (Hj (((g2.extBut w1.extBut D.i2z).extBut w2.extBut D.i12.symm).extBut w3.extBut D.TOi2.symm) (((e2.extBut w1.extBut D.l2z).extBut w2.extBut D.l2i1).extBut w3.extBut D.l2TO) gy fun k4 f2 w4=>wpAny_pure ?_)
 have gb4:IsPair k4 b x v:=w4.extBut _ _ D.TOi2 gb3
 refine wpAny_bind (wpAny_seqItems gb4 rfl ?_);refine wpAny_bind (wpAny_updateSeq_pair gb4 fun k5 gb5 w5=>?_)
 replace gb5:IsPair k5 b x y:=gb5
 refine wpAny_bind (wpAny_letGo (wpAny_pure (wpAny_pure ?_)));refine wpAny_bind (wpAny_seqItems gb5 rfl ?_);refine wpAny_bind (wpAny_newTuple ?_)
 have sz:k5.objs.size=s.heap.objs.size:=by rw [w5.1,w4.1,w3.1,w2.1,w1.1]
 have gz5:IsZip k5 z a b .ellipsis:=w5.extBut _ _ D.TOz.symm (w4.extBut _ _ D.i2z.symm (w3.extBut _ _ D.TOz.symm (w2.extBut _ _ D.i1z.symm gz1)))
 have kp:∀ c o,c≠z->c≠b->c≠i1->c≠i2->s.heap.get? c=some o->k5.get? c=some o:=fun c o c1 c2 c3 c4 e=>w5.extBut _ _ c2 (w4.extBut _ _ c4 (w3.extBut _ _ c2 (w2.extBut _ _ c3 (w1.extBut _ _ c1 e))))
 have f15:k5.IsTupleIter i1 t1 (n+1):=((f1.extBut w3.extBut D.TOi1.symm).extBut w4.extBut D.i12).extBut w5.extBut D.TOi1.symm
 have f25:k5.IsTupleIter i2 t2 (m+1):=f2.extBut w5.extBut D.TOi2.symm
 have lz:z<k5.objs.size:=Heap.lt_size gz5
 show wpAny _ _ (Builtin.SmallTypes.ownedTupleHandOut (.ref z) (.ref k5.objs.size)>>=_) _ _ _;refine wpAny_bind ?_;unfold Builtin.SmallTypes.ownedTupleHandOut
 have gz6:IsZip (k5.push { cls:=.type "tuple",data:=.seq #[x,y] }) z a b .ellipsis:=Heap.get?_push_of_some _ gz5
 refine wpAny_bind (wpAny_setField_rec gz6 (by simp) fun k7 gz7 w7=>?_)
 replace gz7:IsZip k7 z a b (rawInt k5.objs.size):=gz7
 refine wpAny_setField_rec gz7 (by simp) fun k8 gz8 w8=>?_
 replace gz8:IsZip k8 z a b (rawInt k5.objs.size):=gz8
 have up:∀ c o,c≠z->k5.get? c=some o->k8.get? c=some o:=fun c o c1 e=>w8.extBut _ _ c1 (w7.extBut _ _ c1 (Heap.get?_push_of_some _ e))
 have gt:IsPair k8 k5.objs.size x y:=w8.extBut _ _ (Nat.ne_of_gt lz) (w7.extBut _ _ (Nat.ne_of_gt lz) (Heap.get?_push_size _ rfl))
 have s8:k8.objs.size=k5.objs.size+1:=by rw [w8.1,w7.1,Heap.size_push]
 rw [sz] at gz8 gt s8
 refine wpAny_pure ⟨_,rfl,?_⟩;show Q (.ref k5.objs.size) _;rw [sz]
 exact k k8 gz8 (up _ _ D.TOz gb5) (f15.at fun o e=>up _ o D.i1z e) (f25.at fun o e=>up _ o D.i2z e) gt s8 fun c o c1 c2 c3 c4 e=>up c o c1 (kp c o c1 c2 c3 c4 e)
theorem Am7 {z a b i1 i2 t1 t2:Addr}{n m:Nat}{xs ys:Array Value}{u v:Value}{Q:PySem.Fin->Shared->Prop} (hn:A.handled=none) (D:ZipApart z a b i1 i2 t1 t2) (gz:IsZip s.heap z a b .none) (ga:IsPair s.heap a (.ref i1) (.ref i2)) (gb:IsPair s.heap b u v)
 (g1:s.heap.IsTupleIter i1 t1 n) (g2:s.heap.IsTupleIter i2 t2 m) (e1:s.heap.IsTuple t1 xs) (e2:s.heap.IsTuple t2 ys) (gx:xs[n]?=none)
 (k:∀ h' e,(∀ c o,c≠z->c≠b->c≠i1->c≠i2->s.heap.get? c=some o->h'.get? c=some o)->(∃ o,h'.get? e=some o/\o.cls=.type "StopIteration")->E (.ref e) { s with heap:=h' }) :
 wpAny (model prog w) A (Builtin.«zip.__next__» ⟨[.ref z],[]⟩) Q E s:=by
 show wpAny _ _ (field (.ref z) 2>>=_) _ _ _;refine wpAny_bind (wpAny_field gz rfl (x:=.bool false) rfl ?_)
 show wpAny _ _ (field (.ref z) 3>>=_) _ _ _;refine wpAny_bind (wpAny_field gz rfl (x:=.ref a) rfl ?_)
 refine wpAny_bind (wpAny_seqItems ga rfl ?_)
 show wpAny _ _ (Builtin.SmallTypes.ownedTupleIsFree (.ref z)>>=_) _ _ _;refine wpAny_bind ?_;unfold Builtin.SmallTypes.ownedTupleIsFree
 refine wpAny_bind (wpAny_field gz rfl (x:=.none) rfl (wpAny_pure ?_));simp only [if_true]
 refine wpAny_bind (wpAny_rule ?_);refine wpAny_bind (wpAny_field gz rfl (x:=.ref b) rfl ?_)
 refine wpAny_bind (wpAny_setField_rec gz (by simp) fun k1 gz1 w1=>?_)
 replace gz1:IsZip k1 z a b .ellipsis:=gz1
 refine wpAny_bind ?_;simp only [List.zipIdx_cons,List.zipIdx_nil,List.forIn_cons,List.forIn_nil]
 refine wpAny_bind (wpAny_bind (wpAny_onRaise ?_));show wpAny _ _ (Builtin.SmallTypes.nextOf (.ref i1)>>=_) _ _ _
 refine wpAny_bind (Rk hn (g1.extBut w1.extBut D.i1z) (e1.extBut w1.extBut D.l1z) gx fun k2 e w2 he=>?_)
 obtain⟨oe,ge,ce⟩:=he
 have gz2:IsZip k2 z a b .ellipsis:=w2 _ _ D.i1z.symm gz1
 have ne:e≠z:=fun q=>by subst q;rw [gz2] at ge;cases ge;simp at ce
 refine wpAny_setField_rec gz2 (by simp) fun k3 _ w3=>k k3 e (fun c o c1 _ c3 _ q=>w3.extBut _ _ c1 (w2 _ _ c3 (w1.extBut _ _ c1 q))) ⟨oe,w3.extBut _ _ ne ge,ce⟩
theorem Rj {z a b i1 i2 t1 t2:Addr}{n m:Nat}{xs ys:Array Value}{x y u v:Value}{Q:Option Value->Shared->Prop} (D:ZipApart z a b i1 i2 t1 t2) (gz:IsZip s.heap z a b .none) (ga:IsPair s.heap a (.ref i1) (.ref i2)) (gb:IsPair s.heap b u v)
 (g1:s.heap.IsTupleIter i1 t1 n) (g2:s.heap.IsTupleIter i2 t2 m) (e1:s.heap.IsTuple t1 xs) (e2:s.heap.IsTuple t2 ys) (gx:xs[n]?=some x) (gy:ys[m]?=some y)
 (k:∀ h',IsZip h' z a b (rawInt s.heap.objs.size)->IsPair h' b x y->h'.IsTupleIter i1 t1 (n+1)->h'.IsTupleIter i2 t2 (m+1)->IsPair h' s.heap.objs.size x y->h'.objs.size=s.heap.objs.size+1 →
   (∀ c o,c≠z->c≠b->c≠i1->c≠i2->s.heap.get? c=some o->h'.get? c=some o)->Q (some (.ref s.heap.objs.size)) { s with heap:=h' }):wpAny (model prog w) A (pyNext (.ref z)) Q E s:=by
 have ht:s.TypeIs (.ref z) "zip":=⟨_,gz,rfl⟩
 unfold pyNext
 exact wpAny_bind (wpAny_attempt (wpAny_callSpecial?_slot (name:=Str.ofString "__next__") ht F.slot_zip_next (wpAny_call_entry F.slot_zip_next ht F.entry_zip_next (v3 D gz ga gb g1 g2 e1 e2 gx gy fun h' a1 a2 a3 a4 a5 a6 a7=>wpAny_pure (k h' a1 a2 a3 a4 a5 a6 a7)) (F.args_zip_next_1 _))))
theorem Ty {z a b i1 i2 t1 t2:Addr}{n m:Nat}{xs ys:Array Value}{u v:Value}{Q:Option Value->Shared->Prop} (hn:A.handled=none) (D:ZipApart z a b i1 i2 t1 t2) (gz:IsZip s.heap z a b .none) (ga:IsPair s.heap a (.ref i1) (.ref i2)) (gb:IsPair s.heap b u v)
 (g1:s.heap.IsTupleIter i1 t1 n) (g2:s.heap.IsTupleIter i2 t2 m) (e1:s.heap.IsTuple t1 xs) (e2:s.heap.IsTuple t2 ys) (gx:xs[n]?=none)
 (k:∀ h',(∀ c o,c≠z->c≠b->c≠i1->c≠i2->s.heap.get? c=some o->h'.get? c=some o)->Q none { s with heap:=h' }):wpAny (model prog w) A (pyNext (.ref z)) Q E s:=by
 have ht:s.TypeIs (.ref z) "zip":=⟨_,gz,rfl⟩
 unfold pyNext
 refine wpAny_bind (wpAny_attempt (wpAny_callSpecial?_slot (name:=Str.ofString "__next__") ht F.slot_zip_next (wpAny_call_entry F.slot_zip_next ht F.entry_zip_next (Am7 hn D gz ga gb g1 g2 e1 e2 gx fun h' e kp he=>?_) (F.args_zip_next_1 _))))
 obtain⟨o,q1,q2⟩:=he
 exact wpAny_bind (wpAny_isInstance (T:="StopIteration") (b:=true) ⟨o,q1,q2⟩ isSubtype_stop (wpAny_pure (k _ kp)))
end
abbrev zt1 (h:Heap) (a:Addr):Heap:=h.push { cls:=.type "tuple_iterator",data:=.fields #[.ref a,.int 0 0] }
abbrev zt2 (h:Heap) (a b:Addr):Heap:=(zt1 h a).push { cls:=.type "tuple_iterator",data:=.fields #[.ref b,.int 0 0] }
abbrev zt3 (h:Heap) (a b:Addr):Heap:=(zt2 h a b).push { cls:=.type "tuple",data:=.seq #[.ref h.objs.size,.ref (zt1 h a).objs.size] }
abbrev zt4 (h:Heap) (a b:Addr):Heap:=(zt3 h a b).push { cls:=.type "tuple",data:=.seq #[.none,.none] }
abbrev zt5 (h:Heap) (a b:Addr):Heap:=(zt4 h a b).push { cls:=.type "zip",data:=.fields #[.none,.bool false,.bool false,.ref (zt2 h a b).objs.size,.ref (zt3 h a b).objs.size] }
theorem Am6 (a b:Addr) (xs ys:Array Value):Meets (Builtin.«zip.__new__» ⟨[.type "zip",.ref a,.ref b],[]⟩) (fun _ R s=>s.heap.IsTuple a xs/\s.heap.IsTuple b ys/\R (.ok (.ret (.ref (zt4 s.heap a b).objs.size))) { s with heap:=zt5 s.heap a b }) :=
 .of_wp fun prog w A R s h=>by
  obtain⟨hp,g,d,tk,os⟩:=s;obtain⟨h1,h2,h⟩:=h
  have hsub:=sub_zip
  have g1:Heap.IsTuple (Shared.heap ⟨hp,g,d,tk,os⟩) a xs:=h1
  have g2:Heap.IsTuple (Shared.heap ⟨hp.push { cls:=.type "tuple_iterator",data:=.fields #[.ref a,.int 0 0] },g,d,tk,os⟩) b ys:=Heap.IsTuple.push h2 _
  wp_walk using wpAny_pyIter_tuple g1,wpAny_pyIter_tuple g2
  exact ⟨_,rfl,h⟩
section
variable {prog:Program}{w:World}{A:Around}{E:Value->Shared->Prop}{s:Shared}
theorem Ak2 {a b:Addr}{xs ys:Array Value}{Q:Value->Shared->Prop} (h1:s.heap.IsTuple a xs) (h2:s.heap.IsTuple b ys)
 (k:∀ h',IsZip h' (s.heap.objs.size+4) (s.heap.objs.size+2) (s.heap.objs.size+3) .none->IsPair h' (s.heap.objs.size+2) (.ref s.heap.objs.size) (.ref (s.heap.objs.size+1)) →
   IsPair h' (s.heap.objs.size+3) .none .none->h'.IsTupleIter s.heap.objs.size a 0->h'.IsTupleIter (s.heap.objs.size+1) b 0->h'.objs.size=s.heap.objs.size+5 →
   (∀ c o,s.heap.get? c=some o->h'.get? c=some o)->Q (.ref (s.heap.objs.size+4)) { s with heap:=h' }):wpAny (model prog w) A (call (.type "zip") [.ref a,.ref b]) Q E s:=by
 refine callType_new F.called_zip (by decide) (F.typeCall_zip_2 _ _) (F.newCall_zip_2 _ _) (fun obj=>F.args_object_init_3 obj _ _) F.entry_zip_new (Am6 a b xs ys) ⟨h1,h2,?_⟩
 have z1:(zt1 s.heap a).objs.size=s.heap.objs.size+1:=Heap.size_push ..
 have z2:(zt2 s.heap a b).objs.size=s.heap.objs.size+2:=by rw [Heap.size_push,z1]
 have z3:(zt3 s.heap a b).objs.size=s.heap.objs.size+3:=by rw [Heap.size_push,z2]
 have z4:(zt4 s.heap a b).objs.size=s.heap.objs.size+4:=by rw [Heap.size_push,z3]
 have z5:(zt5 s.heap a b).objs.size=s.heap.objs.size+5:=by rw [Heap.size_push,z4]
 have q5:(zt5 s.heap a b).get? (zt4 s.heap a b).objs.size=some _:=Heap.get?_push_size _ rfl
 have q4:(zt5 s.heap a b).get? (zt3 s.heap a b).objs.size=some _:=Heap.get?_push_of_some _ (Heap.get?_push_size _ rfl)
 have q3:(zt5 s.heap a b).get? (zt2 s.heap a b).objs.size=some _:=Heap.get?_push_of_some _ (Heap.get?_push_of_some _ (Heap.get?_push_size _ rfl))
 have q2:(zt5 s.heap a b).get? (zt1 s.heap a).objs.size=some _:=Heap.get?_push_of_some _ (Heap.get?_push_of_some _ (Heap.get?_push_of_some _ (Heap.get?_push_size _ rfl)))
 have q1:(zt5 s.heap a b).get? s.heap.objs.size=some _:=Heap.get?_push_of_some _ (Heap.get?_push_of_some _ (Heap.get?_push_of_some _ (Heap.get?_push_of_some _ (Heap.get?_push_size _ rfl))))
 show _/\_
 rw [z2,z3,z4] at q5
 rw [z1,z2] at q3
 rw [z3] at q4
 rw [z1] at q2
 rw [z4]
 exact ⟨⟨_,q5,rfl⟩,k _ q5 q3 q4 ⟨_,q1,rfl,rfl⟩ ⟨_,q2,rfl,rfl⟩ z5 fun c o x=>Heap.get?_push_of_some _ (Heap.get?_push_of_some _ (Heap.get?_push_of_some _ (Heap.get?_push_of_some _ (Heap.get?_push_of_some _ x))))⟩
end
def Ityp (K:W.Frag) (a b:Addr):It :=
 ⟨fun i H=>∃ xs ys x y,SqT K H a xs/\SqT K H b ys/\xs[i]?=some x/\ys[i]?=some y,
  fun i H v H'=>∃ p x y,H p=none/\v=.ref p/\H'=upd H p (.tup [x,y])/\(∀ xs,SqT K H a xs->xs[i]?=some x)/\∀ ys,SqT K H b ys->ys[i]?=some y,
  fun i H=>∃ xs ys,SqT K H a xs/\SqT K H b ys/\xs.length<=i⟩
theorem v5 {P:Program}{w:World}{K:W.Frag}{es:List Expr}{x1:Nat}{tpos:Pos} (a b z TI TO i1 i2:Addr) (D:ZipApart z TI TO i1 i2 a b) :
 Turn P w K (.Tuple es x1 tpos) (Ityp K a b) [z,TI,TO,i1,i2] z (fun i h=>IsZip h z TI TO .none/\IsPair h TI (.ref i1) (.ref i2)/\(∃ c d,IsPair h TO c d)/\h.IsTupleIter i1 a i/\h.IsTupleIter i2 b i) where
 mem:=by simp
 obj:=fun i h st c hc=>by
  obtain⟨hz,hTI,⟨u,v,hTO⟩,⟨o1,h1,c1,d1⟩,⟨o2,h2,c2,d2⟩⟩:=st
  simp only [List.mem_cons,List.not_mem_nil,or_false] at hc
  rcases hc with rfl | rfl | rfl | rfl | rfl
  . exact ⟨_,hz,fun v q=>by cases (show Data.fields _=Data.cell v from q)⟩
  . exact ⟨_,hTI,fun v q=>by cases (show Data.seq _ _=Data.cell v from q)⟩
  . exact ⟨_,hTO,fun v q=>by cases (show Data.seq _ _=Data.cell v from q)⟩
  . exact ⟨o1,h1,fun v q=>by rw [d1] at q;cases q⟩
  . exact ⟨o2,h2,fun v q=>by rw [d2] at q;cases q⟩
 keep:=fun i h h' st k=>by
  obtain⟨hz,hTI,⟨u,v,hTO⟩,h1,h2⟩:=st
  exact ⟨k z (by simp) _ hz,k TI (by simp) _ hTI,⟨u,v,k TO (by simp) _ hTO⟩,h1.at fun o q=>k i1 (by simp) o q,h2.at fun o q=>k i2 (by simp) o q⟩
 item:=by
  intro X hP hw hK hc i Ac s σ H E I hf st hg
  subst hP hw hK
  obtain⟨hz,hTI,⟨u0,v0,hTO⟩,h1,h2⟩:=st
  obtain⟨xs,ys,x,y,hqa,hqb,hx,hy⟩:=hg
  obtain⟨ia,ra,pa,_⟩:=I.tuple hqa
  obtain⟨ib,rb,pb,_⟩:=I.tuple hqb
  obtain⟨u,hu,ru⟩:=ra.get hx
  obtain⟨v,hv,rv⟩:=rb.get hy
  have hfresh:H s.heap.objs.size=none:=I.hok.fresh (Nat.le_refl _)
  have ltz:=Heap.lt_size hz
  refine Rj D hz hTI hTO h1 h2 (show s.heap.IsTuple a ia.toArray from pa) (show s.heap.IsTuple b ib.toArray from pb) (x:=u) (y:=v) (by simpa using hu) (by simpa using hv) fun h' hz' hTO' h1' h2' htup hsz hk=>?_
  refine⟨_,rfl,wpAny_letOwnedTupleGo_zip hz' fun h3 hz3 hsb=>?_⟩
  replace hsb:Heap.SameBut z h' h3:=hsb
  have kk:∀ c o,c ∉ [z,TI,TO,i1,i2]->s.heap.get? c=some o->h3.get? c=some o:=fun c o hc e=>by
   simp only [List.mem_cons,List.not_mem_nil,or_false,not_or] at hc
   obtain⟨n1,n2,n3,n4,n5⟩:=hc
   exact (hsb.2 c n1).trans (hk c o n1 n3 n4 n5 e)
  have ht3:h3.get? s.heap.objs.size=some { cls:=.type "tuple",data:=.seq #[u,v] }:=(hsb.2 _ (Nat.ne_of_gt ltz)).trans htup
  have hi1:h3.IsTupleIter i1 a (i+1):=h1'.at fun o e=>(hsb.2 i1 D.i1z).trans e
  have hi2:h3.IsTupleIter i2 b (i+1):=h2'.at fun o e=>(hsb.2 i2 D.i2z).trans e
  have hTI3:IsPair h3 TI (.ref i1) (.ref i2):=(hsb.2 TI D.TIz).trans (hk _ _ D.TIz D.TITO D.TIi1 D.TIi2 hTI)
  have hTO3:IsPair h3 TO u v:=(hsb.2 TO D.TOz).trans hTO'
  have ntr:∀ c o,H c=some o->c ∉ [z,TI,TO,i1,i2]:=fun c o e hm=>by rw [(hf c hm).1] at e;cases e
  have nsz:∀ c o,H c=some o->c≠s.heap.objs.size:=fun c o e=>Ar e hfresh
  refine⟨.ref s.heap.objs.size,upd H s.heap.objs.size (.tup [x,y]),?_,rfl,⟨s.heap.objs.size,x,y,hfresh,rfl,rfl,fun zs q=>by rw [I.tuple_inj q hqa];exact hx,fun zs q=>by rw [I.tuple_inj q hqb];exact hy⟩,⟨hz3,hTI3,⟨_,_,hTO3⟩,hi1,hi2⟩,fun c hc=>?_⟩
  . refine Inv.step (s:=s) (h':=h3) (t':=s.toks) (H':=upd H s.heap.objs.size (.tup [x,y])) I (g':=s.gens) (d':=s.drawn) (ch:=[z,TI,TO,i1,i2]) (fun c hc=>?_) (fun c o _ _ hc e _=>kk c o hc e) (fun c o _ _ hc e _=>⟨o.slots,kk c o hc e⟩) (fun c o hc e n=>?_) (fun c o hc e=>⟨o,kk c o hc e⟩)
     (fun c zs e=>by rw [Aq (nsz c _ e)];exact e) (fun c o w' e=>by rw [Aq (nsz c _ e)];exact e) (fun c ps e=>⟨#[],by rw [Aq (nsz c _ e),e];simp⟩) (fun m hm=>?_) (fun c w' e=>?_) I.bare
    . have f:=hf c hc
      exact ⟨f.2.2.2.1,f.2.1,f.2.2.2.2.1,f.2.2.2.2.2⟩
    . rw [Aq (Nat.ne_of_lt (Heap.lt_size e))]
      exact n
    . obtain⟨o,es',ep,ho,r⟩:=hm
      exact ⟨o,es',ep,kk _ o (fun q=>(hf _ q).2.1 rfl) ho,r⟩
    . by_cases hcs:c=s.heap.objs.size
      . subst hcs
        rw [Ag] at e
        cases e
        exact ⟨(by show (2:Nat)<=sizeLine;decide),[u,v],.cons ru (.cons rv .nil),⟨_,ht3,rfl,rfl,_,rfl⟩⟩
      . rw [Aq hcs] at e
        refine (I.hok c w' e).stay (fun c' y' hc' q=>?_) (fun c' q=>by rw [Aq (nsz c' _ q)];exact q) fun c' zs q=>by rw [Aq (nsz c' _ q)];exact q
        rcases hc' with rfl | hc'
        . exact kk _ _ (ntr _ _ e) q
        . exact kk _ _ (ntr _ _ hc') q
  . have lb:c<s.heap.objs.size:=by
     simp only [List.mem_cons,List.not_mem_nil,or_false] at hc
     obtain⟨o1,q1,_⟩:=h1
     obtain⟨o2,q2,_⟩:=h2
     rcases hc with rfl | rfl | rfl | rfl | rfl
     . exact ltz
     . exact Heap.lt_size hTI
     . exact Heap.lt_size hTO
     . exact Heap.lt_size q1
     . exact Heap.lt_size q2
    rw [Aq (Nat.ne_of_lt lb)]
    exact (hf c hc).1
 done:=by
  intro X hP hw hK hc i Ac s σ H E I hf st hg
  subst hP hw hK
  obtain⟨hz,hTI,⟨u0,v0,hTO⟩,h1,h2⟩:=st
  obtain⟨xs,ys,hqa,hqb,hx⟩:=hg
  obtain⟨ia,ra,pa,_⟩:=I.tuple hqa
  obtain⟨ib,rb,pb,_⟩:=I.tuple hqb
  have la:=ra.length
  have lb:=rb.length
  refine Ty (I.ok.hd hc) D hz hTI hTO h1 h2 (show s.heap.IsTuple a ia.toArray from pa) (show s.heap.IsTuple b ib.toArray from pb) ?_ fun h' hk=>⟨rfl,I.turnedN (t':=s.toks) (fp:=[z,TI,TO,i1,i2]) (fun c o hc e=>?_) hf⟩
  . simp;omega
  . simp only [List.mem_cons,List.not_mem_nil,or_false,not_or] at hc
    obtain⟨n1,n2,n3,n4,n5⟩:=hc
    exact hk c o n1 n3 n4 n5 e
 self:=fun _ _ _ _ _ st h=>wpAny_pyIter_zip st.1 h
def A86 (K:W.Frag) (ta:TA):TI:=fun σ H R=>ta σ H fun vs H1=>∃ a b,vs=[.ref a,.ref b]/\(∃ xs,SqT K H1 a xs)/\(∃ ys,SqT K H1 b ys)/\R (Ityp K a b) H1
theorem t8:bootBuiltins "zip"=some (.type "zip"):=by decide +kernel
theorem Av7 {X:Cx}{K:W.Frag}{es:List Expr}{x1:Nat}{tpos:Pos}{a b:Expr}{ta:TA}{p pos:Pos} (hg:Gl X "zip") (hm:X.mg "zip"=none) (ha:PA X [a,b] ta) (hK:X.K=K:=by rfl) (hs:starEach [a,b] X.env=[(false,eval a X.env),(false,eval b X.env)]:=by rfl) (hs2:starEach [b] X.env=[(false,eval b X.env)]:=by rfl) :
 PI X (.Tuple es x1 tpos) (.Call (.Name "zip" p) [a,b] [] pos) (A86 K ta):=by
 subst hK
 intro Ac s σ H R I h
 refine Call_ (K8 I hg hm t8 (PyProof.Rows.callWith_type1 (thn (ha pos Ac s σ H _ I h) fun us s1 ⟨vs,H1,I1,r1,q1⟩=>?_) (by rw [hs,hs2]) (by rw [hs2];rfl)))
 obtain⟨la,lb,e,⟨xs,hqa⟩,⟨ys,hqb⟩,q⟩:=q1
 subst e
 cases r1 with
 | cons ra rr =>
   cases rr with
   | cons rb rr =>
     cases rr
     cases ra
     cases rb
     obtain⟨ia,_,pa,_⟩:=I1.tuple hqa
     obtain⟨ib,_,pb,_⟩:=I1.tuple hqb
     have a1:la<s1.heap.objs.size:=by obtain⟨_,e,_⟩:=pa;exact Heap.lt_size e
     have a2:lb<s1.heap.objs.size:=by obtain⟨_,e,_⟩:=pb;exact Heap.lt_size e
     refine Ak2 (show s1.heap.IsTuple la ia.toArray from pa) (show s1.heap.IsTuple lb ib.toArray from pb) fun h' hz hTI hTO hi1 hi2 hsz hk=>?_
     refine wpAny_pyIter_zip hz ⟨s1.heap.objs.size+4,[s1.heap.objs.size+4,s1.heap.objs.size+2,s1.heap.objs.size+3,s1.heap.objs.size,s1.heap.objs.size+1],_,_,H1,rfl,I1.kept (t':=s1.toks) hk,v5 la lb _ _ _ _ _ (zipApart_new a1 a2),⟨hz,hTI,⟨_,_,hTO⟩,hi1,hi2⟩,fun c hc=>?_,q⟩
     have lc:s1.heap.objs.size<=c:=by
      simp only [List.mem_cons,List.not_mem_nil,or_false] at hc
      rcases hc with rfl | rfl | rfl | rfl | rfl
      . exact Nat.le_add_right _ _
      . exact Nat.le_add_right _ _
      . exact Nat.le_add_right _ _
      . exact Nat.le_refl _
      . exact Nat.le_add_right _ _
     exact I1.fpOk lc (I1.hok.fresh lc)
section
variable {g:TG}{tc:TT}{te:TE}{D:Addr}{Q:Hp->Prop}{τ:St}{H:Hp}
theorem Aj2 {K:W.Frag}{a b:Addr}{xs ys:List V}{n:Nat} (hn:xs.length=n/\ys.length=n) (Pv:Nat->List V->St->Hp->Prop) (h0:Pv 0 [] τ H) (hl:∀ i zs τ H,i<=n->Pv i zs τ H->SqT K H a xs/\SqT K H b ys)
 (hs:∀ i x y zs τ H p,xs[i]?=some x->ys[i]?=some y->Pv i zs τ H->H p=none->g (.ref p) τ (upd H p (.tup [x,y])) fun τ2 H2=>tc τ2 H2 fun b H3=>if b=true then te τ2 H3 fun y H4=>H4 D=some (.lst zs)/\zs.length<sizeLine/\Pv (i+1) (zs++[y]) τ2 (upd H4 D (.lst (zs++[y]))) else Pv (i+1) zs τ2 H3)
 (hd:∀ zs τ H,Pv n zs τ H->Q H):RunC (Ityp K a b) g tc te D Q τ H:=by
 refine⟨fun i m zs τ H=>m=n-i/\i<=n/\Pv i zs τ H,⟨n,by simp,Nat.zero_le _,h0⟩,?_⟩
 rintro i m zs τ H ⟨rfl,hi,pp⟩
 obtain⟨qa,qb⟩:=hl i zs τ H hi pp
 by_cases hlt:i<n
 . refine .inr ⟨⟨xs,ys,xs[i],ys[i],qa,qb,by simp<;>omega,by simp<;>omega⟩,Pv (i+1),fun ys' τ' H' p'=>⟨n-(i+1),by omega,rfl,hlt,p'⟩,fun x H' y=>?_⟩
   obtain⟨p,u,v,hp,rfl,rfl,y1,y2⟩:=y
   exact hs i u v zs τ _ p (y1 xs qa) (y2 ys qb) pp hp
 . have e:i=n:=by omega
   subst e
   exact .inl ⟨⟨xs,ys,qa,qb,by omega⟩,hd zs τ H pp⟩
end
end L2
namespace L2
open PySem PySem.Spec PyProof.Rows
section
variable {κ:Type} [DecidableEq κ]
end
abbrev KT (H:Hp):List (List Key × V)->List (List Key × Addr × Value)->Prop:=Paired fun p q=>p.1=q.1/\H q.2.1=some (.tup (p.1.map kV))/\RelV p.2 q.2.2
section
variable {P:Program}{w:World}{H:Hp}{h:Heap}{a:Addr}
end
section
variable {X:Cx}{Ac:List (Addr × Obj)}{σ:St}{H:Hp}{s:Shared}{a:Addr}{y v:V}{u r:Value}{o:Option V}{A:Around}{E:Value->Shared->Prop}
end
section
variable {X:Cx}{Ac:List (Addr × Obj)}{σ:St}{H:Hp}{s:Shared}{a:Addr}{Si:List (Key × V)}{k:Key}{u:Value}{A:Around}{E:Value->Shared->Prop}
end
section
variable {X:Cx}{o i e value:Expr}{pos pos' tpos:Pos}{td ty tv:TE}
end
section
variable {X:Cx}{pos:Pos}
end
structure M2 (X:Cx) (o:Expr) (m:Str) (apos:Pos) (e f:Expr) (cpos:Pos):Prop where
 base:attributeBase o m X.env (eval o X.env)=eval o X.env
 few:((backTo cpos (starEach [e,f] X.env)).all (fun x=>!x.1)&&(backToKw cpos (keywordEach [] X.env)).all (fun x=>x.1.isSome)
  && decide (([e,f]:List Expr).length+([]:List Keyword).length+(if ([]:List Keyword).isEmpty then 0 else 1)<30))=true
 line:(apos.endLine==cpos.line)=true
 trees:backTo cpos (starEach [e,f] X.env)=[(false,eval e X.env),(false,eval f X.env)]
section
variable {X:Cx}{Ac:List (Addr × Obj)}{σ:St}{H:Hp}{s:Shared}{a:Addr}{y d:V}{u r:Value}{o:Option V}{A:Around}{E:Value->Shared->Prop}
end
section
variable {X:Cx}{o e f:Expr}{apos cpos:Pos}{td ty tx:TE}
end
section
variable {X:Cx}{Ac:List (Addr × Obj)}{σ:St}{H:Hp}{s:Shared}{a:Addr}{Si:List (Key × V)}{A:Around}{E:Value->Shared->Prop}
end
section
variable {X:Cx}{Ac:List (Addr × Obj)}{σ:St}{H:Hp}{s:Shared}{a:Addr}{y:V}{u:Value}{A:Around}{E:Value->Shared->Prop}
end
end L2
namespace L2
open PySem PySem.Spec PyProof.Rows
section
variable {X:Cx}
end
end L2
namespace L2
open PySem PySem.Spec PyProof.Rows PySem.SeqAt
end L2
namespace L2
open PySem PySem.Spec PyProof.Rows
section
variable {prog:Program}{w:World}{A:Around}{E:Value->Shared->Prop}
variable {KT:Type} [DecidableEq KT] {knd:KeyKind prog w KT}
end
end L2
namespace L2
open PySem PySem.Spec PyProof.Rows PySem.SeqAt
end L2
namespace L2
open PySem PySem.Spec PyProof.Rows
section
variable {X:Cx}{Ac:List (Addr × Obj)}{σ:St}{H:Hp}{s:Shared}{a:Addr}{Si:List (Key × V)}
end
section
variable {g:TG}{tc:TT}{te:TE}{D:Addr}{Q:Hp->Prop}{τ:St}{H:Hp}
end
end L2
namespace L2
open PySem PySem.Spec PyProof.Rows PySem.SeqAt
section
variable {X:Cx}{Ac:List (Addr × Obj)}{σ:St}{H:Hp}{s:Shared}{a:Addr}{ms:List (Int × Int)}
end
section
variable {X:Cx}{n:Nat}{K:W.Frag}
end
end L2
namespace L2
open PySem PySem.Spec PyProof.Rows
theorem u1 {n c:Nat} (h:n+8<c):n+1<c:=by omega
end L2
namespace L2
open PySem PySem.Spec PyProof.Rows
section
variable {P:Program}{w:World}{K:W.Frag}{mg:Str->Option Value}{base:Heap}
end
section
variable {X:Cx}{x:Str}{ps:List Str}{j k:Nat}{sp:Sp}{p pos:Pos}{e:Expr}{es:List Expr}{t:TA}
end
end L2
namespace L2
open PySem PySem.Spec PyProof.Rows
end L2
namespace L2
open PySem PySem.Spec PyProof.Rows
end L2
namespace L2
open PySem PySem.Spec PyProof.Rows
def Itd (hi:Int) (n:Nat):It:=⟨fun i _=>i<n,fun i H x H'=>H'=H/\x=.int (hi-i),fun i _=>n<=i⟩
theorem Jv (a b:Int):Builtin.Range.rangeSize a b (-1)=if b<a then a-b else 0:=by
 unfold Builtin.Range.rangeSize
 rw [if_neg (by decide)]
 split
 . show (a-b-1) / 1+1=a-b
   rw [Int.ediv_one];omega
 . rfl
theorem b8 {a b:Int} (ha:-(2 ^ 61)<=a) (ha':a<2 ^ 61) (hb:-(2 ^ 61)<=b) (hb':b<2 ^ 61):Builtin.Range.small a b (-1)=true:=by
 unfold Builtin.Range.small
 rw [Jv]
 simp only [Builtin.Range.rangeFitsLong,Bool.and_eq_true,Bool.or_eq_true,decide_eq_true_eq,beq_iff_eq]
 split<;>simp<;>omega
theorem v9 {P:Program}{w:World}{K:W.Frag}{tg:Expr} (it:Addr) (hi:Int) (n:Nat):Turn P w K tg (Itd hi n) [it] it (fun i h=>IsRangeIter h it (hi+(i:Nat)*(-1)) ((n:Int)-(i:Nat)) (-1)) where
 mem:=by simp
 obj:=fun i h st b hb=>by
  have e:b=it:=by simpa using hb
  subst e
  exact ⟨_,st,fun v z=>by
   have z':Data.fields _=Data.cell v:=z
   cases z'⟩
 keep:=fun i h h' st k=>k it (by simp) _ st
 item:=by
  intro X hP hw hK hc i Ac s σ H E I hf st hg
  subst hP hw hK
  obtain⟨f0,f1,f2,f3,f4,f5⟩:=hf it (by simp)
  have W:=Walks.range (prog:=X.prog) (w:=X.w) (I.ok.hd hc) it hi (-1) n
  refine W.item i s _ _ hg st fun v h' tk hv st' kk=>?_
  obtain⟨t,rfl⟩:=hv
  have I1:Inv X Ac σ H { s with heap:=h',toks:=tk }:=I.turned (fun b o hb e=>kk b o (by simpa using hb) e) f0 f1 f3 f4 f5
  refine⟨_,rfl,Ap9 (s:={ s with heap:=h',toks:=tk }) (n:="range_iterator") st' rfl rfl (by decide) ⟨.int (hi-i),H,I1,⟨t,?_⟩,⟨rfl,rfl⟩,st',fun b hb=>(hf b hb).1⟩⟩
  rw [show hi+(i:Int)*(-1)=hi-i by omega]
 done:=by
  intro X hP hw hK hc i Ac s σ H E I hf st hg
  subst hP hw hK
  obtain⟨f0,f1,f2,f3,f4,f5⟩:=hf it (by simp)
  exact wpAny_pyNext_range_end (I.ok.hd hc) st (by have:n<=i:=hg;omega) fun h' eb=>⟨rfl,I.turned (t':=s.toks) (fun b o hb e=>eb b o hb e) f0 f1 f3 f4 f5⟩
 self:=fun _ _ _ _ _ st h=>wpAny_pyIter_rangeiter st h
def A90 (ta:TA):TI:=fun σ H R=>ta σ H fun vs H1=>∃ (n:Nat),vs=[.int ((n:Int)-1),.int (-1),.int (-1)]/\n<=1000000/\R (Itd ((n:Int)-1) n) H1
theorem Av9 {X:Cx}{tg:Expr}{a b c:Expr}{ta:TA}{p pos:Pos} (hg:Gl X "range") (hm:X.mg "range"=none) (ha:PA X [a,b,c] ta) (hs:starEach [a,b,c] X.env=[(false,eval a X.env),(false,eval b X.env),(false,eval c X.env)]:=by rfl) (hs2:starEach [b,c] X.env=[(false,eval b X.env),(false,eval c X.env)]:=by rfl) :
 PI X tg (.Call (.Name "range" p) [a,b,c] [] pos) (A90 ta):=by
 intro Ac s σ H R I h
 refine Call_ (K8 I hg hm boot_range (PyProof.Rows.callWith_type1 (thn (ha pos Ac s σ H _ I h) fun us s1 ⟨vs,H1,I1,r1,q1⟩=>?_) (by rw [hs,hs2]) (by rw [hs2];rfl)))
 obtain⟨n,e,hn,q⟩:=q1
 subst e
 cases r1 with
 | cons r rr =>
   cases rr with
   | cons r' rr =>
     cases rr with
     | cons r'' rr =>
     cases rr
     obtain⟨t,rfl⟩:=r
     obtain⟨t',rfl⟩:=r'
     obtain⟨t'',rfl⟩:=r''
     refine call_range_3 (by decide) ?_ (Or.inl (PyProof.noPylong_small (by omega)))
     refine wpAny_pyIter_range (IsRange.new ..) (b8 (by omega) (by omega) (by omega) (by omega)) ?_
     have I2:Inv X Ac σ H1 { s1 with heap:=s1.heap.push { cls:=.type "range",data:=.fields #[.int ((n:Int)-1) t,.int (-1) t',.int (-1) t''] },toks:=s1.toks }:=I1.kept fun b o e=>Heap.get?_push_of_some _ e
     refine⟨(s1.heap.push { cls:=.type "range",data:=.fields #[.int ((n:Int)-1) t,.int (-1) t',.int (-1) t''] }).objs.size,[_],_,_,H1,rfl,
      I2.kept (t':=s1.toks) fun b o e=>Heap.get?_push_of_some _ e,v9 _ ((n:Int)-1) n,?_,fun b hb=>?_,q⟩
     . have e1:((n:Int)-1)+((0:Nat):Int)*(-1)=(n:Int)-1:=by simp
       have e2:(n:Int)-((0:Nat):Int)=Builtin.Range.rangeSize ((n:Int)-1) (-1) (-1):=by rw [Jv];split<;>omega
       show IsRangeIter _ _ (((n:Int)-1)+((0:Nat):Int)*(-1)) ((n:Int)-((0:Nat):Int)) (-1)
       rw [e1,e2]
       exact Heap.get?_push_size _ rfl
     . have e:b=(s1.heap.push { cls:=.type "range",data:=.fields #[.int ((n:Int)-1) t,.int (-1) t',.int (-1) t''] }).objs.size:=by simpa using hb
       subst e
       exact I2.fpOk (Nat.le_refl _) (I2.hok.fresh (Nat.le_refl _))
theorem Aq2 {hi:Int}{n:Nat}{g:TG}{tb:TS}{D:Ends}{σ:St}{H:Hp} (Pv:Nat->St->Hp->Prop) (h0:Pv 0 σ H)
 (hs:∀ i σ H,i<n->Pv i σ H->g (.int (hi-i)) σ H fun σ2 H2=>tb { D with nx:=Pv (i+1),ct:=Pv (i+1),bk:=D.nx } σ2 H2) (hd:∀ σ H,Pv n σ H->D.nx σ H) :
 ∃ W:Nat->Nat->St->Hp->Prop,(∃ m,W 0 m σ H)/\∀ i m σ H,W i m σ H →
   ((Itd hi n).stop i H/\D.nx σ H)\/((Itd hi n).go i H/\∃ N:St->Hp->Prop,(∀ σ' H',N σ' H'->∃ m',m'<m/\W (i+1) m' σ' H')/\∀ x H',(Itd hi n).yld i H x H'->g x σ H' fun σ2 H2=>tb { D with nx:=N,ct:=N,bk:=D.nx } σ2 H2):=by
 refine⟨fun i m σ H=>m=n-i/\i<=n/\Pv i σ H,⟨n,by simp,Nat.zero_le _,h0⟩,?_⟩
 rintro i m σ H ⟨hm,hi',hp⟩
 by_cases hlt:i<n
 . refine .inr ⟨hlt,Pv (i+1),fun σ' H' h=>⟨n-(i+1),by omega,rfl,by omega,h⟩,?_⟩
   rintro x H' ⟨rfl,rfl⟩
   exact hs i σ _ hlt hp
 . refine .inl ⟨by show n<=i;omega,hd σ H (by have:i=n:=by omega
                                              subst this;exact hp)⟩
end L2
namespace Lat
open Hb
abbrev Mat:=Nat->Nat->Int
theorem Ay {f:Nat->Int}{n:Nat} (h:∀ k,k<n->f k=0):sumN f n=0:=by rw [Ak h,Os]
theorem Ba {f:Nat->Int}:∀{n j:Nat},j<n->(∀ k,k<n->k≠j->f k=0)->sumN f n=f j
 | n+1,j,hj,h=>by
   show sumN f n+f n=f j
   by_cases e:j=n
   . subst e
     rw [Ay fun k hk=>h k (by omega) (by omega)]
     omega
   . rw [Ba (n:=n) (j:=j) (by omega) fun k hk=>h k (by omega),h n (by omega) (fun z=>e z.symm)]
     omega
def In (w n:Nat) (R:Mat) (v:Nat->Int):Prop:=∃ x:Nat->Int,∀ c,c<w->v c=sumN (fun k=>x k*R k c) n
theorem In.row {w n:Nat}{R:Mat}{j:Nat} (hj:j<n):In w n R (R j):=⟨fun k=>if k=j then 1 else 0,fun c _=>by
 rw [Bo (fun k=>R k c) j n,if_pos hj]⟩
theorem In.zero (w n:Nat) (R:Mat):In w n R (fun _=>0):=⟨fun _=>0,fun c _=>by rw [Ay];intro k _;simp⟩
theorem In.mix {w n:Nat}{R:Mat}{u v:Nat->Int} (hu:In w n R u) (hv:In w n R v) (a b:Int):In w n R (fun c=>a*u c+b*v c):=by
 obtain⟨x,hx⟩:=hu
 obtain⟨y,hy⟩:=hv
 refine⟨fun k=>a*x k+b*y k,fun c hc=>?_⟩
 show a*u c+b*v c=_
 rw [hx c hc,hy c hc,←Au,←Au,←Bw]
 refine Ak fun k _=>?_
 rw [Int.add_mul,Int.mul_assoc,Int.mul_assoc]
theorem In.congr {w n:Nat}{R:Mat}{u v:Nat->Int} (hu:In w n R u) (h:∀ c,c<w->u c=v c):In w n R v:=by
 obtain⟨x,hx⟩:=hu
 exact ⟨x,fun c hc=>by rw [←h c hc];exact hx c hc⟩
structure Ey (w r:Nat) (R:Mat) (t:Nat->Nat):Prop where
 lt:∀ j,j<r->t j<w
 inc:∀ j k,j<k->k<r->t j<t k
 zero:∀ j c,j<r->c<t j->R j c=0
 pos:∀ j,j<r->0<R j (t j)
 red:∀ k j,k<j->j<r->0<=R k (t j)/\R k (t j)<R j (t j)
theorem Ey.mono {w r:Nat}{R:Mat}{t:Nat->Nat} (h:Ey w r R t):∀ j k,j<=k->k<r->t j<=t k:=fun j k h1 h2=>by
 rcases Nat.lt_or_ge j k with z | z
 . exact Nat.le_of_lt (h.inc j k z h2)
 . rw [show j=k by omega];exact Nat.le_refl _
theorem Ey.ge {w r:Nat}{R:Mat}{t:Nat->Nat} (h:Ey w r R t):∀ j,j<r->j<=t j
 | 0,_=>Nat.zero_le _
 | j+1,hj=>by
   have:=h.ge j (by omega)
   have:=h.inc j (j+1) (by omega) hj
   omega
theorem Ey.lead {w r:Nat}{R:Mat}{t:Nat->Nat} (h:Ey w r R t) {v x:Nat->Int} (hx:∀ c,c<w->v c=sumN (fun k=>x k*R k c) r) :
 ∀ j,j<=r->(∀ k,k<j->v (t k)=0)->(∀ k,k<j->x k=0)/\(j<r->v (t j)=x j*R j (t j)):=by
 intro j
 induction j with
 | zero =>
   intro _ _
   refine⟨fun k hk=>by omega,fun hr=>?_⟩
   rw [hx _ (h.lt 0 hr),Ba hr fun k hk hne=>?_]
   rw [h.zero k _ hk (h.inc 0 k (by omega) hk)]
   simp
 | succ j ih =>
   intro hj hv
   obtain⟨h1,h2⟩:=ih (by omega) fun k hk=>hv k (by omega)
   have hxj:x j=0:=by
    have e:=h2 (by omega)
    rw [hv j (by omega)] at e
    rcases Int.mul_eq_zero.mp e.symm with z | z
    . exact z
    . have:=h.pos j (by omega);omega
   have hall:∀ k,k<j+1->x k=0:=fun k hk=>by
    by_cases e:k=j
    . rw [e];exact hxj
    . exact h1 k (by omega)
   refine⟨hall,fun hr=>?_⟩
   rw [hx _ (h.lt _ hr),Ba hr fun k hk hne=>?_]
   by_cases e:k<j+1
   . rw [hall k e];simp
   . rw [h.zero k _ hk (h.inc (j+1) k (by omega) hk)]
     simp
theorem Ey.only {w r:Nat}{R:Mat}{t:Nat->Nat} (h:Ey w r R t) {v:Nat->Int} (hv:In w r R v) {j:Nat} (hj:j<r) (h0:∀ k,k<j->v (t k)=0) (h1:v (t j)=R j (t j)) (h2:∀ k,j<k->k<r->v (t k)=0):∀ c,c<w->v c=R j c:=by
 obtain⟨x,hx⟩:=hv
 obtain⟨a1,a2⟩:=h.lead hx j (by omega) h0
 have xj:x j=1:=by
  have e:=a2 hj
  rw [h1] at e
  have p:=h.pos j hj
  have:(x j-1)*R j (t j)=0:=by rw [Int.sub_mul];omega
  rcases Int.mul_eq_zero.mp this with z | z<;>omega
 have rest:∀ m,m<=r->∀ k,j<k->k<m->x k=0:=by
  intro m
  induction m with
  | zero=>intro _ k _ hk;omega
  | succ m ih =>
    intro hm k hjk hk
    by_cases e:k<m
    . exact ih (by omega) k hjk e
    have ek:k=m:=by omega
    subst ek
    have hv2:=h2 k hjk (by omega)
    have e2:v (t k)=R j (t k)+x k*R k (t k):=by
     rw [hx _ (h.lt k (by omega))]
     have:sumN (fun i=>x i*R i (t k)) r=sumN (fun i=>((if i=j then 1 else 0)*R i (t k))+((if i=k then 1 else 0)*(x k*R k (t k)))) r:=by
      refine Ak fun i hi=>?_
      by_cases e1:i=j
      . subst e1
        rw [xj,if_pos rfl,if_neg (by omega)]
        simp
      . rw [if_neg e1]
        by_cases e3:i=k
        . subst e3
          rw [if_pos rfl]
          simp
        . rw [if_neg e3]
          by_cases e4:i<j
          . rw [a1 i e4];simp
          . by_cases e5:i<k
            . rw [ih (by omega) i (by omega) e5];simp
            . rw [h.zero i _ hi (h.inc k i (by omega) hi)];simp
     rw [this,Bw,Bo (fun i=>R i (t k)) j r,if_pos hj,Bo (fun _=>x k*R k (t k)) k r,if_pos (by omega)]
    rw [hv2] at e2
    obtain⟨r0,r1⟩:=h.red j k hjk (by omega)
    have p:=h.pos k (by omega)
    rcases Int.lt_trichotomy (x k) 0 with z | z | z
    . have:x k*R k (t k)<=-1*R k (t k):=Int.mul_le_mul_of_nonneg_right (by omega) (by omega)
      omega
    . exact z
    . have:1*R k (t k)<=x k*R k (t k):=Int.mul_le_mul_of_nonneg_right (by omega) (by omega)
      omega
 intro c hc
 rw [hx c hc,Ba hj fun k hk hne=>?_,xj,Int.one_mul]
 by_cases e:k<j
 . rw [a1 k e];simp
 . rw [rest r (Nat.le_refl _) k (by omega) hk];simp
structure Cn (n w:Nat) (T T':Mat):Prop where
 fwd:∀ i,i<n->In w n T (T' i)
 bwd:∀ i,i<n->In w n T' (T i)
 st:∃ r t,r<=n/\Ey w r T' t/\∀ i c,r<=i->i<n->c<w->T' i c=0
theorem In.sub {w n r:Nat}{R:Mat}{v:Nat->Int} (h:In w n R v) (hr:r<=n) (hz:∀ i c,r<=i->i<n->c<w->R i c=0):In w r R v:=by
 obtain⟨x,hx⟩:=h
 refine⟨x,fun c hc=>?_⟩
 rw [hx c hc]
 have:∀ m,r<=m->m<=n->sumN (fun k=>x k*R k c) m=sumN (fun k=>x k*R k c) r:=by
  intro m
  induction m with
  | zero=>intro h1 _;rw [show r=0 by omega]
  | succ m ih =>
    intro h1 h2
    by_cases e:r=m+1
    . rw [e]
    . show sumN _ m+x m*R m c=_
      rw [ih (by omega) (by omega),hz m c (by omega) (by omega) hc]
      simp
 exact this n hr (Nat.le_refl _)
def Mx (n w k:Nat) (T:Mat):Prop:=k<=n/\k<=w/\(∀ j,j<k->0<T j j)/\(∀ j c,j<k->c<w->c≠j->T j c=0)/\(∀ i j,i<n->j<k->i≠j->T i j=0)
theorem Mx.flip {n w k:Nat}{T:Mat} (h:Mx n w k T):Mx w n k (fun i j=>T j i):=⟨h.2.1,h.1,h.2.2.1,fun j c hj hc hne=>h.2.2.2.2 c j hc hj hne,fun i j hi hj hne=>h.2.2.2.1 j i hj hi hne⟩
def Ar6 (n w k:Nat) (T:Mat):Prop:=Mx n w k T/\k<n/\k<w/\0<T k k/\∀ c,c<w->c≠k->T k c=0
theorem Cn.keep {n w:Nat}{T T':Mat} (s:Cn n w T T'):∀{k:Nat},Mx n w k T->Mx n w k T'/\(∀ j c,j<k->c<w->T' j c=T j c)/\∀ r t,r<=n->Ey w r T' t->(∀ i c,r<=i->i<n->c<w->T' i c=0)->k<=r/\∀ j,j<k->t j=j:=by
 intro k
 induction k with
 | zero =>
   intro h
   exact ⟨⟨Nat.zero_le _,Nat.zero_le _,fun j hj=>by omega,fun j c hj=>by omega,fun i j _ hj=>by omega⟩,fun j c hj=>by omega,fun r t _ _ _=>⟨Nat.zero_le _,fun j hj=>by omega⟩⟩
 | succ k ih =>
   intro h
   obtain⟨hn,hw,hp,hr,hc⟩:=h
   obtain⟨c1,c2,c3⟩:=ih ⟨by omega,by omega,fun j hj=>hp j (by omega),fun j c hj=>hr j c (by omega),fun i j hi hj=>hc i j hi (by omega)⟩
   have key:∀ r t,r<=n->Ey w r T' t->(∀ i c,r<=i->i<n->c<w->T' i c=0)->k<r/\t k=k/\(∀ c,c<w->T' k c=T k c):=by
    intro r t hrn hst hz
    obtain⟨kr,ht⟩:=c3 r t hrn hst hz
    have hin:=(s.bwd k (by omega)).sub hrn hz
    obtain⟨x,hx⟩:=id hin
    have v0:∀ l,l<k->T k (t l)=0:=fun l hl=>by rw [ht l hl];exact hc k l (by omega) (by omega) (by omega)
    obtain⟨x0,_⟩:=hst.lead hx k kr v0
    have hpk:=hp k (by omega)
    have hlt:k<r:=by
     refine Nat.lt_of_not_le fun z=>?_
     have:T k k=0:=by
      rw [hx k (by omega)]
      exact Ay fun l hl=>by rw [x0 l (by omega)];simp
     omega
    have htk:t k=k:=by
     have g:=hst.ge k hlt
     refine Nat.le_antisymm (Nat.le_of_not_lt fun z=>?_) g
     have:T k k=0:=by
      rw [hx k (by omega)]
      refine Ay fun l hl=>?_
      by_cases e:l<k
      . rw [x0 l e];simp
      . rw [hst.zero l k hl (Nat.lt_of_lt_of_le z (hst.mono k l (by omega) hl))];simp
     omega
    obtain⟨_,a2⟩:=hst.lead hx k kr v0
    have e1:=a2 hlt
    rw [htk] at e1
    have pk:=hst.pos k hlt
    rw [htk] at pk
    obtain⟨y,hy⟩:=s.fwd k (by omega)
    have e2:T' k k=y k*T k k:=by
     rw [hy k (by omega)]
     exact Ba (by omega) fun l hl hne=>by rw [hc l k hl (by omega) hne];simp
    have same:T k k=T' k k:=by
     have d1:T' k k∣T k k:=⟨x k,by rw [e1,Int.mul_comm]⟩
     have d2:T k k∣T' k k:=⟨y k,by rw [e2,Int.mul_comm]⟩
     exact Int.le_antisymm (Int.le_of_dvd pk d2) (Int.le_of_dvd hpk d1)
    refine⟨hlt,htk,fun c hcw=>?_⟩
    exact (hst.only hin hlt v0 (by rw [htk];exact same) (fun l hl1 hl2=>hr k (t l) (by omega) (hst.lt l hl2) (by have:=hst.inc k l hl1 hl2;omega)) c hcw).symm
   obtain⟨r,t,hrn,hst,hz⟩:=s.st
   obtain⟨k1,k2,k3⟩:=key r t hrn hst hz
   refine⟨⟨hn,hw,fun j hj=>?_,fun j c hj hcw hne=>?_,fun i j hi hj hne=>?_⟩,fun j c hj hcw=>?_,fun r t hrn hst hz=>?_⟩
   . by_cases e:j=k
     . subst e;rw [k3 j (by omega)];exact hp j (by omega)
     . exact c1.2.2.1 j (by omega)
   . by_cases e:j=k
     . subst e;rw [k3 c hcw];exact hr j c (by omega) hcw hne
     . exact c1.2.2.2.1 j c (by omega) hcw hne
   . by_cases e:j=k
     . subst e
       by_cases e2:i<j
       . exact c1.2.2.2.1 i j e2 (by omega) (by omega)
       . by_cases e3:i<r
         . exact hst.zero i j e3 (by have:=hst.inc j i (by omega) e3;omega)
         . exact hz i j (by omega) hi (by omega)
     . exact c1.2.2.2.2 i j hi (by omega) hne
   . by_cases e:j=k
     . subst e;exact k3 c hcw
     . exact c2 j c (by omega) hcw
   . obtain⟨a,b,_⟩:=key r t hrn hst hz
     obtain⟨_,ht⟩:=c3 r t hrn hst hz
     refine⟨a,fun j hj=>?_⟩
     by_cases e:j=k
     . rw [e];exact b
     . exact ht j (by omega)
def Step (n w:Nat) (T T'':Mat):Prop:=∃ T',Cn n w T T'/\Cn w n (fun i j=>T' j i) (fun i j=>T'' j i)
def Straight (n w:Nat) (T:Mat):Prop:=∀ i j,i<n->j<w->i≠j->T i j=0
theorem Step.next {n w k:Nat}{T T'':Mat} (s:Step n w T T'') (h:Mx n w k T):Mx n w k T''/\(Straight n w T''\/Ar6 n w k T''):=by
 obtain⟨T',s1,s2⟩:=s
 obtain⟨h1,_,h3⟩:=s1.keep h
 obtain⟨g1,_,g3⟩:=s2.keep h1.flip
 have hc:Mx n w k T'':=g1.flip
 refine⟨hc,?_⟩
 obtain⟨r,t,hrn,hst,hz⟩:=s1.st
 obtain⟨q,u,hqw,hsu,hzu⟩:=s2.st
 obtain⟨kr,ht⟩:=h3 r t hrn hst hz
 obtain⟨kq,hu⟩:=g3 q u hqw hsu hzu
 by_cases e:k<r
 . right
   have p:=hst.pos k e
   have tw:=hst.lt k e
   have tk:k<=t k:=hst.ge k e
   have hin:=(s2.bwd (t k) tw).sub hqw hzu
   obtain⟨x,hx⟩:=id hin
   have v0:∀ l,l<k->(fun j=>T' j (t k)) (u l)=0:=fun l hl=>by
    show T' (u l) (t k)=0
    rw [hu l hl]
    exact h1.2.2.2.1 l (t k) hl tw (by omega)
   obtain⟨x0,_⟩:=hsu.lead hx k kq v0
   have hkn:k<n:=by omega
   have kq2:k<q:=by
    refine Nat.lt_of_not_le fun z=>?_
    have:T' k (t k)=0:=by
     show (fun j=>T' j (t k)) k=0
     rw [hx k hkn]
     exact Ay fun l hl=>by rw [x0 l (by omega)];simp
    omega
   have huk:u k=k:=by
    refine Nat.le_antisymm (Nat.le_of_not_lt fun z=>?_) (hsu.ge k kq2)
    have:T' k (t k)=0:=by
     show (fun j=>T' j (t k)) k=0
     rw [hx k hkn]
     refine Ay fun l hl=>?_
     by_cases e2:l<k
     . rw [x0 l e2];simp
     . show x l*T'' k l=0
       rw [show T'' k l=0 from hsu.zero l k hl (Nat.lt_of_lt_of_le z (hsu.mono k l (by omega) hl))];simp
    omega
   have p2:=hsu.pos k kq2
   rw [huk] at p2
   refine⟨hc,hkn,by omega,p2,fun c hcw hne=>?_⟩
   rcases Nat.lt_or_ge c k with z | z
   . exact hc.2.2.2.2 k c hkn z (by omega)
   . by_cases e3:c<q
     . exact hsu.zero c k e3 (by have:=hsu.inc k c (by omega) e3;omega)
     . exact hzu c k (by omega) hcw hkn
 . left
   have T'0:∀ i c,k<=i->i<n->c<w->T' i c=0:=fun i c hi hin hcw=>hz i c (by omega) hin hcw
   intro i j hi hj hne
   rcases Nat.lt_or_ge i k with z | z
   . exact hc.2.2.2.1 i j z hj (fun w=>hne w.symm)
   . obtain⟨y,hy⟩:=s2.fwd j hj
     have:T'' i j=sumN (fun l=>y l*T' i l) w:=hy i hi
     rw [this]
     exact Ay fun l hl=>by rw [T'0 i l z hi hl];simp
theorem Step.less {n w k:Nat}{T T'':Mat} (s:Step n w T T'') (h:Ar6 n w k T):Mx n w (k+1) T''\/(Ar6 n w k T''/\T'' k k∣T k k/\T'' k k<T k k):=by
 obtain⟨hcl,hn,hw,hp,hr⟩:=h
 have s0:=s
 obtain⟨T',s1,s2⟩:=s
 obtain⟨h1,_,h3⟩:=s1.keep hcl
 obtain⟨r,t,hrn,hst,hz⟩:=s1.st
 obtain⟨kr,ht⟩:=h3 r t hrn hst hz
 have hin:=(s1.bwd k hn).sub hrn hz
 obtain⟨x,hx⟩:=id hin
 have v0:∀ l,l<k->T k (t l)=0:=fun l hl=>by rw [ht l hl];exact hr l (by omega) (by omega)
 obtain⟨x0,a2⟩:=hst.lead hx k kr v0
 have hlt:k<r:=by
  refine Nat.lt_of_not_le fun z=>?_
  have:T k k=0:=by
   rw [hx k hw]
   exact Ay fun l hl=>by rw [x0 l (by omega)];simp
  omega
 have htk:t k=k:=by
  refine Nat.le_antisymm (Nat.le_of_not_lt fun z=>?_) (hst.ge k hlt)
  have:T k k=0:=by
   rw [hx k hw]
   refine Ay fun l hl=>?_
   by_cases e:l<k
   . rw [x0 l e];simp
   . rw [hst.zero l k hl (Nat.lt_of_lt_of_le z (hst.mono k l (by omega) hl))];simp
  omega
 have e1:=a2 hlt
 rw [htk] at e1
 have pk:=hst.pos k hlt
 rw [htk] at pk
 have d1:T' k k∣T k k:=⟨x k,by rw [e1,Int.mul_comm]⟩
 have le1:=Int.le_of_dvd hp d1
 have A00:∀ i,i<n->i≠k->T' i k=0:=fun i hi hne=>by
  rcases Nat.lt_or_ge i k with z | z
  . exact h1.2.2.2.1 i k z hw (by omega)
  . by_cases e3:i<r
    . exact hst.zero i k e3 (by have:=hst.inc k i (by omega) e3;omega)
    . exact hz i k (by omega) hi hw
 by_cases same:T' k k=T k k
 . left
   have row:∀ c,c<w->T k c=T' k c:=hst.only hin hlt v0 (by rw [htk];exact same.symm) (fun l hl1 hl2=>hr (t l) (hst.lt l hl2) (by have:=hst.inc k l hl1 hl2;omega))
   have cl':Mx n w (k+1) T':=by
    refine⟨by omega,by omega,fun j hj=>?_,fun j c hj hcw hne=>?_,fun i j hi hj hne=>?_⟩
    . by_cases e:j=k
      . subst e;exact pk
      . exact h1.2.2.1 j (by omega)
    . by_cases e:j=k
      . subst e;rw [←row c hcw];exact hr c hcw hne
      . exact h1.2.2.2.1 j c (by omega) hcw hne
    . by_cases e:j=k
      . subst e;exact A00 i hi hne
      . exact h1.2.2.2.2 i j hi (by omega) hne
   exact (s2.keep cl'.flip).1.flip
 . right
   have lt1:T' k k<T k k:=by omega
   obtain⟨hc2,q2⟩:=s0.next hcl
   obtain⟨g1,_,g3⟩:=s2.keep h1.flip
   obtain⟨q,u,hqw,hsu,hzu⟩:=s2.st
   obtain⟨kq,hu⟩:=g3 q u hqw hsu hzu
   have hin2:=(s2.bwd k hw).sub hqw hzu
   obtain⟨y,hy⟩:=id hin2
   have w0:∀ l,l<k->(fun j=>T' j k) (u l)=0:=fun l hl=>by
    show T' (u l) k=0
    rw [hu l hl]
    exact h1.2.2.2.1 l k hl hw (by omega)
   obtain⟨y0,b2⟩:=hsu.lead hy k kq w0
   have hyk:T' k k=sumN (fun l=>y l*T'' k l) q:=hy k hn
   have kq2:k<q:=by
    refine Nat.lt_of_not_le fun z=>?_
    have:T' k k=0:=by
     rw [hyk]
     exact Ay fun l hl=>by rw [y0 l (by omega)];simp
    omega
   have huk:u k=k:=by
    refine Nat.le_antisymm (Nat.le_of_not_lt fun z=>?_) (hsu.ge k kq2)
    have:T' k k=0:=by
     rw [hyk]
     refine Ay fun l hl=>?_
     by_cases e2:l<k
     . rw [y0 l e2];simp
     . rw [show T'' k l=0 from hsu.zero l k hl (Nat.lt_of_lt_of_le z (hsu.mono k l (by omega) hl))];simp
    omega
   have e3:T' (u k) k=y k*T'' (u k) k:=b2 kq2
   rw [huk] at e3
   have p2:0<T'' (u k) k:=hsu.pos k kq2
   rw [huk] at p2
   have d2:T'' k k∣T' k k:=⟨y k,by rw [e3,Int.mul_comm]⟩
   have le2:=Int.le_of_dvd pk d2
   refine⟨⟨hc2,hn,hw,p2,fun c hcw hne=>?_⟩,Int.dvd_trans d2 d1,by omega⟩
   rcases Nat.lt_or_ge c k with z | z
   . exact hc2.2.2.2.2 k c hn z (by omega)
   . by_cases e4:c<q
     . exact hsu.zero c k e4 (by have:=hsu.inc k c (by omega) e4;omega)
     . exact hzu c k (by omega) hcw hn
end Lat
namespace Lat
open Hb
def sgi (i:Nat):Int:=if i%2=0 then 1 else -1
theorem Ti (i:Nat):sgi (i+1)=- sgi i:=by
 unfold sgi
 by_cases h:i%2=0
 . rw [if_neg (by omega),if_pos h]
 . rw [if_pos (by omega),if_neg h];rfl
theorem O0 (i:Nat):(sgi i).natAbs=1:=by unfold sgi;split<;>rfl
def minr (A:Mat) (i:Nat):Mat:=fun r c=>A (if r<i then r else r+1) (c+1)
def det:Nat->Mat->Int
 | 0,_=>1
 | n+1,A=>sumN (fun i=>sgi i*A i 0*det n (minr A i)) (n+1)
theorem Bc:∀{n:Nat}{A B:Mat},(∀ r c,r<n->c<n->A r c=B r c)->det n A=det n B
 | 0,_,_,_=>rfl
 | n+1,A,B,h=>by
   refine Ak fun i hi=>?_
   rw [h i 0 hi (by omega),Bc (n:=n) (A:=minr A i) (B:=minr B i)]
   intro r c hr hc
   exact h _ _ (by split<;>omega) (by omega)
def setR (A:Mat) (p:Nat) (u:Nat->Int):Mat:=fun r c=>if r=p then u c else A r c
theorem At (A:Mat) (p:Nat) (u:Nat->Int) (c:Nat):setR A p u p c=u c:=if_pos rfl
theorem A1 {A:Mat}{p r:Nat}{u:Nat->Int} (h:r≠p) (c:Nat):setR A p u r c=A r c:=if_neg h
theorem Ol {A:Mat}{p i:Nat}{u:Nat->Int} (h:i≠p):minr (setR A p u) i=setR (minr A i) (if p<i then p else p-1) (fun c=>u (c+1)):=by
 funext r c
 show (if (if r<i then r else r+1)=p then u (c+1) else A (if r<i then r else r+1) (c+1))=if r=(if p<i then p else p-1) then u (c+1) else A (if r<i then r else r+1) (c+1)
 have e:((if r<i then r else r+1)=p)↔(r=(if p<i then p else p-1)):=by
  split<;>split<;>omega
 by_cases z:r=(if p<i then p else p-1)
 . rw [if_pos z,if_pos (e.mpr z)]
 . rw [if_neg z,if_neg fun w=>z (e.mp w)]
theorem Es {A:Mat}{p:Nat}{u:Nat->Int}:minr (setR A p u) p=minr A p:=by
 funext r c
 show (if (if r<p then r else r+1)=p then u (c+1) else A (if r<p then r else r+1) (c+1))=A (if r<p then r else r+1) (c+1)
 rw [if_neg (by split<;>omega)]
theorem Cy:∀{n p:Nat} (A:Mat) (u v:Nat->Int) (a b:Int),p<n->det n (setR A p fun c=>a*u c+b*v c)=a*det n (setR A p u)+b*det n (setR A p v)
 | n+1,p,A,u,v,a,b,hp=>by
   show sumN _ (n+1)=a*sumN _ (n+1)+b*sumN _ (n+1)
   rw [←Au,←Au,←Bw]
   refine Ak fun i hi=>?_
   by_cases e:i=p
   . subst e
     rw [At,At,At,Es,Es,Es]
     grind
   . rw [A1 e,A1 e,A1 e,Ol e,Ol e,Ol e]
     rw [Cy (minr A i) (fun c=>u (c+1)) (fun c=>v (c+1)) a b (by split<;>omega)]
     grind
theorem Eh (A:Mat) (p:Nat):setR A p (A p)=A:=by
 funext r c
 unfold setR
 split
 . rename_i h;rw [h]
 . rfl
theorem Bi {A:Mat}{p q:Nat} (h:p≠q) (u v:Nat->Int):setR (setR A p u) q v=setR (setR A q v) p u:=by
 funext r c
 unfold setR
 by_cases e:r=q
 . rw [if_pos e,if_neg (by omega),if_pos e]
 . rw [if_neg e,if_neg e]
theorem Ym:∀{n p:Nat}{A:Mat},p+1<n->(∀ c,c<n->A p c=A (p+1) c)->det n A=0
 | n+1,p,A,hp,h=>by
   show sumN (fun i=>sgi i*A i 0*det n (minr A i)) (n+1)=0
   have same:det n (minr A p)=det n (minr A (p+1)):=Bc fun r c hr hc=>by
    show A (if r<p then r else r+1) (c+1)=A (if r<p+1 then r else r+1) (c+1)
    by_cases e:r=p
    . subst e
      rw [if_neg (by omega),if_pos (by omega)]
      exact (h _ (by omega)).symm
    . by_cases e2:r<p
      . rw [if_pos e2,if_pos (by omega)]
      . rw [if_neg e2,if_neg (by omega)]
   have two:sumN (fun i=>sgi i*A i 0*det n (minr A i)) (n+1)=sumN (fun i=>((if i=p then 1 else 0)*(sgi p*A p 0*det n (minr A p)))+((if i=p+1 then 1 else 0)*(sgi (p+1)*A (p+1) 0*det n (minr A (p+1))))) (n+1):=by
    refine Ak fun i hi=>?_
    by_cases e1:i=p
    . subst e1
      rw [if_pos rfl,if_neg (by omega)]
      simp
    . by_cases e2:i=p+1
      . subst e2
        rw [if_neg (by omega),if_pos rfl]
        simp
      . rw [if_neg e1,if_neg e2]
        have z:det n (minr A i)=0:=by
         refine Ym (p:=if p<i then p else p-1) (by split<;>omega) fun c hc=>?_
         show A (if (if p<i then p else p-1)<i then (if p<i then p else p-1) else (if p<i then p else p-1)+1) (c+1)=A (if (if p<i then p else p-1)+1<i then (if p<i then p else p-1)+1 else (if p<i then p else p-1)+1+1) (c+1)
         by_cases e3:p<i
         . rw [if_pos e3,if_pos e3,if_pos (by omega)]
           exact h _ (by omega)
         . rw [if_neg e3,if_neg (by omega),if_neg (by omega),show p-1+1=p by omega]
           exact h _ (by omega)
        rw [z]
        simp
   rw [two,Bw,Bo (fun _=>sgi p*A p 0*det n (minr A p)) p (n+1),if_pos (by omega),Bo (fun _=>sgi (p+1)*A (p+1) 0*det n (minr A (p+1))) (p+1) (n+1),if_pos (by omega)]
   rw [Ti,←same,←h 0 (by omega)]
   grind
theorem Wc {n p:Nat}{A:Mat} (hp:p+1<n) (u v:Nat->Int):det n (setR (setR A p u) (p+1) v)=- det n (setR (setR A p v) (p+1) u):=by
 have ne:p≠p+1:=by omega
 have z:∀ w:Nat->Int,det n (setR (setR A p w) (p+1) w)=0:=fun w=>Ym hp fun c _=>by rw [A1 ne,At,At]
 have e0:=z fun c=>1*u c+1*v c
 rw [Cy (setR A p _) u v 1 1 hp,Bi ne,Bi ne,Cy (setR A (p+1) u) u v 1 1 (by omega),Cy (setR A (p+1) v) u v 1 1 (by omega)] at e0
 rw [←Bi ne,←Bi ne,←Bi ne,←Bi ne,z u,z v] at e0
 omega
theorem Yl:∀ (d:Nat) {n p:Nat}{A:Mat},p+d+1<n->(∀ c,c<n->A p c=A (p+d+1) c)->det n A=0
 | 0,n,p,A,hp,h=>Ym hp h
 | d+1,n,p,A,hp,h=>by
   have e:A=setR (setR A (p+d+1) (A (p+d+1))) (p+d+1+1) (A (p+d+1+1)):=by rw [Eh,Eh]
   rw [e,Wc (by omega)]
   rw [Yl d (p:=p) (by omega) fun c hc=>?_]
   . rfl
   . rw [A1 (by omega),A1 (by omega),A1 (by omega),At]
     exact h c hc
theorem C4 {n p q:Nat}{A:Mat} (hp:p<n) (hq:q<n) (hne:p≠q) (h:∀ c,c<n->A p c=A q c):det n A=0:=by
 rcases Nat.lt_or_ge p q with z | z
 . exact Yl (q-p-1) (p:=p) (by omega) (by rw [show p+(q-p-1)+1=q by omega];exact h)
 . exact Yl (p-q-1) (p:=q) (by omega) (by rw [show q+(p-q-1)+1=p by omega];exact fun c hc=>(h c hc).symm)
theorem Az2 {n p q:Nat} (A:Mat) (hp:p<n) (hq:q<n) (hne:p≠q) (k:Int):det n (setR A p fun c=>A p c+k*A q c)=det n A:=by
 have:=Cy A (A p) (A q) 1 k hp
 rw [Eh,C4 (A:=setR A p (A q)) hp hq hne fun c _=>by rw [At,A1 (fun z=>hne z.symm)]] at this
 rw [←show (fun c=>1*A p c+k*A q c)=fun c=>A p c+k*A q c from funext fun c=>by rw [Int.one_mul],this]
 omega
theorem Zx {n p q:Nat}{A:Mat} (hp:p<n) (hq:q<n) (ne:p≠q) (u v:Nat->Int):det n (setR (setR A p u) q v)=- det n (setR (setR A p v) q u):=by
 have z:∀ w:Nat->Int,det n (setR (setR A p w) q w)=0:=fun w=>C4 hp hq ne fun c _=>by rw [A1 ne,At,At]
 have e0:=z fun c=>1*u c+1*v c
 rw [Cy (setR A p _) u v 1 1 hq,Bi ne,Bi ne,Cy (setR A q u) u v 1 1 hp,Cy (setR A q v) u v 1 1 hp] at e0
 rw [←Bi ne,←Bi ne,←Bi ne,←Bi ne,z u,z v] at e0
 omega
theorem Ah3 {n p:Nat} (A:Mat) (hp:p<n):det n (setR A p fun c=>- A p c)=- det n A:=by
 have:=Cy A (A p) (A p) (-1) 0 hp
 rw [Eh] at this
 rw [show (fun c=>- A p c)=fun c=>-1*A p c+0*A p c from funext fun c=>by omega,this]
 omega
theorem Ah4 {n p q:Nat} (A:Mat) (hp:p<n) (hq:q<n) (ne:p≠q) (a b c d:Int) (h:a*d-b*c=1) :
 det n (setR (setR A p fun k=>a*A p k+b*A q k) q fun k=>c*A p k+d*A q k)=det n A:=by
 have z:∀ w:Nat->Int,det n (setR (setR A p w) q w)=0:=fun w=>C4 hp hq ne fun c _=>by rw [A1 ne,At,At]
 have e:det n (setR (setR A p (A p)) q (A q))=det n A:=by rw [Eh,Eh]
 have e2:=Zx (A:=A) hp hq ne (A p) (A q)
 rw [Cy _ (A p) (A q) c d hq,Bi ne,Bi ne,Cy (setR A q (A p)) (A p) (A q) a b hp,Cy (setR A q (A q)) (A p) (A q) a b hp]
 rw [←Bi ne,←Bi ne,←Bi ne,←Bi ne,z (A p),z (A q)]
 rw [e] at e2 ⊢
 have e3:det n (setR (setR A p (A q)) q (A p))=- det n A:=by omega
 rw [e3]
 grind
def prodN (f:Nat->Int):Nat->Int
 | 0=>1
 | n+1=>prodN f n*f n
theorem O9 (f:Nat->Int):∀ n,prodN f (n+1)=f 0*prodN (fun k=>f (k+1)) n
 | 0=>by simp [prodN]
 | n+1=>by
   show prodN f (n+1)*f (n+1)=f 0*(prodN (fun k=>f (k+1)) n*f (n+1))
   rw [O9 f n,Int.mul_assoc]
theorem P4:∀{n:Nat}{A:Mat},(∀ r c,r<n->c<r->A r c=0)->det n A=prodN (fun j=>A j j) n
 | 0,_,_=>rfl
 | n+1,A,h=>by
   show sumN (fun i=>sgi i*A i 0*det n (minr A i)) (n+1)=_
   rw [Ba (j:=0) (by omega) fun k hk hne=>by rw [h k 0 hk (by omega)];simp,O9]
   rw [P4 (n:=n) (A:=minr A 0) fun r c hr hc=>by
    show A (if r<0 then r else r+1) (c+1)=0
    rw [if_neg (by omega)]
    exact h _ _ (by omega) (by omega)]
   show 1*A 0 0*prodN (fun j=>A (if j<0 then j else j+1) (j+1)) n=_
   rw [Int.one_mul]
   rfl
def fac:Nat->Nat
 | 0=>1
 | n+1=>(n+1)*fac n
theorem S6 {f:Nat->Int}{M:Nat}:∀{n:Nat},(∀ k,k<n->(f k).natAbs<=M)->(sumN f n).natAbs<=n*M
 | 0,_=>by simp [sumN]
 | n+1,h=>by
   have a:=S6 (n:=n) fun k hk=>h k (by omega)
   have b:=h n (by omega)
   have c:=Int.natAbs_add_le (sumN f n) (f n)
   show (sumN f n+f n).natAbs<=(n+1)*M
   rw [Nat.add_mul,Nat.one_mul]
   omega
theorem At1:∀{n:Nat}{A:Mat}{B:Nat},(∀ r c,r<n->c<n->(A r c).natAbs<=B)->(det n A).natAbs<=fac n*B ^ n
 | 0,_,_,_=>by simp [det,fac]
 | n+1,A,B,h=>by
   show (sumN _ (n+1)).natAbs<=(n+1)*fac n*B ^ (n+1)
   have:(sumN (fun i=>sgi i*A i 0*det n (minr A i)) (n+1)).natAbs<=(n+1)*(B*(fac n*B ^ n)):=by
    refine S6 fun i hi=>?_
    rw [Int.natAbs_mul,Int.natAbs_mul,O0,Nat.one_mul]
    exact Nat.mul_le_mul (h i 0 hi (by omega)) (At1 fun r c hr hc=>h _ _ (by split<;>omega) (by omega))
   refine Nat.le_trans this (Nat.le_of_eq ?_)
   rw [Nat.pow_succ]
   grind
end Lat
namespace Lat
open Hb
structure Ga (i:Nat) (R:Mat) (t:Nat->Nat):Prop where
 inc:∀ j k,j<k->k<i->t j<t k
 zero:∀ j c,j<i->c<t j->R j c=0
 pos:∀ j,j<i->0<R j (t j)
theorem Ey.s0 {w r:Nat}{R:Mat}{t:Nat->Nat} (h:Ey w r R t):Ga r R t:=⟨h.inc,h.zero,h.pos⟩
theorem Ga.low {i:Nat}{R:Mat}{t:Nat->Nat} (h:Ga i R t) {j l:Nat} (hj:j<i) (hl:l<j):R j (t l)=0:=h.zero j _ hj (h.inc l j hl hj)
theorem Hm:∀{n p:Nat}{A:Mat},p<n->(∀ c,c<n->A p c=0)->det n A=0:=fun {n p A} hp h=>by
 have:=Cy A (A p) (A p) 0 0 hp
 rw [show (fun c=>0*A p c+0*A p c)=fun _=>(0:Int) from funext fun c=>by omega] at this
 rw [show det n A=det n (setR A p fun _=>0) from Bc fun r c hr hc=>by
  unfold setR
  split
  . rename_i e;rw [e];exact h c hc
  . rfl,this]
 omega
theorem Bf {f:Nat->Int}:∀{n:Nat},(∀ k,k<n->0<f k)->0<prodN f n
 | 0,_=>by show (0:Int)<1;decide
 | n+1,h=>Int.mul_pos (Bf fun k hk=>h k (by omega)) (h n (by omega))
def pb (R:Mat) (t:Nat->Nat) (k:Nat):Nat->Int
 | 0=>1
 | m+1=>R (k+1+m) (t (k+1+m))*pb R t k m
def clr (R:Mat) (t:Nat->Nat) (k:Nat):Nat->(Nat->Int)
 | 0=>R k
 | m+1=>fun c=>R (k+1+m) (t (k+1+m))*clr R t k m c+(-(clr R t k m (t (k+1+m))))*R (k+1+m) c
section
variable {i:Nat}{R:Mat}{t:Nat->Nat} (h:Ga i R t)
include h
theorem As4 {k:Nat}:∀{m:Nat},k+m<i->0<pb R t k m
 | 0,_=>by show (0:Int)<1;decide
 | m+1,hm=>Int.mul_pos (h.pos _ (by omega)) (As4 (by omega))
theorem Y1 {k l:Nat} (hl:l<k):∀{m:Nat},k+m<i->clr R t k m (t l)=0
 | 0,hm=>h.low hm hl
 | m+1,hm=>by
   show R (k+1+m) (t (k+1+m))*clr R t k m (t l)+(-(clr R t k m (t (k+1+m))))*R (k+1+m) (t l)=0
   rw [Y1 hl (by omega),h.low (j:=k+1+m) (l:=l) (by omega) (by omega)]
   simp
theorem Zy {k:Nat}:∀{m:Nat},k+m<i->clr R t k m (t k)=pb R t k m*R k (t k)
 | 0,_=>by show R k (t k)=1*R k (t k);omega
 | m+1,hm=>by
   show R (k+1+m) (t (k+1+m))*clr R t k m (t k)+(-(clr R t k m (t (k+1+m))))*R (k+1+m) (t k)=R (k+1+m) (t (k+1+m))*pb R t k m*R k (t k)
   rw [Zy (by omega),h.low (j:=k+1+m) (l:=k) (by omega) (by omega),Int.mul_assoc]
   simp
theorem Y0 {k:Nat}:∀{m l:Nat},k+m<i->k<l->l<=k+m->clr R t k m (t l)=0
 | 0,l,_,h1,h2=>by omega
 | m+1,l,hm,h1,h2=>by
   show R (k+1+m) (t (k+1+m))*clr R t k m (t l)+(-(clr R t k m (t (k+1+m))))*R (k+1+m) (t l)=0
   by_cases e:l=k+1+m
   . subst e
     rw [Int.mul_comm,Int.neg_mul]
     omega
   . rw [Y0 (by omega) h1 (by omega),h.low (j:=k+1+m) (l:=l) (by omega) (by omega)]
     simp
theorem At5 {W:Nat}{k:Nat}:∀{m:Nat},k+m<i->In W i R (clr R t k m)
 | 0,hm=>In.row hm
 | m+1,hm=>(At5 (by omega)).mix (In.row (by omega)) _ _
theorem Aj7 {k:Nat} (s:Nat->Nat):∀{m:Nat},k+m<i->det i (setR (fun r c=>R r (s c)) k fun c=>clr R t k m (s c))=pb R t k m*det i (fun r c=>R r (s c))
 | 0,hm=>by
   show det i (setR (fun r c=>R r (s c)) k ((fun r c=>R r (s c)) k))=1*_
   rw [Eh]
   omega
 | m+1,hm=>by
   show det i (setR (fun r c=>R r (s c)) k fun c=>R (k+1+m) (t (k+1+m))*clr R t k m (s c)+(-(clr R t k m (t (k+1+m))))*R (k+1+m) (s c))=_
   rw [Cy (fun r c=>R r (s c)) (fun c=>clr R t k m (s c)) (fun c=>R (k+1+m) (s c)) _ _ (by omega),Aj7 s (by omega)]
   rw [C4 (p:=k) (q:=k+1+m) (A:=setR (fun r c=>R r (s c)) k fun c=>R (k+1+m) (s c)) (by omega) (by omega) (by omega) fun c _=>by rw [At,A1 (by omega)]]
   show _=R (k+1+m) (t (k+1+m))*pb R t k m*_
   rw [Int.mul_assoc]
   omega
end
theorem skip_prod {f:Nat->Int}{k:Nat}:∀ (n:Nat),k<=n->prodN (fun l=>f (if l<k then l else l+1)) n=prodN f k*prodN (fun l=>f (k+1+l)) (n-k)
 | 0,h=>by
   have:k=0:=by omega
   subst this
   simp [prodN]
 | n+1,h=>by
   by_cases e:k=n+1
   . subst e
     rw [show n+1-(n+1)=0 by omega]
     show prodN _ (n+1)=prodN f (n+1)*1
     have:∀ m,m<=n+1->prodN (fun l=>f (if l<n+1 then l else l+1)) m=prodN f m:=by
      intro m
      induction m with
      | zero=>intro _;rfl
      | succ m ih =>
        intro hm
        show prodN _ m*f (if m<n+1 then m else m+1)=prodN f m*f m
        rw [ih (by omega),if_pos (by omega)]
     rw [this _ (Nat.le_refl _)]
     omega
   . show prodN _ n*f (if n<k then n else n+1)=_
     rw [skip_prod n (by omega),if_neg (by omega),show n+1-k=(n-k)+1 by omega]
     show _=prodN f k*(prodN (fun l=>f (k+1+l)) (n-k)*f (k+1+(n-k)))
     rw [show k+1+(n-k)=n+1 by omega,Int.mul_assoc]
theorem Xr (R:Mat) (t:Nat->Nat) (k:Nat):∀ m,pb R t k m=prodN (fun l=>R (k+1+l) (t (k+1+l))) m
 | 0=>rfl
 | m+1=>by
   show R (k+1+m) (t (k+1+m))*pb R t k m=prodN _ m*R (k+1+m) (t (k+1+m))
   rw [Xr R t k m,Int.mul_comm]
def c9 (t:Nat->Nat) (k c:Nat):Nat->Nat
 | 0=>c
 | l+1=>t (if l<k then l else l+1)
theorem A56 {i:Nat}{R:Mat}{t:Nat->Nat} (h:Ga i R t) {k c:Nat} (hk:k<i) {D:Nat} (hD:(det i fun r l=>R r (c9 t k c l)).natAbs<=D):(clr R t k (i-1-k) c).natAbs<=D:=by
 have hm:k+(i-1-k)<i:=by omega
 have e1:=Aj7 h (k:=k) (c9 t k c) hm
 have hu0:∀ l,l<i->l≠k->clr R t k (i-1-k) (t l)=0:=fun l hl hne=>by
  rcases Nat.lt_or_ge l k with z | z
  . exact Y1 h z hm
  . exact Y0 h hm (by omega) (by omega)
 obtain⟨n,rfl⟩:∃ n,i=n+1:=⟨i-1,by omega⟩
 have e2:det (n+1) (setR (fun r l=>R r (c9 t k c l)) k fun l=>clr R t k (n+1-1-k) (c9 t k c l))=sgi k*clr R t k (n+1-1-k) c*prodN (fun l=>R (if l<k then l else l+1) (t (if l<k then l else l+1))) n:=by
  show sumN (fun j=>sgi j*setR _ k _ j 0*det n (minr (setR _ k _) j)) (n+1)=_
  rw [Ba (j:=k) hk fun j hj hne=>?_]
  . rw [At,Es]
    congr 1
    refine P4 fun r l hr hl=>?_
    show R (if r<k then r else r+1) (t (if l<k then l else l+1))=0
    refine h.low (by split<;>omega) ?_
    split<;>split<;>omega
  . rw [Ol hne,Hm (p:=if k<j then k else k-1) (by split<;>omega) fun l hl=>?_]
    . simp
    . rw [At]
      show clr R t k (n+1-1-k) (t (if l<k then l else l+1))=0
      exact hu0 _ (by split<;>omega) (by split<;>omega)
 rw [e1] at e2
 rw [skip_prod (f:=fun l=>R l (t l)) n (by omega),←Xr,show n+1-1-k=n-k by omega] at e2
 rw [show n+1-1-k=n-k by omega]
 have pp:=As4 h (k:=k) (m:=n-k) (by omega)
 have qp:0<prodN (fun l=>R l (t l)) k:=Bf fun j hj=>h.pos j (by omega)
 have e3:=congrArg Int.natAbs e2
 rw [Int.natAbs_mul,Int.natAbs_mul,Int.natAbs_mul,Int.natAbs_mul,O0,Nat.one_mul] at e3
 have p1:0<(pb R t k (n-k)).natAbs:=by omega
 have q1:1<=(prodN (fun l=>R l (t l)) k).natAbs:=by omega
 have:(pb R t k (n-k)).natAbs*(clr R t k (n-k) c).natAbs<=(pb R t k (n-k)).natAbs*D:=by
  calc (pb R t k (n-k)).natAbs*(clr R t k (n-k) c).natAbs<=(clr R t k (n-k) c).natAbs*((prodN (fun l=>R l (t l)) k).natAbs*(pb R t k (n-k)).natAbs):=by
        rw [Nat.mul_comm (pb R t k (n-k)).natAbs]
        exact Nat.mul_le_mul_left _ (Nat.le_mul_of_pos_left _ q1)
   _=(pb R t k (n-k)).natAbs*(det (n+1) fun r l=>R r (c9 t k c l)).natAbs:=e3.symm
   _<=_:=Nat.mul_le_mul_left _ hD
 exact Nat.le_of_mul_le_mul_left this p1
theorem V6 {i:Nat}{R:Mat}{t:Nat->Nat} (h:Ga i R t):det i (fun r l=>R r (t l))=prodN (fun l=>R l (t l)) i:=P4 fun r c hr hc=>h.low hr hc
theorem Tm {f:Nat->Int}:∀{n j:Nat},(∀ k,k<n->0<f k)->j<n->f j<=prodN f n
 | n+1,j,h,hj=>by
   have p:=Bf (n:=n) fun k hk=>h k (by omega)
   have q:=h n (by omega)
   show f j<=prodN f n*f n
   by_cases e:j=n
   . subst e
     have:1*f j<=prodN f j*f j:=Int.mul_le_mul_of_nonneg_right (by omega) (by omega)
     omega
   . have ih:=Tm (n:=n) (j:=j) (fun k hk=>h k (by omega)) (by omega)
     have:prodN f n*1<=prodN f n*f n:=Int.mul_le_mul_of_nonneg_left (by omega) (by omega)
     omega
theorem Ay6 {i:Nat}{R:Mat}{t:Nat->Nat} (h:Ga i R t) {D:Nat} (hD:(det i fun r l=>R r (t l)).natAbs<=D) {j:Nat} (hj:j<i):R j (t j)<=D:=by
 rw [V6 h] at hD
 have a:=Tm (f:=fun l=>R l (t l)) (fun k hk=>h.pos k hk) hj
 have b:=Bf (f:=fun l=>R l (t l)) (n:=i) (fun k hk=>h.pos k hk)
 omega
theorem Ga.none {W i:Nat}{R:Mat}{t:Nat->Nat} (h:Ga i R t) (ht:∀ j,j<i->t j<W) {v:Nat->Int} (hv:In W i R v) (h0:∀ j,j<i->v (t j)=0):∀ c,c<W->v c=0:=by
 obtain⟨x,hx⟩:=hv
 have x0:∀ m,m<=i->∀ j,j<m->x j=0:=by
  intro m
  induction m with
  | zero=>intro _ j hj;omega
  | succ m ih =>
    intro hm j hj
    by_cases e:j<m
    . exact ih (by omega) j e
    have ej:j=m:=by omega
    subst ej
    have e1:=hx (t j) (ht j (by omega))
    rw [h0 j (by omega),Ba (j:=j) (by omega) fun k hk hne=>?_] at e1
    . rcases Int.mul_eq_zero.mp e1.symm with z | z
      . exact z
      . have:=h.pos j (by omega);omega
    . by_cases e2:k<j
      . rw [ih (by omega) k e2];simp
      . rw [h.low hk (by omega)];simp
 intro c hc
 rw [hx c hc]
 exact Ay fun k hk=>by rw [x0 i (Nat.le_refl _) k hk];simp
theorem In.sum {W i:Nat}{R:Mat}{a:Nat->Int}{U:Mat}:∀{m:Nat},(∀ j,j<m->In W i R (U j))->In W i R (fun c=>sumN (fun j=>a j*U j c) m)
 | 0,_=>In.zero W i R
 | m+1,h=>by
   have:=(In.sum (a:=a) (U:=U) (m:=m) fun j hj=>h j (by omega)).mix (h m (by omega)) 1 (a m)
   exact this.congr fun c _=>by
    show 1*sumN (fun j=>a j*U j c) m+a m*U m c=sumN (fun j=>a j*U j c) m+a m*U m c
    omega
theorem L6 (f:Nat->Int):∀ (n k:Nat),k<n->prodN f n=prodN f k*(prodN (fun l=>f (k+1+l)) (n-1-k)*f k)
 | n+1,k,h=>by
   by_cases e:k=n
   . subst e
     rw [show k+1-1-k=0 by omega]
     show prodN f k*f k=prodN f k*(1*f k)
     rw [Int.one_mul]
   . show prodN f n*f n=_
     rw [L6 f n k (by omega),show n+1-1-k=(n-1-k)+1 by omega]
     show _=prodN f k*(prodN _ (n-1-k)*f (k+1+(n-1-k))*f k)
     rw [show k+1+(n-1-k)=n by omega]
     grind
theorem A85 {f:Nat->Int}:∀{n k:Nat},(∀ l,l<n->0<f l)->k<n->prodN f k*f k<=prodN f n:=fun {n k} h hk=>by
 rw [L6 f n k hk]
 have a:=Bf (n:=k) fun l hl=>h l (by omega)
 have b:0<prodN (fun l=>f (k+1+l)) (n-1-k):=Bf fun l hl=>h _ (by omega)
 have c:=h k hk
 have d:1*f k<=prodN (fun l=>f (k+1+l)) (n-1-k)*f k:=Int.mul_le_mul_of_nonneg_right (by omega) (by omega)
 rw [Int.one_mul] at d
 exact Int.mul_le_mul_of_nonneg_left d (by omega)
theorem Au3 {W i:Nat}{R:Mat}{t:Nat->Nat} (h:Ga i R t) (ht:∀ j,j<i->t j<W) {v:Nat->Int} (hv:In W i R v) {κ D c:Nat} (hc:c<W) (hκ:∀ j,j<i->(v (t j)).natAbs<=κ*(R j (t j)).natAbs)
 (hD:∀ k,k<i->(det i fun r l=>R r (c9 t k c l)).natAbs<=D):(v c).natAbs<=i*(κ*D):=by
 have hp:∀ l,l<i->0<(fun l=>R l (t l)) l:=fun l hl=>h.pos l hl
 have EP:=Bf (n:=i) hp
 have key:prodN (fun l=>R l (t l)) i*v c=sumN (fun j=>(v (t j)*prodN (fun l=>R l (t l)) j)*clr R t j (i-1-j) c) i:=by
  have hin:In W i R (fun c=>prodN (fun l=>R l (t l)) i*v c+(-1)*sumN (fun j=>(v (t j)*prodN (fun l=>R l (t l)) j)*clr R t j (i-1-j) c) i) :=
   hv.mix (In.sum (a:=fun j=>v (t j)*prodN (fun l=>R l (t l)) j) (U:=fun j=>clr R t j (i-1-j)) fun j hj=>At5 h (by omega)) _ _
  have:=h.none ht hin (fun m hm=>?_) c hc
  . show _=_
    have t:prodN (fun l=>R l (t l)) i*v c+(-1)*sumN (fun j=>(v (t j)*prodN (fun l=>R l (t l)) j)*clr R t j (i-1-j) c) i=0:=this
    omega
  . show prodN (fun l=>R l (t l)) i*v (t m)+(-1)*sumN (fun j=>(v (t j)*prodN (fun l=>R l (t l)) j)*clr R t j (i-1-j) (t m)) i=0
    rw [Ba (j:=m) hm fun j hj hne=>?_]
    . rw [Zy h (by omega),Xr,L6 (fun l=>R l (t l)) i m hm]
      grind
    . have:clr R t j (i-1-j) (t m)=0:=by
       rcases Nat.lt_or_ge m j with z | z
       . exact Y1 h z (by omega)
       . exact Y0 h (by omega) (by omega) (by omega)
      rw [this]
      simp
 have e:=congrArg Int.natAbs key
 rw [Int.natAbs_mul] at e
 have le:(sumN (fun j=>(v (t j)*prodN (fun l=>R l (t l)) j)*clr R t j (i-1-j) c) i).natAbs<=i*((prodN (fun l=>R l (t l)) i).natAbs*(κ*D)):=by
  refine S6 fun j hj=>?_
  rw [Int.natAbs_mul,Int.natAbs_mul]
  have a1:=hκ j hj
  have a2:=A56 h hj (hD j hj)
  have a3:=A85 hp hj
  have a4:=Bf (n:=j) fun l hl=>hp l (by omega)
  have a5:=hp j hj
  have a6:(prodN (fun l=>R l (t l)) j).natAbs*(R j (t j)).natAbs<=(prodN (fun l=>R l (t l)) i).natAbs:=by
   rw [←Int.natAbs_mul]
   have:0<prodN (fun l=>R l (t l)) j*R j (t j):=Int.mul_pos a4 a5
   omega
  calc (v (t j)).natAbs*(prodN (fun l=>R l (t l)) j).natAbs*(clr R t j (i-1-j) c).natAbs
   ≤ κ*(R j (t j)).natAbs*(prodN (fun l=>R l (t l)) j).natAbs*D:=Nat.mul_le_mul (Nat.mul_le_mul_right _ a1) a2
   _=(prodN (fun l=>R l (t l)) j).natAbs*(R j (t j)).natAbs*(κ*D):=by grind
   _<=_:=Nat.mul_le_mul_right _ a6
 rw [←e] at le
 have E1:0<(prodN (fun l=>R l (t l)) i).natAbs:=by omega
 refine Nat.le_of_mul_le_mul_left (Nat.le_trans le (Nat.le_of_eq ?_)) E1
 grind
end Lat
namespace Lat
open Hb
theorem In.trans {W n m:Nat}{R R':Mat}{v:Nat->Int} (hv:In W n R v) (h:∀ j,j<n->In W m R' (R j)):In W m R' v:=by
 obtain⟨x,hx⟩:=hv
 exact (In.sum (a:=x) (U:=R) h).congr fun c hc=>(hx c hc).symm
def Eqv (W n:Nat) (R R':Mat):Prop:=(∀ j,j<n->In W n R (R' j))/\(∀ j,j<n->In W n R' (R j))
theorem Eqv.refl (W n:Nat) (R:Mat):Eqv W n R R:=⟨fun j hj=>In.row hj,fun j hj=>In.row hj⟩
theorem Eqv.trans {W n:Nat}{R S T:Mat} (h1:Eqv W n R S) (h2:Eqv W n S T):Eqv W n R T:=⟨fun j hj=>(h2.1 j hj).trans h1.1,fun j hj=>(h1.2 j hj).trans h2.2⟩
def Dp (n:Nat) (R R':Mat):Prop:=∀ s:Nat->Nat,(det n fun r l=>R' r (s l)).natAbs=(det n fun r l=>R r (s l)).natAbs
theorem Dp.refl (n:Nat) (R:Mat):Dp n R R:=fun _=>rfl
theorem Dp.trans {n:Nat}{R S T:Mat} (h1:Dp n R S) (h2:Dp n S T):Dp n R T:=fun s=>(h2 s).trans (h1 s)
theorem Hx (R:Mat) (p:Nat) (u:Nat->Int) (s:Nat->Nat):(fun r l=>setR R p u r (s l))=setR (fun r l=>R r (s l)) p (fun l=>u (s l)):=by
 funext r l
 unfold setR
 split<;>rfl
def addR (R:Mat) (p q:Nat) (k:Int):Mat:=setR R p fun c=>1*R p c+k*R q c
theorem Bj (R:Mat) (p q:Nat) (k:Int) (c:Nat):addR R p q k p c=1*R p c+k*R q c:=At ..
theorem By {R:Mat}{p q r:Nat}{k:Int} (h:r≠p) (c:Nat):addR R p q k r c=R r c:=A1 h c
theorem A06 {n p q:Nat} (R:Mat) (hp:p<n) (hq:q<n) (ne:p≠q) (k:Int):Dp n R (addR R p q k):=fun s=>by
 unfold addR
 rw [Hx]
 have:=Az2 (fun r l=>R r (s l)) hp hq ne k
 rw [show (fun l=>1*R p (s l)+k*R q (s l))=fun l=>R p (s l)+k*R q (s l) from funext fun l=>by rw [Int.one_mul],this]
theorem A05 {W n p q:Nat} (R:Mat) (hp:p<n) (hq:q<n) (ne:p≠q) (k:Int):Eqv W n R (addR R p q k):=by
 refine⟨fun j hj=>?_,fun j hj=>?_⟩
 . by_cases e:j=p
   . subst e
     exact ((In.row hj).mix (In.row hq) 1 k).congr fun c _=>(Bj R j q k c).symm
   . exact (In.row hj).congr fun c _=>(By e c).symm
 . by_cases e:j=p
   . subst e
     refine ((In.row (R:=addR R j q k) hj).mix (In.row (R:=addR R j q k) hq) 1 (-k)).congr fun c _=>?_
     rw [Bj,By (fun z=>ne z.symm)]
     show 1*(1*R j c+k*R q c)+-k*R q c=R j c
     rw [Int.neg_mul]
     omega
   . exact (In.row (R:=addR R p q k) hj).congr fun c _=>By e c
def negR (R:Mat) (p:Nat):Mat:=setR R p fun c=>- R p c
theorem Ax6 {n p:Nat} (R:Mat) (hp:p<n):Dp n R (negR R p):=fun s=>by
 unfold negR
 rw [Hx,Ah3 (fun r l=>R r (s l)) hp,Int.natAbs_neg]
theorem Ax5 {W n p:Nat} (R:Mat) (hp:p<n):Eqv W n R (negR R p):=by
 refine⟨fun j hj=>?_,fun j hj=>?_⟩
 . by_cases e:j=p
   . subst e
     exact ((In.row hj).mix (In.row hj) (-1) 0).congr fun c _=>by unfold negR;rw [At];omega
   . exact (In.row hj).congr fun c _=>(A1 e c).symm
 . by_cases e:j=p
   . subst e
     exact ((In.row (R:=negR R j) hj).mix (In.row (R:=negR R j) hj) (-1) 0).congr fun c _=>by unfold negR;rw [At];omega
   . exact (In.row (R:=negR R p) hj).congr fun c _=>A1 e c
def blendR (R:Mat) (p q:Nat) (a b c d:Int):Mat:=setR (setR R p fun k=>a*R p k+b*R q k) q fun k=>c*R p k+d*R q k
theorem El {R:Mat}{p q:Nat} (ne:p≠q) (a b c d:Int) (k:Nat):blendR R p q a b c d p k=a*R p k+b*R q k:=by unfold blendR;rw [A1 ne,At]
theorem Fz (R:Mat) (p q:Nat) (a b c d:Int) (k:Nat):blendR R p q a b c d q k=c*R p k+d*R q k:=by unfold blendR;rw [At]
theorem Cg {R:Mat}{p q r:Nat} (h1:r≠p) (h2:r≠q) (a b c d:Int) (k:Nat):blendR R p q a b c d r k=R r k:=by unfold blendR;rw [A1 h2,A1 h1]
theorem Al0 {n p q:Nat} (R:Mat) (hp:p<n) (hq:q<n) (ne:p≠q) {a b c d:Int} (h:a*d-b*c=1):Dp n R (blendR R p q a b c d):=fun s=>by
 unfold blendR
 rw [Hx,Hx]
 rw [Ah4 (fun r l=>R r (s l)) hp hq ne a b c d h]
theorem Ak9 {W n p q:Nat} (R:Mat) (hp:p<n) (hq:q<n) (ne:p≠q) {a b c d:Int} (h:a*d-b*c=1):Eqv W n R (blendR R p q a b c d):=by
 refine⟨fun j hj=>?_,fun j hj=>?_⟩
 . by_cases e:j=p
   . subst e
     exact ((In.row hj).mix (In.row hq) a b).congr fun k _=>(El ne a b c d k).symm
   . by_cases e2:j=q
     . subst e2
       exact ((In.row hp).mix (In.row hj) c d).congr fun k _=>(Fz R p j a b c d k).symm
     . exact (In.row hj).congr fun k _=>(Cg e e2 a b c d k).symm
 . by_cases e:j=p
   . subst e
     refine ((In.row (R:=blendR R j q a b c d) hj).mix (In.row (R:=blendR R j q a b c d) hq) d (-b)).congr fun k _=>?_
     rw [El ne,Fz]
     have:R j k=(a*d-b*c)*R j k:=by rw [h,Int.one_mul]
     grind
   . by_cases e2:j=q
     . subst e2
       refine ((In.row (R:=blendR R p j a b c d) hp).mix (In.row (R:=blendR R p j a b c d) hj) (-c) a).congr fun k _=>?_
       rw [El ne,Fz]
       have:R j k=(a*d-b*c)*R j k:=by rw [h,Int.one_mul]
       grind
     . exact (In.row (R:=blendR R p q a b c d) hj).congr fun k _=>Cg e e2 a b c d k
def moveR (R:Mat) (i s:Nat):Mat:=fun r c=>if r<s then R r c else if r=s then R i c else if r<=i then R (r-1) c else R r c
theorem Zr {n:Nat}:∀ (d:Nat) (R:Mat) {i s:Nat},i<n->i=s+d->Dp n R (moveR R i s)
 | 0,R,i,s,hi,e=>by
   have:moveR R i s=R:=by
    funext r c
    unfold moveR
    by_cases e1:r<s
    . rw [if_pos e1]
    . rw [if_neg e1]
      by_cases e2:r=s
      . rw [if_pos e2,e2,show i=s by omega]
      . rw [if_neg e2,if_neg (by omega)]
   rw [this]
   exact Dp.refl n R
 | d+1,R,i,s,hi,e=>by
   obtain⟨j,rfl⟩:∃ j,i=j+1:=⟨i-1,by omega⟩
   have h1:Dp n R (setR (setR R j (R (j+1))) (j+1) (R j)):=fun t=>by
    rw [Hx,Hx,Wc (by omega),Int.natAbs_neg]
    rw [show setR (setR (fun r l=>R r (t l)) j fun l=>R j (t l)) (j+1) (fun l=>R (j+1) (t l))=fun r l=>R r (t l) from by
     have:=Eh (fun r l=>R r (t l)) j
     rw [show (fun l=>R j (t l))=(fun r l=>R r (t l)) j from rfl,this]
     exact Eh (fun r l=>R r (t l)) (j+1)]
   have h2:=Zr (n:=n) d (setR (setR R j (R (j+1))) (j+1) (R j)) (i:=j) (s:=s) (by omega) (by omega)
   have e3:moveR (setR (setR R j (R (j+1))) (j+1) (R j)) j s=moveR R (j+1) s:=by
    funext r c
    unfold moveR
    by_cases e1:r<s
    . rw [if_pos e1,if_pos e1,A1 (by omega),A1 (by omega)]
    . rw [if_neg e1,if_neg e1]
      by_cases e2:r=s
      . rw [if_pos e2,if_pos e2,A1 (show j≠j+1 by omega),At]
      . rw [if_neg e2,if_neg e2]
        by_cases e4:r<=j
        . rw [if_pos e4,if_pos (show r<=j+1 by omega),A1 (show r-1≠j+1 by omega),A1 (show r-1≠j by omega)]
        . rw [if_neg e4]
          by_cases e5:r=j+1
          . subst e5
            rw [At,if_pos (by omega)]
            rfl
          . rw [if_neg (show ¬r<=j+1 by omega),A1 e5,A1 (show r≠j by omega)]
   rw [e3] at h2
   exact h1.trans h2
theorem Ap0 {W n:Nat} (R:Mat) {i s:Nat} (hi:i<n) (hs:s<=i):Eqv W n R (moveR R i s):=by
 refine⟨fun j hj=>?_,fun j hj=>?_⟩
 . by_cases e1:j<s
   . exact (In.row hj).congr fun c _=>by unfold moveR;rw [if_pos e1]
   . by_cases e2:j=s
     . exact (In.row hi).congr fun c _=>by unfold moveR;rw [if_neg e1,if_pos e2]
     . by_cases e3:j<=i
       . exact (In.row (R:=R) (j:=j-1) (by omega)).congr fun c _=>by unfold moveR;rw [if_neg e1,if_neg e2,if_pos e3]
       . exact (In.row hj).congr fun c _=>by unfold moveR;rw [if_neg e1,if_neg e2,if_neg e3]
 . by_cases e1:j<s
   . exact (In.row (R:=moveR R i s) hj).congr fun c _=>by unfold moveR;rw [if_pos e1]
   . by_cases e2:j=i
     . exact (In.row (R:=moveR R i s) (j:=s) (by omega)).congr fun c _=>by unfold moveR;rw [if_neg (by omega),if_pos rfl,e2]
     . by_cases e3:j<i
       . exact (In.row (R:=moveR R i s) (j:=j+1) (by omega)).congr fun c _=>by unfold moveR;rw [if_neg (by omega),if_neg (by omega),if_pos (by omega)];rfl
       . exact (In.row (R:=moveR R i s) hj).congr fun c _=>by unfold moveR;rw [if_neg (by omega),if_neg (by omega),if_neg (by omega)]
theorem Ot {f g:Nat->Int}{n p q:Nat} (hp:p<n) (hq:q<n) (ne:p≠q) (h:∀ k,k<n->k≠p->k≠q->f k=g k) (e:f p+f q=g p+g q):sumN f n=sumN g n:=by
 have z:sumN (fun k=>f k+-1*g k) n=(f p-g p)+(f q-g q):=by
  have e1:sumN (fun k=>f k+-1*g k) n=sumN (fun k=>(if k=p then 1 else 0)*(f p-g p)+(if k=q then 1 else 0)*(f q-g q)) n:=by
   refine Ak fun k hk=>?_
   by_cases e1:k=p
   . subst e1
     rw [if_pos rfl,if_neg ne]
     omega
   . rw [if_neg e1]
     by_cases e2:k=q
     . subst e2
       rw [if_pos rfl]
       omega
     . rw [if_neg e2,h k hk e1 e2]
       omega
  rw [e1,Bw,Bo (fun _=>f p-g p) p n,if_pos hp,Bo (fun _=>f q-g q) q n,if_pos hq]
 rw [Bw,Au] at z
 omega
def pT (n:Nat) (B R:Mat) (a b:Nat):Int:=sumN (fun k=>B k a*R k b) n
theorem Ac2 {n p q:Nat} (B R:Mat) (hp:p<n) (hq:q<n) (ne:p≠q) (k:Int) (a b:Nat):pT n (addR B q p (-k)) (addR R p q k) a b=pT n B R a b:=by
 refine Ot hp hq ne (fun j _ h1 h2=>by rw [By h2,By h1]) ?_
 rw [By (r:=p) (p:=q) ne,Bj R p q k,Bj B q p (-k),By (fun z=>ne z.symm)]
 grind
theorem A26 {n p:Nat} (B R:Mat) (a b:Nat):pT n (negR B p) (negR R p) a b=pT n B R a b:=by
 refine Ak fun k _=>?_
 by_cases e:k=p
 . subst e
   unfold negR
   rw [At,At,Int.neg_mul_neg]
 . unfold negR
   rw [A1 e,A1 e]
theorem Zo {n p q:Nat} (B R:Mat) (hp:p<n) (hq:q<n) (ne:p≠q) {a b c d:Int} (h:a*d-b*c=1) (x y:Nat):pT n (blendR B p q d (-c) (-b) a) (blendR R p q a b c d) x y=pT n B R x y:=by
 refine Ot hp hq ne (fun j _ h1 h2=>by rw [Cg h1 h2,Cg h1 h2]) ?_
 rw [El ne,El ne,Fz,Fz]
 have e1:B p x*R p y=(a*d-b*c)*(B p x*R p y):=by rw [h,Int.one_mul]
 have e2:B q x*R q y=(a*d-b*c)*(B q x*R q y):=by rw [h,Int.one_mul]
 grind
theorem Uz (f:Nat->Int):∀ (d:Nat) {n i s:Nat},i<n->i=s+d->sumN (fun r=>if r<s then f r else if r=s then f i else if r<=i then f (r-1) else f r) n=sumN f n
 | 0,n,i,s,hi,e=>Ak fun r _=>by
   by_cases e1:r<s
   . rw [if_pos e1]
   . rw [if_neg e1]
     by_cases e2:r=s
     . rw [if_pos e2,e2,show i=s by omega]
     . rw [if_neg e2,if_neg (by omega)]
 | d+1,n,i,s,hi,e=>by
   rw [←Uz f d (n:=n) (i:=i) (s:=s+1) hi (by omega)]
   refine Ot (p:=s) (q:=s+1) (by omega) (by omega) (by omega) (fun r _ h1 h2=>?_) ?_
   . by_cases e1:r<s
     . rw [if_pos e1,if_pos (by omega)]
     . rw [if_neg e1,if_neg h1,if_neg (show ¬r<s+1 by omega),if_neg h2]
   . rw [if_neg (by omega),if_pos rfl,if_neg (by omega),if_neg (by omega),if_pos (by omega),if_pos (by omega),if_neg (by omega),if_pos rfl]
     show f i+f (s+1-1)=f s+f i
     rw [show s+1-1=s by omega]
     omega
theorem Aw5 {n:Nat} (B R:Mat) {i s:Nat} (hi:i<n) (hs:s<=i) (a b:Nat):pT n (moveR B i s) (moveR R i s) a b=pT n B R a b:=by
 show sumN (fun k=>moveR B i s k a*moveR R i s k b) n=sumN (fun k=>B k a*R k b) n
 rw [←Uz (fun k=>B k a*R k b) (i-s) (n:=n) (i:=i) (s:=s) hi (by omega)]
 refine Ak fun r _=>?_
 unfold moveR
 split
 . rfl
 . split
   . rfl
   . split<;>rfl
def pD (n w:Nat) (R B:Mat) (i j:Nat):Int:=sumN (fun c=>R i (w+c)*B j c) n
def Dual (n w:Nat) (R B:Mat):Prop:=∀ i j,i<n->j<n->pD n w R B i j=if i=j then 1 else 0
end Lat
namespace Lat
open Hb
def dot (n w:Nat) (u v:Nat->Int):Int:=sumN (fun c=>u (w+c)*v c) n
theorem Cf (n w:Nat) (u v x:Nat->Int) (a b:Int):dot n w (fun c=>a*u c+b*v c) x=a*dot n w u x+b*dot n w v x:=by
 unfold dot
 rw [←Au,←Au,←Bw]
 exact Ak fun c _=>by rw [Int.add_mul,Int.mul_assoc,Int.mul_assoc]
theorem D8 (n w:Nat) (u x y:Nat->Int) (a b:Int):dot n w u (fun c=>a*x c+b*y c)=a*dot n w u x+b*dot n w u y:=by
 unfold dot
 rw [←Au,←Au,←Bw]
 exact Ak fun c _=>by grind
theorem Vi (n w:Nat) (R B:Mat) (i j:Nat):pD n w R B i j=dot n w (R i) (B j):=rfl
theorem Ik (R:Mat) (p q:Nat) (k:Int):addR R p q k p=fun c=>1*R p c+k*R q c:=funext fun c=>Bj ..
theorem addR_row_ne {R:Mat}{p q r:Nat}{k:Int} (h:r≠p):addR R p q k r=R r:=funext fun c=>By h c
theorem blend_row_p {R:Mat}{p q:Nat} (ne:p≠q) (a b c d:Int):blendR R p q a b c d p=fun k=>a*R p k+b*R q k:=funext fun k=>El ne a b c d k
theorem blend_row_q (R:Mat) (p q:Nat) (a b c d:Int):blendR R p q a b c d q=fun k=>c*R p k+d*R q k:=funext fun k=>Fz R p q a b c d k
theorem blend_row_ne {R:Mat}{p q r:Nat} (h1:r≠p) (h2:r≠q) (a b c d:Int):blendR R p q a b c d r=R r:=funext fun k=>Cg h1 h2 a b c d k
theorem Dual.add {n w p q:Nat}{R B:Mat} (h:Dual n w R B) (hp:p<n) (hq:q<n) (ne:p≠q) (k:Int):Dual n w (addR R p q k) (addR B q p (-k)):=fun i j hi hj=>by
 have D:∀ i j,i<n->j<n->dot n w (R i) (B j)=if i=j then 1 else 0:=h
 rw [Vi]
 by_cases e1:i=p
 . subst e1
   rw [Ik]
   by_cases e2:j=q
   . subst e2
     rw [Ik,D8,Cf,Cf,D i j hi hj,D j j hj hj,D i i hi hi,D j i hj hi]
     rw [if_neg ne,if_pos rfl,if_pos rfl,if_neg (fun z=>ne z.symm)]
     omega
   . rw [addR_row_ne e2,Cf,D i j hi hj,D q j hq hj,show (if q=j then (1:Int) else 0)=0 from if_neg (fun z=>e2 z.symm)]
     omega
 . rw [addR_row_ne e1]
   by_cases e2:j=q
   . subst e2
     rw [Ik,D8,D i j hi hj,D i p hi hp,show (if i=p then (1:Int) else 0)=0 from if_neg e1]
     omega
   . rw [addR_row_ne e2]
     exact D i j hi hj
theorem Dual.neg {n w p:Nat}{R B:Mat} (h:Dual n w R B) (hp:p<n):Dual n w (negR R p) (negR B p):=fun i j hi hj=>by
 have D:∀ i j,i<n->j<n->dot n w (R i) (B j)=if i=j then 1 else 0:=h
 have s1:∀ (R:Mat),negR R p p=fun c=>-1*R p c+0*R p c:=fun R=>funext fun c=>by unfold negR;rw [At];omega
 have s2:∀ (R:Mat) {r:Nat},r≠p->negR R p r=R r:=fun R r hr=>funext fun c=>A1 hr c
 rw [Vi]
 by_cases e1:i=p
 . subst e1
   by_cases e2:j=i
   . subst e2
     rw [s1,s1,D8,Cf,D j j hi hi]
     rw [if_pos rfl]
     omega
   . rw [s1,s2 B e2,Cf,D i j hi hj,if_neg (fun z=>e2 z.symm)]
     omega
 . by_cases e2:j=p
   . subst e2
     rw [s1,s2 R e1,D8,D i j hi hj,if_neg e1]
     omega
   . rw [s2 R e1,s2 B e2]
     exact D i j hi hj
theorem Dual.blend {n w p q:Nat}{R B:Mat} (h:Dual n w R B) (hp:p<n) (hq:q<n) (ne:p≠q) {a b c d:Int} (h1:a*d-b*c=1):Dual n w (blendR R p q a b c d) (blendR B p q d (-c) (-b) a):=fun i j hi hj=>by
 have D:∀ i j,i<n->j<n->dot n w (R i) (B j)=if i=j then 1 else 0:=h
 have ne':q≠p:=fun z=>ne z.symm
 rw [Vi]
 by_cases e1:i=p
 . subst e1
   rw [blend_row_p ne]
   by_cases e2:j=i
   . subst e2
     rw [blend_row_p ne,D8,Cf,Cf,D j j hi hi,D q j hq hi,D j q hi hq,D q q hq hq]
     repeat (first | rw [if_pos rfl] | rw [if_neg ne] | rw [if_neg ne'])
     grind
   . by_cases e3:j=q
     . subst e3
       rw [blend_row_q,D8,Cf,Cf,D i i hi hi,D j i hq hi,D i j hi hq,D j j hq hq]
       repeat (first | rw [if_pos rfl] | rw [if_neg ne] | rw [if_neg ne'])
       grind
     . rw [blend_row_ne e2 e3,Cf,D i j hi hj,D q j hq hj,show (if i=j then (1:Int) else 0)=0 from if_neg (fun z=>e2 z.symm),show (if q=j then (1:Int) else 0)=0 from if_neg (fun z=>e3 z.symm)]
       omega
 . by_cases e4:i=q
   . subst e4
     rw [blend_row_q]
     by_cases e2:j=p
     . subst e2
       rw [blend_row_p ne,D8,Cf,Cf,D j j hj hj,D i j hi hj,D j i hj hi,D i i hi hi]
       repeat (first | rw [if_pos rfl] | rw [if_neg ne] | rw [if_neg ne'])
       grind
     . by_cases e3:j=i
       . subst e3
         rw [blend_row_q,D8,Cf,Cf,D p p hp hp,D j p hi hp,D p j hp hi,D j j hi hi]
         repeat (first | rw [if_pos rfl] | rw [if_neg ne] | rw [if_neg ne'])
         grind
       . rw [blend_row_ne e2 e3,Cf,D p j hp hj,D i j hi hj,show (if p=j then (1:Int) else 0)=0 from if_neg (fun z=>e2 z.symm),show (if i=j then (1:Int) else 0)=0 from if_neg (fun z=>e3 z.symm)]
         omega
   . rw [blend_row_ne e1 e4]
     by_cases e2:j=p
     . subst e2
       rw [blend_row_p ne,D8,D i j hi hj,D i q hi hq,show (if i=j then (1:Int) else 0)=0 from if_neg e1,show (if i=q then (1:Int) else 0)=0 from if_neg e4]
       omega
     . by_cases e3:j=q
       . subst e3
         rw [blend_row_q,D8,D i p hi hp,D i j hi hj,show (if i=p then (1:Int) else 0)=0 from if_neg e1,show (if i=j then (1:Int) else 0)=0 from if_neg e4]
         omega
       . rw [blend_row_ne e2 e3]
         exact D i j hi hj
def mvI (i s r:Nat):Nat:=if r<s then r else if r=s then i else if r<=i then r-1 else r
theorem move_row (R:Mat) (i s r:Nat):moveR R i s r=R (mvI i s r):=by
 funext c
 unfold moveR mvI
 split
 . rfl
 . split
   . rfl
   . split<;>rfl
theorem Dual.move {n w i s:Nat}{R B:Mat} (h:Dual n w R B) (hi:i<n) (hs:s<=i):Dual n w (moveR R i s) (moveR B i s):=fun x y hx hy=>by
 rw [Vi,move_row,move_row]
 have l:∀ r,r<n->mvI i s r<n:=fun r hr=>by unfold mvI;split;omega;split;omega;split<;>omega
 have:=h _ _ (l x hx) (l y hy)
 rw [Vi] at this
 rw [this]
 have inj:(mvI i s x=mvI i s y)↔x=y:=by
  constructor
  . intro e
    unfold mvI at e
    by_cases a1:x<s<;>by_cases a2:x=s<;>by_cases a3:x<=i<;>by_cases b1:y<s<;>by_cases b2:y=s<;>by_cases b3:y<=i<;>simp only [a1,a2,a3,b1,b2,b3,if_true,if_false] at e<;>first | omega | (subst_vars;simp_all;try omega)
  . intro e;rw [e]
 by_cases e:x=y
 . rw [if_pos e,if_pos (inj.mpr e)]
 . rw [if_neg e,if_neg fun z=>e (inj.mp z)]
structure Good (n W w lo:Nat) (R B R' B':Mat):Prop where
 eqv:∀ m,lo<=m->Eqv W m R R'
 det:∀ m,lo<=m->Dp m R R'
 pt:∀ a b,pT n B' R' a b=pT n B R a b
 dual:Dual n w R B->Dual n w R' B'
 rest:∀ r c,lo<=r->R' r c=R r c
 restB:∀ r c,lo<=r->B' r c=B r c
theorem Good.refl (n W w lo:Nat) (R B:Mat):Good n W w lo R B R B:=⟨fun m _=>Eqv.refl W m R,fun m _=>Dp.refl m R,fun _ _=>rfl,id,fun _ _ _=>rfl,fun _ _ _=>rfl⟩
theorem Good.trans {n W w lo:Nat}{R B R' B' S C:Mat} (h1:Good n W w lo R B R' B') (h2:Good n W w lo R' B' S C):Good n W w lo R B S C :=
 ⟨fun m hm=>(h1.eqv m hm).trans (h2.eqv m hm),fun m hm=>(h1.det m hm).trans (h2.det m hm),fun a b=>(h2.pt a b).trans (h1.pt a b),fun d=>h2.dual (h1.dual d),fun r c hr=>(h2.rest r c hr).trans (h1.rest r c hr),fun r c hr=>(h2.restB r c hr).trans (h1.restB r c hr)⟩
theorem Good.mono {n W w lo lo':Nat}{R B R' B':Mat} (h:Good n W w lo R B R' B') (hl:lo<=lo'):Good n W w lo' R B R' B':=⟨fun m hm=>h.eqv m (by omega),fun m hm=>h.det m (by omega),h.pt,h.dual,fun r c hr=>h.rest r c (by omega),fun r c hr=>h.restB r c (by omega)⟩
theorem Good.add {n W w lo p q:Nat} (R B:Mat) (hp:p<lo) (hq:q<lo) (hn:lo<=n) (ne:p≠q) (k:Int):Good n W w lo R B (addR R p q k) (addR B q p (-k)) :=
 ⟨fun m hm=>A05 R (by omega) (by omega) ne k,fun m hm=>A06 R (by omega) (by omega) ne k,fun a b=>Ac2 B R (by omega) (by omega) ne k a b,fun d=>d.add (by omega) (by omega) ne k,fun r c hr=>By (by omega) c,fun r c hr=>By (by omega) c⟩
theorem Good.neg {n W w lo p:Nat} (R B:Mat) (hp:p<lo) (hn:lo<=n):Good n W w lo R B (negR R p) (negR B p) :=
 ⟨fun m hm=>Ax5 R (by omega),fun m hm=>Ax6 R (by omega),fun a b=>A26 B R a b,fun d=>d.neg (by omega),fun r c hr=>A1 (by omega) c,fun r c hr=>A1 (by omega) c⟩
theorem Good.blend {n W w lo p q:Nat} (R B:Mat) (hp:p<lo) (hq:q<lo) (hn:lo<=n) (ne:p≠q) {a b c d:Int} (h:a*d-b*c=1):Good n W w lo R B (blendR R p q a b c d) (blendR B p q d (-c) (-b) a) :=
 ⟨fun m hm=>Ak9 R (by omega) (by omega) ne h,fun m hm=>Al0 R (by omega) (by omega) ne h,fun x y=>Zo B R (by omega) (by omega) ne h x y,fun e=>e.blend (by omega) (by omega) ne h,fun r c hr=>Cg (by omega) (by omega) _ _ _ _ c,fun r c hr=>Cg (by omega) (by omega) _ _ _ _ c⟩
theorem Good.move {n W w lo i s:Nat} (R B:Mat) (hi:i<lo) (hs:s<=i) (hn:lo<=n):Good n W w lo R B (moveR R i s) (moveR B i s) :=
 ⟨fun m hm=>Ap0 R (by omega) hs,fun m hm=>Zr (i-s) R (by omega) (by omega),fun a b=>Aw5 B R (by omega) hs a b,fun d=>d.move (by omega) hs,fun r c hr=>by
  rw [move_row]
  unfold mvI
  rw [if_neg (by omega),if_neg (by omega),if_neg (by omega)],fun r c hr=>by
  rw [move_row]
  unfold mvI
  rw [if_neg (by omega),if_neg (by omega),if_neg (by omega)]⟩
theorem Dual.row {n w i:Nat}{R B:Mat} (h:Dual n w R B) (hi:i<n):∃ c,c<n/\R i (w+c)≠0:=by
 refine Decidable.byContradiction fun z=>?_
 have e:=h i i hi hi
 rw [if_pos rfl] at e
 unfold pD at e
 rw [Ay fun c hc=>?_] at e
 . cases e
 . have:R i (w+c)=0:=Decidable.byContradiction fun y=>z ⟨c,hc,y⟩
   rw [this]
   simp
end Lat
namespace Lat
open Hb
theorem Ag8 {x h:Int}{K:Nat} (hh:0<h) (hx:x.natAbs<=K*h.natAbs):(x / h).natAbs<=K:=by
 have e:(h.natAbs:Int)=h:=by omega
 have hx':(x.natAbs:Int)<=(K:Int)*h:=by rw [←e];exact_mod_cast hx
 have u1:x / h<=(K:Int):=by
  have:x<=(K:Int)*h:=by omega
  exact Int.ediv_le_of_le_mul hh this
 have u2:-(K:Int)<=x / h:=by
  refine (Int.le_ediv_iff_mul_le hh).mpr ?_
  rw [Int.neg_mul]
  omega
 omega
structure Part (R:Mat) (t:Nat->Nat) (f m:Nat):Prop where
 inc:∀ j k,f<=j->j<k->k<m->t j<t k
 zero:∀ j c,f<=j->j<m->c<t j->R j c=0
 pos:∀ j,f<=j->j<m->0<R j (t j)
 red:∀ k j,f<=k->k<j->j<m->0<=R k (t j)/\R k (t j)<R j (t j)
structure Shr (n W w lo:Nat) (R B:Mat) (t:Nat->Nat) (p f m j μ:Nat) (R' B':Mat):Prop where
 good:Good n W w lo R B R' B'
 same:∀ r c,r≠p->R' r c=R r c
 left:∀ c,(∀ l,f<=l->l<m->c<t l)->R' p c=R p c
 red:∀ l,f<=l->l<j->0<=R' p (t l)/\R' p (t l)<R l (t l)
 rel:∀ l,j<=l->l<m->(R' p (t l)).natAbs<=2 ^ (j-f)*μ*(R l (t l)).natAbs
 ins:∀ W',∃ v:Nat->Int,In W' lo R v/\∀ c,R' p c=R p c+v c
theorem Shr.start {n W w lo:Nat}{R B:Mat}{t:Nat->Nat}{p f m μ:Nat} (h:∀ l,f<=l->l<m->(R p (t l)).natAbs<=μ*(R l (t l)).natAbs):Shr n W w lo R B t p f m f μ R B :=
 ⟨Good.refl ..,fun _ _ _=>rfl,fun _ _=>rfl,fun l h1 h2=>by omega,fun l h1 h2=>by rw [Nat.sub_self,Nat.pow_zero,Nat.one_mul];exact h l h1 h2,fun W'=>⟨fun _=>0,In.zero W' lo R,fun c=>by show R p c=R p c+0;omega⟩⟩
theorem W2 (R:Mat) (p q:Nat):addR R p q 0=R:=by
 funext r c
 by_cases e:r=p
 . subst e;rw [Bj];omega
 . exact By e c
theorem Shr.step {n W w lo:Nat}{R B R' B':Mat}{t:Nat->Nat}{p f m j μ:Nat} (h:Shr n W w lo R B t p f m j μ R' B') (P:Part R t f m) (hf:f<=j) (hj:j<m) (hp:p<lo) (hm:m<=lo) (hn:lo<=n) (hpf:p<f\/m<=p) :
 (R' p (t j) / R j (t j)).natAbs<=2 ^ (j-f)*μ/\Shr n W w lo R B t p f m (j+1) μ (addR R' p j (-(R' p (t j) / R j (t j)))) (addR B' j p (R' p (t j) / R j (t j))):=by
 have hh:=P.pos j hf hj
 have ne:p≠j:=by omega
 have q1:=Ag8 hh (h.rel j (Nat.le_refl _) hj)
 refine⟨q1,?_⟩
 generalize hq:R' p (t j) / R j (t j)=q at q1
 have rj:∀ c,R' j c=R j c:=fun c=>h.same j c (fun z=>ne z.symm)
 refine⟨h.good.trans ?_,fun r c hr=>?_,fun c hc=>?_,fun l h1 h2=>?_,fun l h1 h2=>?_,fun W'=>?_⟩
 . have:=Good.add (n:=n) (W:=W) (w:=w) (lo:=lo) R' B' hp (show j<lo by omega) hn ne (-q)
   rw [Int.neg_neg] at this
   exact this
 . rw [By hr];exact h.same r c hr
 . rw [Bj,h.left c hc,rj,P.zero j c hf hj (hc j hf hj)]
   simp
 . rw [Bj,rj]
   by_cases e:l=j
   . subst e
     have d1:=Int.emod_nonneg (R' p (t l)) (show R l (t l)≠0 by omega)
     have d2:=Int.emod_lt_of_pos (R' p (t l)) hh
     have d3:=Int.mul_ediv_add_emod (R' p (t l)) (R l (t l))
     rw [hq] at d3
     have d4:R l (t l)*q=q*R l (t l):=Int.mul_comm ..
     rw [Int.neg_mul]
     omega
   . have z:R j (t l)=0:=P.zero j _ hf hj (P.inc l j h1 (by omega) hj)
     rw [z,Int.mul_zero,Int.add_zero,Int.one_mul]
     exact h.red l h1 (by omega)
 . rw [Bj,rj]
   have a:=h.rel l (by omega) h2
   obtain⟨b1,b2⟩:=P.red j l hf (by omega) h2
   have b:(R j (t l)).natAbs<=(R l (t l)).natAbs:=by omega
   have c:=Int.natAbs_add_le (1*R' p (t l)) (-q*R j (t l))
   rw [Int.one_mul] at c
   rw [Int.one_mul]
   have d:(-q*R j (t l)).natAbs<=2 ^ (j-f)*μ*(R l (t l)).natAbs:=by
    rw [Int.natAbs_mul,Int.natAbs_neg]
    exact Nat.mul_le_mul q1 b
   rw [show j+1-f=(j-f)+1 by omega,Nat.pow_succ]
   have e:2 ^ (j-f)*2*μ*(R l (t l)).natAbs=2 ^ (j-f)*μ*(R l (t l)).natAbs+2 ^ (j-f)*μ*(R l (t l)).natAbs:=by grind
   omega
 . obtain⟨v,hv,hc⟩:=h.ins W'
   refine⟨fun c=>1*v c+(-q)*R j c,hv.mix (In.row (by omega)) 1 (-q),fun c=>?_⟩
   rw [Bj,hc c,rj]
   grind
def Bits (n W b:Nat) (R:Mat):Prop:=∀ r c,r<n->c<W->(R r c).natAbs<2 ^ b
theorem Z1 {x y a k:Int}{b c:Nat} (hx:x.natAbs<2 ^ b) (hy:y.natAbs<2 ^ b) (ha:a.natAbs<2 ^ c) (hk:k.natAbs<2 ^ c):(a*x+k*y).natAbs<2 ^ (b+c+1):=by
 have e:=Int.natAbs_add_le (a*x) (k*y)
 rw [Int.natAbs_mul,Int.natAbs_mul] at e
 have u:a.natAbs*x.natAbs<2 ^ (c+b):=by rw [Nat.pow_add];exact Nat.mul_lt_mul'' ha hx
 have v:k.natAbs*y.natAbs<2 ^ (c+b):=by rw [Nat.pow_add];exact Nat.mul_lt_mul'' hk hy
 rw [show b+c+1=(c+b)+1 by omega,Nat.pow_succ]
 omega
theorem Bits.mono {n W b b':Nat}{R:Mat} (h:Bits n W b R) (hb:b<=b'):Bits n W b' R:=fun r c hr hc=>Nat.lt_of_lt_of_le (h r c hr hc) (Nat.pow_le_pow_right (by decide) hb)
theorem Bits.add {n W b c p q:Nat}{R:Mat} (h:Bits n W b R) (hp:p<n) (hq:q<n) {k:Int} (hk:k.natAbs<2 ^ c):Bits n W (b+c+1) (addR R p q k):=fun r x hr hx=>by
 by_cases e:r=p
 . subst e
   rw [Bj]
   have h1:(1:Int).natAbs<2 ^ (c+1):=by
    have:1<=2 ^ c:=Nat.one_le_two_pow
    rw [Nat.pow_succ]
    show 1<_
    omega
   have e1:=Int.natAbs_add_le (1*R r x) (k*R q x)
   rw [Int.one_mul,Int.natAbs_mul] at e1
   rw [Int.one_mul]
   have u:k.natAbs*(R q x).natAbs<2 ^ (c+b):=by rw [Nat.pow_add];exact Nat.mul_lt_mul'' hk (h q x hq hx)
   have v:(R r x).natAbs<2 ^ (c+b):=Nat.lt_of_lt_of_le (h r x hr hx) (Nat.pow_le_pow_right (by decide) (by omega))
   rw [show b+c+1=(c+b)+1 by omega,Nat.pow_succ]
   omega
 . rw [By e]
   exact Nat.lt_of_lt_of_le (h r x hr hx) (Nat.pow_le_pow_right (by decide) (by omega))
theorem Bits.blend {n W b e p q:Nat}{R:Mat} (h:Bits n W b R) (hp:p<n) (hq:q<n) (ne:p≠q) {x y z u:Int} (hx:x.natAbs<2 ^ e) (hy:y.natAbs<2 ^ e) (hz:z.natAbs<2 ^ e) (hu:u.natAbs<2 ^ e):Bits n W (b+e+1) (blendR R p q x y z u):=fun r c hr hc=>by
 by_cases e1:r=p
 . subst e1
   rw [El ne]
   exact Z1 (h r c hr hc) (h q c hq hc) hx hy
 . by_cases e2:r=q
   . subst e2
     rw [Fz]
     exact Z1 (h p c hp hc) (h r c hr hc) hz hu
   . rw [Cg e1 e2]
     exact Nat.lt_of_lt_of_le (h r c hr hc) (Nat.pow_le_pow_right (by decide) (by omega))
theorem Bits.neg {n W b p:Nat}{R:Mat} (h:Bits n W b R):Bits n W b (negR R p):=fun r c hr hc=>by
 unfold negR
 by_cases e:r=p
 . subst e;rw [At,Int.natAbs_neg];exact h r c hr hc
 . rw [A1 e];exact h r c hr hc
theorem Bits.move {n W b i s:Nat}{R:Mat} (h:Bits n W b R) (hi:i<n) (hs:s<=i):Bits n W b (moveR R i s):=fun r c hr hc=>by
 rw [move_row]
 exact h _ c (by unfold mvI;split;omega;split;omega;split<;>omega) hc
end Lat
namespace Lat
open Hb
structure Cz (n W w i:Nat) (G:Nat->Prop) (R0 B0:Mat) (t:Nat->Nat) (π b:Nat) (spot:Nat) (R B:Mat):Prop where
 good:Good n W w (i+1) R0 B0 R B
 zero:∀ j c,j<i->c<t j->R j c=0
 pos:∀ j,j<i->0<R j (t j)
 old:∀ j c,spot<=j->j<i->R j c=R0 j c
 pass:∀ j c,j<spot->c<=t j->R i c=0
 pv:∀ l,spot<=l->l<i->(R i (t l)).natAbs<=2 ^ π
 gc:∀ r c,r<=i->G c->(R r c).natAbs<=2 ^ (b+i+3+2*π+spot*(π+1))
structure Jt (n W w i:Nat) (G:Nat->Prop) (R0 B0:Mat) (t:Nat->Nat) (π b:Nat):Prop where
 hi:i<n
 part:Part R0 t 0 i
 lt:∀ j,j<i->t j<W
 hd:∀ j,j<i->(R0 j (t j)).natAbs<=2 ^ π
 rw:∀ r c,r<i->G c->(R0 r c).natAbs<=2 ^ b
 ri:∀ c,G c->(R0 i c).natAbs<=2 ^ b
 rp:∀ l,l<i->(R0 i (t l)).natAbs<=2 ^ π
theorem Part.sub {R:Mat}{t:Nat->Nat}{f f' m:Nat} (h:Part R t f m) (hf:f<=f'):Part R t f' m:=⟨fun j k h1=>h.inc j k (by omega),fun j c h1=>h.zero j c (by omega),fun j h1=>h.pos j (by omega),fun k j h1=>h.red k j (by omega)⟩
theorem Part.congr {R R':Mat}{t:Nat->Nat}{f m:Nat} (h:Part R t f m) (e:∀ j c,f<=j->j<m->R' j c=R j c):Part R' t f m :=
 ⟨h.inc,fun j c h1 h2 h3=>by rw [e j c h1 h2];exact h.zero j c h1 h2 h3,fun j h1 h2=>by rw [e j _ h1 h2];exact h.pos j h1 h2,fun k j h1 h2 h3=>by rw [e k _ h1 (by omega),e j _ (by omega) h3];exact h.red k j h1 h2 h3⟩
theorem Cz.start {n W w i:Nat}{G:Nat->Prop}{R0 B0:Mat}{t:Nat->Nat}{π b:Nat} (h:Jt n W w i G R0 B0 t π b):Cz n W w i G R0 B0 t π b 0 R0 B0:=by
 refine⟨Good.refl ..,fun j c hj hc=>h.part.zero j c (Nat.zero_le _) hj hc,fun j hj=>h.part.pos j (Nat.zero_le _) hj,fun _ _ _ _=>rfl,fun j c hj=>by omega,fun l _ hl=>h.rp l hl,fun r c hr hc=>?_⟩
 have e:2 ^ b<=2 ^ (b+i+3+2*π+0*(π+1)):=Nat.pow_le_pow_right (by decide) (by omega)
 by_cases z:r=i
 . subst z;exact Nat.le_trans (h.ri c hc) e
 . exact Nat.le_trans (h.rw r c (by omega) hc) e
theorem Cz.skip {n W w i:Nat}{G:Nat->Prop}{R0 B0 R B:Mat}{t:Nat->Nat}{π b spot:Nat} (h:Cz n W w i G R0 B0 t π b spot R B) (hz:∀ c,c<=t spot->R i c=0):Cz n W w i G R0 B0 t π b (spot+1) R B:=by
 refine⟨h.good,h.zero,h.pos,fun j c hj=>h.old j c (by omega),fun j c hj hc=>?_,fun l hl=>h.pv l (by omega),fun r c hr hc=>Nat.le_trans (h.gc r c hr hc) (Nat.pow_le_pow_right (by decide) ?_)⟩
 . by_cases e:j=spot
   . subst e;exact hz c hc
   . exact h.pass j c (by omega) hc
 . rw [Nat.add_mul];omega
structure W3 (n W w i:Nat) (G:Nat->Prop) (R B:Mat) (t:Nat->Nat) (b p spot μ:Nat) (R' B':Mat):Prop where
 good:Good n W w (i+1) R B R' B'
 same:∀ r c,r≠p->R' r c=R r c
 left:∀ c,c<=t spot->R' p c=R p c
 red:∀ l,spot<l->l<i->0<=R' p (t l)/\R' p (t l)<R l (t l)
 gc:∀ c,G c->(R' p c).natAbs<=(R p c).natAbs+2 ^ (i-(spot+1))*μ*2 ^ b
structure ShrG (n W w i:Nat) (G:Nat->Prop) (R B:Mat) (t:Nat->Nat) (b p spot μ j:Nat) (R' B':Mat):Prop where
 s:Shr n W w (i+1) R B t p (spot+1) i j μ R' B'
 gc:∀ c,G c->(R' p c).natAbs+μ*2 ^ b<=(R p c).natAbs+2 ^ (j-(spot+1))*μ*2 ^ b
theorem ShrG.start {n W w i:Nat}{G:Nat->Prop}{R B:Mat}{t:Nat->Nat}{b p spot μ:Nat} (h:∀ l,spot<l->l<i->(R p (t l)).natAbs<=μ*(R l (t l)).natAbs):ShrG n W w i G R B t b p spot μ (spot+1) R B :=
 ⟨Shr.start fun l h1 h2=>h l (by omega) h2,fun c _=>by rw [Nat.sub_self,Nat.pow_zero,Nat.one_mul];exact Nat.le_refl _⟩
theorem ShrG.step {n W w i:Nat}{G:Nat->Prop}{R B R' B':Mat}{t:Nat->Nat}{b p spot μ j:Nat} (h:ShrG n W w i G R B t b p spot μ j R' B') (P:Part R t (spot+1) i) (hG:∀ r c,spot<r->r<i->G c->(R r c).natAbs<=2 ^ b) (hf:spot<j) (hj:j<i) (hn:i<n) (hp:p<=spot\/p=i) :
 (R' p (t j) / R j (t j)).natAbs<=2 ^ i*μ/\ShrG n W w i G R B t b p spot μ (j+1) (addR R' p j (-(R' p (t j) / R j (t j)))) (addR B' j p (R' p (t j) / R j (t j))):=by
 obtain⟨q,s⟩:=h.s.step P (by omega) hj (by omega) (by omega) (by omega) (by omega)
 refine⟨Nat.le_trans q (Nat.mul_le_mul_right _ (Nat.pow_le_pow_right (by decide) (by omega))),s,fun c hc=>?_⟩
 have ne:p≠j:=by omega
 rw [Bj,h.s.same j c (fun z=>ne z.symm)]
 have a:=h.gc c hc
 have e:=Int.natAbs_add_le (1*R' p c) (-(R' p (t j) / R j (t j))*R j c)
 rw [Int.one_mul,Int.natAbs_mul,Int.natAbs_neg] at e
 rw [Int.one_mul]
 have m:=Nat.mul_le_mul q (hG j c hf hj hc)
 rw [show j+1-(spot+1)=(j-(spot+1))+1 by omega,Nat.pow_succ]
 have z:2 ^ (j-(spot+1))*2*μ*2 ^ b=2 ^ (j-(spot+1))*μ*2 ^ b+2 ^ (j-(spot+1))*μ*2 ^ b:=by grind
 omega
theorem ShrG.done {n W w i:Nat}{G:Nat->Prop}{R B R' B':Mat}{t:Nat->Nat}{b p spot μ:Nat} (h:ShrG n W w i G R B t b p spot μ i R' B') (P:∀ l,spot<l->l<i->t spot<t l):W3 n W w i G R B t b p spot μ R' B' :=
 ⟨h.s.good,h.s.same,fun c hc=>h.s.left c fun l h1 h2=>by have:=P l (by omega) h2;omega,fun l h1 h2=>h.s.red l (by omega) h2,fun c hc=>by have:=h.gc c hc;omega⟩
theorem B9 {a b:Nat} (h:a<=b):2 ^ a<=2 ^ b:=Nat.pow_le_pow_right (by decide) h
theorem mul2 {x y a b:Nat} (hx:x<=2 ^ a) (hy:y<=2 ^ b):x*y<=2 ^ (a+b):=by rw [Nat.pow_add];exact Nat.mul_le_mul hx hy
theorem Cz.addPre {n W w i:Nat}{G:Nat->Prop}{R0 B0 R B:Mat}{t:Nat->Nat}{π b spot:Nat} (H:Jt n W w i G R0 B0 t π b) (h:Cz n W w i G R0 B0 t π b spot R B) (hs:spot<i) {q:Int} (hq:q.natAbs<=2 ^ π) :
 ∀ l,spot<l->l<i->(addR R i spot (-q) i (t l)).natAbs<=2 ^ (π+1)*(addR R i spot (-q) l (t l)).natAbs:=fun l h1 h2=>by
 rw [Bj,By (show l≠i by omega)]
 obtain⟨r0,r1⟩:=H.part.red spot l (Nat.zero_le _) h1 h2
 rw [←h.old spot _ (Nat.le_refl _) hs,←h.old l _ (by omega) h2] at r1
 rw [←h.old spot _ (Nat.le_refl _) hs] at r0
 have p:=h.pos l h2
 have a:=h.pv l (by omega) h2
 have e:=Int.natAbs_add_le (1*R i (t l)) (-q*R spot (t l))
 rw [Int.one_mul,Int.natAbs_mul,Int.natAbs_neg] at e
 rw [Int.one_mul]
 have m:q.natAbs*(R spot (t l)).natAbs<=2 ^ π*(R l (t l)).natAbs:=Nat.mul_le_mul hq (by omega)
 have m2:2 ^ π*1<=2 ^ π*(R l (t l)).natAbs:=Nat.mul_le_mul_left _ (by omega)
 rw [Nat.pow_succ]
 have z:2 ^ π*2*(R l (t l)).natAbs=2 ^ π*(R l (t l)).natAbs+2 ^ π*(R l (t l)).natAbs:=by grind
 omega
theorem Cz.metAdd {n W w i:Nat}{G:Nat->Prop}{R0 B0 R B R2 B2:Mat}{t:Nat->Nat}{π b spot:Nat} (H:Jt n W w i G R0 B0 t π b) (h:Cz n W w i G R0 B0 t π b spot R B) (hs:spot<i) {q:Int} (hq:q.natAbs<=2 ^ π) (hz:∀ c,c<t spot->R i c=0) (he:R i (t spot)=q*R spot (t spot))
 (S:W3 n W w i G (addR R i spot (-q)) (addR B spot i q) t b i spot (2 ^ (π+1)) R2 B2):Cz n W w i G R0 B0 t π b (spot+1) R2 B2:=by
 have ne:i≠spot:=by omega
 have keep:∀ r c,r≠i->R2 r c=R r c:=fun r c hr=>by rw [S.same r c hr,By hr]
 refine⟨?_,fun j c hj hc=>by rw [keep j c (by omega)];exact h.zero j c hj hc,fun j hj=>by rw [keep j _ (by omega)];exact h.pos j hj,fun j c hj hji=>by rw [keep j c (by omega)];exact h.old j c (by omega) hji,fun j c hj hc=>?_,fun l h1 h2=>?_,fun r c hr hc=>?_⟩
 . have g:=Good.add (n:=n) (W:=W) (w:=w) (lo:=i+1) R B (show i<i+1 by omega) (show spot<i+1 by omega) H.hi ne (-q)
   rw [Int.neg_neg] at g
   exact (h.good.trans g).trans S.good
 . have ts:c<=t spot:=by
    by_cases e:j=spot
    . rw [←e];exact hc
    . have:=H.part.inc j spot (Nat.zero_le _) (by omega) hs;omega
   rw [S.left c ts,Bj]
   by_cases e:c=t spot
   . rw [e,he,Int.one_mul,Int.neg_mul];omega
   . rw [hz c (by omega),h.zero spot c hs (by omega)];simp
 . obtain⟨a,c⟩:=S.red l (by omega) h2
   rw [By (show l≠i by omega)] at c
   have d:=H.hd l h2
   rw [←h.old l _ (by omega) h2] at d
   omega
 . have zb:b+i+3+2*π+(spot+1)*(π+1)=(b+i+3+2*π+spot*(π+1))+π+1:=by rw [Nat.add_mul];omega
   rw [zb]
   generalize hz2:b+i+3+2*π+spot*(π+1)=z
   have hzb:b+i+3+2*π<=z:=by rw [←hz2];exact Nat.le_add_right _ _
   by_cases e:r=i
   . subst e
     have a:=S.gc c hc
     have g:=h.gc r c (Nat.le_refl _) hc
     rw [hz2] at g
     have rs:(R spot c).natAbs<=2 ^ b:=by rw [h.old spot c (Nat.le_refl _) hs];exact H.rw spot c hs hc
     have e1:=Int.natAbs_add_le (1*R r c) (-q*R spot c)
     rw [Int.one_mul,Int.natAbs_mul,Int.natAbs_neg] at e1
     rw [Bj,Int.one_mul] at a
     have m1:=mul2 hq rs
     have m2:2 ^ (r-(spot+1))*2 ^ (π+1)*2 ^ b<=2 ^ (z-2):=by
      rw [←Nat.pow_add,←Nat.pow_add]
      exact B9 (by omega)
     have m3:2 ^ (π+b)<=2 ^ (z-2):=B9 (by omega)
     have m4:4*2 ^ (z-2)=2 ^ z:=by rw [show z=(z-2)+2 by omega,Nat.pow_add];simp;try omega
     have m5:2*2 ^ z<=2 ^ (z+π+1):=by rw [show z+π+1=1+(z+π) by omega,Nat.pow_add];exact Nat.mul_le_mul (by decide) (B9 (by omega))
     omega
   . rw [keep r c e]
     have g:=h.gc r c hr hc
     rw [hz2] at g
     exact Nat.le_trans g (B9 (by omega))
structure Ar8 (π:Nat) (h0 o0 x y z u:Int):Prop where
 one:x*u-y*z=1
 hd:0<x*h0+y*o0
 ot:z*h0+u*o0=0
 lx:x.natAbs<=2 ^ π
 ly:y.natAbs<=2 ^ π
 lz:z.natAbs<=2 ^ π
 lu:u.natAbs<=2 ^ π
theorem Ae6 {x y a c:Int}{π h:Nat} (hx:x.natAbs<=2 ^ π) (hy:y.natAbs<=2 ^ π) (ha:a.natAbs<=h) (hc:c.natAbs<=2 ^ π) (h1:1<=h):(x*a+y*c).natAbs<=2 ^ (2*π+1)*h:=by
 have e:=Int.natAbs_add_le (x*a) (y*c)
 rw [Int.natAbs_mul,Int.natAbs_mul] at e
 have m1:x.natAbs*a.natAbs<=2 ^ (2*π)*h:=Nat.mul_le_mul (Nat.le_trans hx (B9 (by omega))) ha
 have m2:y.natAbs*c.natAbs<=2 ^ (2*π)*h:=Nat.le_trans (mul2 hy hc) (by rw [show π+π=2*π by omega];exact Nat.le_mul_of_pos_right _ h1)
 rw [Nat.pow_succ]
 have z:2 ^ (2*π)*2*h=2 ^ (2*π)*h+2 ^ (2*π)*h:=by grind
 omega
theorem Cz.blendPre {n W w i:Nat}{G:Nat->Prop}{R0 B0 R B:Mat}{t:Nat->Nat}{π b spot:Nat} (H:Jt n W w i G R0 B0 t π b) (h:Cz n W w i G R0 B0 t π b spot R B) (hs:spot<i) {x y z u:Int} (e:Ar8 π (R spot (t spot)) (R i (t spot)) x y z u) :
 (∀ l,spot<l->l<i->(blendR R spot i x y z u spot (t l)).natAbs<=2 ^ (2*π+1)*(blendR R spot i x y z u l (t l)).natAbs)/\(∀ l,spot<l->l<i->(blendR R spot i x y z u i (t l)).natAbs<=2 ^ (2*π+1)*(blendR R spot i x y z u l (t l)).natAbs):=by
 have ne:spot≠i:=by omega
 have base:∀ l,spot<l->l<i->(R spot (t l)).natAbs<=(R l (t l)).natAbs/\1<=(R l (t l)).natAbs:=fun l h1 h2=>by
  obtain⟨r0,r1⟩:=H.part.red spot l (Nat.zero_le _) h1 h2
  rw [←h.old spot _ (Nat.le_refl _) hs,←h.old l _ (by omega) h2] at r1
  rw [←h.old spot _ (Nat.le_refl _) hs] at r0
  have p:=h.pos l h2
  omega
 refine⟨fun l h1 h2=>?_,fun l h1 h2=>?_⟩
 . rw [El ne,Cg (show l≠spot by omega) (show l≠i by omega)]
   exact Ae6 e.lx e.ly (base l h1 h2).1 (h.pv l (by omega) h2) (base l h1 h2).2
 . rw [Fz,Cg (show l≠spot by omega) (show l≠i by omega)]
   exact Ae6 e.lz e.lu (base l h1 h2).1 (h.pv l (by omega) h2) (base l h1 h2).2
theorem Cz.metBlend {n W w i:Nat}{G:Nat->Prop}{R0 B0 R B R2 B2 R3 B3:Mat}{t:Nat->Nat}{π b spot:Nat} (H:Jt n W w i G R0 B0 t π b) (h:Cz n W w i G R0 B0 t π b spot R B) (hs:spot<i) {x y z u:Int} (e:Ar8 π (R spot (t spot)) (R i (t spot)) x y z u) (hz:∀ c,c<t spot->R i c=0)
 (S1:W3 n W w i G (blendR R spot i x y z u) (blendR B spot i u (-z) (-y) x) t b spot spot (2 ^ (2*π+1)) R2 B2) (S2:W3 n W w i G R2 B2 t b i spot (2 ^ (2*π+1)) R3 B3):Cz n W w i G R0 B0 t π b (spot+1) R3 B3:=by
 have ne:spot≠i:=by omega
 have keep:∀ r c,r≠i->r≠spot->R3 r c=R r c:=fun r c h1 h2=>by rw [S2.same r c h1,S1.same r c h2,Cg h2 h1]
 have rs:∀ c,R3 spot c=R2 spot c:=fun c=>S2.same spot c ne
 have r2i:∀ c,R2 i c=z*R spot c+u*R i c:=fun c=>by rw [S1.same i c (fun w=>ne w.symm),Fz]
 have gz:∀ c,c<t spot->R spot c=0:=fun c hc=>h.zero spot c hs hc
 refine⟨?_,fun j c hj hc=>?_,fun j hj=>?_,fun j c hj hji=>by rw [keep j c (by omega) (by omega)];exact h.old j c (by omega) hji,fun j c hj hc=>?_,fun l h1 h2=>?_,fun r c hr hc=>?_⟩
 . have g:=Good.blend (n:=n) (W:=W) (w:=w) (lo:=i+1) R B (show spot<i+1 by omega) (show i<i+1 by omega) H.hi ne e.one
   exact ((h.good.trans g).trans S1.good).trans S2.good
 . by_cases e1:j=spot
   . subst e1
     rw [rs,S1.left c (by omega),El ne,gz c hc,hz c hc]
     simp
   . rw [keep j c (by omega) e1];exact h.zero j c hj hc
 . by_cases e1:j=spot
   . subst e1
     rw [rs,S1.left _ (Nat.le_refl _),El ne]
     exact e.hd
   . rw [keep j _ (by omega) e1];exact h.pos j hj
 . have ts:c<=t spot:=by
    by_cases e1:j=spot
    . rw [←e1];exact hc
    . have:=H.part.inc j spot (Nat.zero_le _) (by omega) hs;omega
   rw [S2.left c ts,r2i]
   by_cases e1:c=t spot
   . rw [e1];exact e.ot
   . rw [hz c (by omega),gz c (by omega)];simp
 . obtain⟨a,c⟩:=S2.red l (by omega) h2
   rw [S1.same l _ (by omega),Cg (show l≠spot by omega) (show l≠i by omega)] at c
   have d:=H.hd l h2
   rw [←h.old l _ (by omega) h2] at d
   omega
 . have zb:b+i+3+2*π+(spot+1)*(π+1)=(b+i+3+2*π+spot*(π+1))+π+1:=by rw [Nat.add_mul];omega
   rw [zb]
   have g0:=h.gc spot c (by omega) hc
   have gi:=h.gc i c (Nat.le_refl _) hc
   have gr:=h.gc r c hr hc
   generalize hz2:b+i+3+2*π+spot*(π+1)=zz at g0 gi gr
   have hzb:b+i+3+2*π<=zz:=by rw [←hz2];exact Nat.le_add_right _ _
   have rsb:(R spot c).natAbs<=2 ^ b:=by rw [h.old spot c (Nat.le_refl _) hs];exact H.rw spot c hs hc
   have bnd:∀{x y:Int},x.natAbs<=2 ^ π->y.natAbs<=2 ^ π->(x*R spot c+y*R i c).natAbs+2 ^ (i-(spot+1))*2 ^ (2*π+1)*2 ^ b<=2 ^ (zz+π+1):=fun {x y} hx hy=>by
    have e1:=Int.natAbs_add_le (x*R spot c) (y*R i c)
    rw [Int.natAbs_mul,Int.natAbs_mul] at e1
    have m1:=mul2 hx rsb
    have m2:=mul2 hy gi
    have m3:2 ^ (i-(spot+1))*2 ^ (2*π+1)*2 ^ b<=2 ^ (zz-2):=by
     rw [←Nat.pow_add,←Nat.pow_add]
     exact B9 (by omega)
    have m4:2 ^ (π+b)<=2 ^ (zz-2):=B9 (by omega)
    have m5:4*2 ^ (zz-2)=2 ^ zz:=by rw [show zz=(zz-2)+2 by omega,Nat.pow_add];simp;try omega
    have m6:2 ^ zz<=2 ^ (π+zz):=B9 (by omega)
    have m7:2 ^ (zz+π+1)=2*2 ^ (π+zz):=by rw [show zz+π+1=1+(π+zz) by omega,Nat.pow_add,Nat.pow_one]
    omega
   by_cases e1:r=i
   . subst e1
     have a:=S2.gc c hc
     rw [r2i] at a
     exact Nat.le_trans a (bnd e.lz e.lu)
   . by_cases e2:r=spot
     . subst e2
       have a:=S1.gc c hc
       rw [El ne] at a
       rw [rs]
       exact Nat.le_trans a (bnd e.lx e.ly)
     . rw [keep r c e1 e2]
       exact Nat.le_trans gr (B9 (by omega))
end Lat
namespace Lat
open Hb
def insT (t:Nat->Nat) (s st:Nat):Nat->Nat:=fun r=>if r<s then t r else if r=s then st else t (r-1)
structure Ins (n W w i:Nat) (G:Nat->Prop) (R0 B0:Mat) (t1:Nat->Nat) (Y:Nat) (R B:Mat):Prop where
 good:Good n W w (i+1) R0 B0 R B
 s0:Ga (i+1) R t1
 lt:∀ j,j<=i->t1 j<W
 pg:∀ j,j<=i->G (t1 j)
 gc:∀ r c,r<=i->G c->(R r c).natAbs<=2 ^ Y
theorem Cz.ins {n W w i:Nat}{G:Nat->Prop}{R0 B0 R B:Mat}{t:Nat->Nat}{π b spot st:Nat} (H:Jt n W w i G R0 B0 t π b) (h:Cz n W w i G R0 B0 t π b spot R B) (hs:spot<=i) (h0:∀ c,c<st->R i c=0) (h1:R i st≠0) (hW:st<W) (hG:G st) (hpg:∀ j,j<i->G (t j)) (hex:spot<i->st<t spot) :
 Ins n W w i G R0 B0 (insT t spot st) (b+i+3+2*π+i*(π+1)) (if moveR R i spot spot st<0 then negR (moveR R i spot) spot else moveR R i spot) (if moveR R i spot spot st<0 then negR (moveR B i spot) spot else moveR B i spot):=by
 have row:∀ c,moveR R i spot spot c=R i c:=fun c=>by rw [move_row];unfold mvI;rw [if_neg (by omega),if_pos rfl]
 have lo:∀ r c,r<spot->moveR R i spot r c=R r c:=fun r c hr=>by rw [move_row];unfold mvI;rw [if_pos hr]
 have up:∀ r c,spot<r->r<=i->moveR R i spot r c=R (r-1) c:=fun r c hr hi=>by rw [move_row];unfold mvI;rw [if_neg (by omega),if_neg (by omega),if_pos hi]
 have gm:Good n W w (i+1) R0 B0 (moveR R i spot) (moveR B i spot):=h.good.trans (Good.move R B (by omega) hs H.hi)
 have tl:∀ j,j<spot->t j<st:=fun j hj=>by
  refine Nat.lt_of_not_le fun z=>h1 (h.pass j st hj z)
 have inc:∀ j k,j<k->k<i+1->insT t spot st j<insT t spot st k:=fun j k hjk hk=>by
  unfold insT
  by_cases a1:j<spot
  . rw [if_pos a1]
    by_cases b1:k<spot
    . rw [if_pos b1];exact H.part.inc j k (Nat.zero_le _) hjk (by omega)
    . rw [if_neg b1]
      by_cases b2:k=spot
      . rw [if_pos b2];exact tl j a1
      . rw [if_neg b2]
        exact H.part.inc j (k-1) (Nat.zero_le _) (by omega) (by omega)
  . rw [if_neg a1,if_neg (show ¬k<spot by omega),if_neg (show ¬k=spot by omega)]
    by_cases a2:j=spot
    . rw [if_pos a2]
      have e:=hex (by omega)
      by_cases e2:k-1=spot
      . rw [e2];exact e
      . exact Nat.lt_trans e (H.part.inc spot (k-1) (Nat.zero_le _) (by omega) (by omega))
    . rw [if_neg a2]
      exact H.part.inc (j-1) (k-1) (Nat.zero_le _) (by omega) (by omega)
 have zero:∀ j c,j<i+1->c<insT t spot st j->moveR R i spot j c=0:=fun j c hj hc=>by
  unfold insT at hc
  by_cases a1:j<spot
  . rw [if_pos a1] at hc
    rw [lo j c a1]
    exact h.zero j c (by omega) hc
  . rw [if_neg a1] at hc
    by_cases a2:j=spot
    . rw [if_pos a2] at hc
      rw [a2,row]
      exact h0 c hc
    . rw [if_neg a2] at hc
      rw [up j c (by omega) (by omega)]
      exact h.zero (j-1) c (by omega) hc
 have posn:∀ j,j<i+1->j≠spot->0<moveR R i spot j (insT t spot st j):=fun j hj hne=>by
  unfold insT
  by_cases a1:j<spot
  . rw [if_pos a1,lo j _ a1]
    exact h.pos j (by omega)
  . rw [if_neg a1,if_neg hne,up j _ (by omega) (by omega)]
    exact h.pos (j-1) (by omega)
 have ts:insT t spot st spot=st:=by unfold insT;rw [if_neg (by omega),if_pos rfl]
 have bd:∀ r c,r<=i->G c->(moveR R i spot r c).natAbs<=2 ^ (b+i+3+2*π+i*(π+1)):=fun r c hr hc=>by
  rw [move_row]
  have lm:mvI i spot r<=i:=by
   unfold mvI
   by_cases a1:r<spot
   . rw [if_pos a1];omega
   . rw [if_neg a1]
     by_cases a2:r=spot
     . rw [if_pos a2];omega
     . rw [if_neg a2,if_pos hr];omega
  refine Nat.le_trans (h.gc _ c lm hc) (B9 ?_)
  have:=Nat.mul_le_mul_right (π+1) hs
  omega
 have lt:∀ j,j<=i->insT t spot st j<W:=fun j hj=>by
  unfold insT
  split
  . exact H.lt j (by omega)
  . split
    . exact hW
    . exact H.lt (j-1) (by omega)
 have pg:∀ j,j<=i->G (insT t spot st j):=fun j hj=>by
  unfold insT
  split
  . exact hpg j (by omega)
  . split
    . exact hG
    . exact hpg (j-1) (by omega)
 by_cases neg:moveR R i spot spot st<0
 . rw [if_pos neg,if_pos neg]
   have nr:∀ c,negR (moveR R i spot) spot spot c=- moveR R i spot spot c:=fun c=>At ..
   have nn:∀ r c,r≠spot->negR (moveR R i spot) spot r c=moveR R i spot r c:=fun r c hr=>A1 hr c
   refine⟨gm.trans (Good.neg _ _ (by omega) H.hi),⟨inc,fun j c hj hc=>?_,fun j hj=>?_⟩,lt,pg,fun r c hr hc=>?_⟩
   . by_cases e:j=spot
     . have z:=zero j c hj hc
       rw [e] at z ⊢
       rw [nr,z];rfl
     . rw [nn j c e];exact zero j c hj hc
   . by_cases e:j=spot
     . rw [e,nr,ts];omega
     . rw [nn j _ e];exact posn j hj e
   . by_cases e:r=spot
     . have z:=bd r c hr hc
       rw [e] at z ⊢
       rw [nr,Int.natAbs_neg];exact z
     . rw [nn r c e];exact bd r c hr hc
 . rw [if_neg neg,if_neg neg]
   refine⟨gm,⟨inc,zero,fun j hj=>?_⟩,lt,pg,bd⟩
   by_cases e:j=spot
   . rw [e,ts]
     have:moveR R i spot spot st≠0:=by rw [row];exact h1
     omega
   . exact posn j hj e
structure Down (n W w i:Nat) (R0 B0:Mat) (t:Nat->Nat) (k:Nat) (R B:Mat):Prop where
 good:Good n W w (i+1) R0 B0 R B
 s0:Ga (i+1) R t
 old:∀ r c,r<k->R r c=R0 r c
 red:∀ r j,k<=r->r<j->j<=i->0<=R r (t j)/\R r (t j)<R j (t j)
 hd:∀ j,j<=i->R j (t j)=R0 j (t j)
theorem Down.start {n W w i:Nat}{R B:Mat}{t:Nat->Nat} (h:Ga (i+1) R t):Down n W w i R B t (i+1) R B:=⟨Good.refl ..,h,fun _ _ _=>rfl,fun r j h1 h2 h3=>by omega,fun _ _=>rfl⟩
theorem Down.part {n W w i:Nat}{R0 B0 R B:Mat}{t:Nat->Nat}{k:Nat} (h:Down n W w i R0 B0 t k R B):Part R t k (i+1):=⟨fun j l _ h1 h2=>h.s0.inc j l h1 h2,fun j c _ h1 h2=>h.s0.zero j c h1 h2,fun j _ h1=>h.s0.pos j h1,fun r j h1 h2 h3=>h.red r j h1 h2 (by omega)⟩
theorem Down.next {n W w i:Nat}{R0 B0 R B R' B':Mat}{t:Nat->Nat}{k μ:Nat} (h:Down n W w i R0 B0 t (k+1) R B) (hk:k<=i) (S:Shr n W w (i+1) R B t k (k+1) (i+1) (i+1) μ R' B'):Down n W w i R0 B0 t k R' B':=by
 have tl:∀ c,c<=t k->R' k c=R k c:=fun c hc=>S.left c fun l h1 h2=>by have:=h.s0.inc k l (by omega) h2;omega
 refine⟨h.good.trans S.good,⟨h.s0.inc,fun j c hj hc=>?_,fun j hj=>?_⟩,fun r c hr=>?_,fun r j h1 h2 h3=>?_,fun j hj=>?_⟩
 . by_cases e:j=k
   . subst e;rw [tl c (by omega)];exact h.s0.zero j c hj hc
   . rw [S.same j c e];exact h.s0.zero j c hj hc
 . by_cases e:j=k
   . subst e;rw [tl _ (Nat.le_refl _)];exact h.s0.pos j hj
   . rw [S.same j _ e];exact h.s0.pos j hj
 . rw [S.same r c (by omega)];exact h.old r c (by omega)
 . rw [S.same j _ (show j≠k by omega)]
   by_cases e:r=k
   . subst e
     exact S.red j (by omega) (by omega)
   . rw [S.same r _ e]
     exact h.red r j (by omega) h2 h3
 . by_cases e:j=k
   . subst e;rw [tl _ (Nat.le_refl _)];exact h.hd j hj
   . rw [S.same j _ e];exact h.hd j hj
structure C6 (n W w i:Nat) (G:Nat->Prop) (M B0:Mat) (t:Nat->Nat) (R B:Mat):Prop where
 good:Good n W w i M B0 R B
 st:Ey W i R t
 pg:∀ j,j<i->G (t j)
theorem C6.start (n W w:Nat) (G:Nat->Prop) (M B0:Mat) (t:Nat->Nat):C6 n W w 0 G M B0 t M B0:=⟨Good.refl ..,⟨fun j hj=>by omega,fun j k _ hk=>by omega,fun j c hj=>by omega,fun j hj=>by omega,fun k j _ hj=>by omega⟩,fun j hj=>by omega⟩
theorem C6.next {n W w i:Nat}{G:Nat->Prop}{M B0 R B R1 B1 R2 B2:Mat}{t t1:Nat->Nat}{Y:Nat} (h:C6 n W w i G M B0 t R B) (I:Ins n W w i G R B t1 Y R1 B1) (D:Down n W w i R1 B1 t1 0 R2 B2):C6 n W w (i+1) G M B0 t1 R2 B2 :=
 ⟨((h.good.mono (by omega)).trans I.good).trans D.good,⟨fun j hj=>I.lt j (by omega),D.s0.inc,D.s0.zero,D.s0.pos,fun k j h1 h2=>D.red k j (Nat.zero_le _) h1 (by omega)⟩,fun j hj=>I.pg j (by omega)⟩
theorem C6.rows {n W w:Nat}{G:Nat->Prop}{M B0 R B:Mat}{t:Nat->Nat} (h:C6 n W w n G M B0 t R B) (hw:w<=W):Cn n w M R:=by
 have e:=h.good.eqv n (Nat.le_refl _)
 have cut:∀{S:Mat}{v:Nat->Int},In W n S v->In w n S v:=fun ⟨x,hx⟩=>⟨x,fun c hc=>hx c (by omega)⟩
 refine⟨fun i hi=>cut (e.1 i hi),fun i hi=>cut (e.2 i hi),?_⟩
 obtain⟨r,hr,h1,h2⟩:∃ r,r<=n/\(∀ j,j<r->t j<w)/\∀ j,r<=j->j<n->w<=t j:=by
  have:∀ m,m<=n->∃ r,r<=m/\(∀ j,j<r->t j<w)/\∀ j,r<=j->j<m->w<=t j:=by
   intro m
   induction m with
   | zero=>intro _;exact ⟨0,Nat.le_refl _,fun j hj=>by omega,fun j _ hj=>by omega⟩
   | succ m ih =>
     intro hm
     obtain⟨r,a,b,c⟩:=ih (by omega)
     by_cases z:t m<w
     . have hrm:r=m:=by
        refine Nat.le_antisymm a (Nat.le_of_not_lt fun y=>?_)
        have:=c r (Nat.le_refl _) y
        have:=h.st.inc r m y (by omega)
        omega
       exact ⟨m+1,Nat.le_refl _,fun j hj=>by
        by_cases q:j=m
        . rw [q];exact z
        . exact b j (by omega),fun j h1 h2=>by omega⟩
     . exact ⟨r,by omega,b,fun j h1 h2=>by
        by_cases q:j=m
        . rw [q];omega
        . exact c j h1 (by omega)⟩
  exact this n (Nat.le_refl _)
 exact ⟨r,t,hr,⟨h1,fun j k a b=>h.st.inc j k a (by omega),fun j c a b=>h.st.zero j c (by omega) b,fun j a=>h.st.pos j (by omega),fun k j a b=>h.st.red k j a (by omega)⟩,fun i c a b d=>h.st.zero i c b (by have:=h2 i a b;omega)⟩
end Lat
namespace Lat
open Hb
def unit (e:Int) (j:Nat):Nat->Int:=fun c=>if c=j then e else 0
abbrev tr (T:Mat):Mat:=fun i j=>T j i
structure Gb (n w r:Nat) (e:Int) (T:Mat):Prop where
 rn:r<=n
 rw:r<=w
 row0:∀ i c,r<=i->i<n->c<w->T i c=0
 col0:∀ i c,i<n->r<=c->c<w->T i c=0
 rows:∀ j,j<r->In w n T (unit e j)
 cols:∀ i,i<r->In n w (tr T) (unit e i)
theorem Gb.flip {n w r:Nat}{e:Int}{T:Mat} (h:Gb n w r e T):Gb w n r e (tr T):=⟨h.rw,h.rn,fun i c h1 h2 h3=>h.col0 c i h3 h1 h2,fun i c h1 h2 h3=>h.row0 c i h2 h3 h1,h.cols,h.rows⟩
theorem Mz {n w r r':Nat}{e:Int}{T:Mat}{t:Nat->Nat} (he:0<e) (hr:r<=w) (hr':r'<=n) (hst:Ey w r' T t) (hz:∀ i c,r'<=i->i<n->c<w->T i c=0) (hc:∀ i c,i<n->r<=c->c<w->T i c=0) (hrows:∀ j,j<r->In w n T (unit e j)) :
 r'=r/\(∀ j,j<r->t j=j)/\∀ j,j<r->T j j∣e:=by
 have tl:∀ j,j<r'->t j<r:=fun j hj=>by
  refine Nat.lt_of_not_le fun z=>?_
  have p:=hst.pos j hj
  rw [hc j (t j) (by omega) z (hst.lt j hj)] at p
  omega
 have main:∀ j,j<=r->j<=r'/\(∀ k,k<j->t k=k)/\∀ k,k<j->T k k∣e:=by
  intro j
  induction j with
  | zero=>intro _;exact ⟨Nat.zero_le _,fun k hk=>by omega,fun k hk=>by omega⟩
  | succ j ih =>
    intro hj
    obtain⟨a,b,c⟩:=ih (by omega)
    obtain⟨x,hx⟩:=(hrows j (by omega)).sub hr' hz
    have v0:∀ k,k<j->unit e j (t k)=0:=fun k hk=>by rw [b k hk];exact if_neg (by omega)
    obtain⟨x0,x1⟩:=hst.lead hx j a v0
    have ej:unit e j j=e:=if_pos rfl
    have lt:j<r':=by
     refine Nat.lt_of_not_le fun z=>?_
     have:unit e j j=0:=by
      rw [hx j (by omega)]
      exact Ay fun k hk=>by rw [x0 k (by omega)];simp
     omega
    have tj:t j=j:=by
     refine Nat.le_antisymm (Nat.le_of_not_lt fun z=>?_) (hst.ge j lt)
     have:unit e j j=0:=by
      rw [hx j (by omega)]
      refine Ay fun k hk=>?_
      by_cases e1:k<j
      . rw [x0 k e1];simp
      . rw [hst.zero k j hk (Nat.lt_of_lt_of_le z (hst.mono j k (by omega) hk))];simp
     omega
    have d:=x1 lt
    rw [tj,ej] at d
    refine⟨lt,fun k hk=>?_,fun k hk=>?_⟩
    . by_cases e1:k=j
      . rw [e1];exact tj
      . exact b k (by omega)
    . by_cases e1:k=j
      . rw [e1];exact ⟨x j,by rw [d,Int.mul_comm]⟩
      . exact c k (by omega)
 obtain⟨a,b,c⟩:=main r (Nat.le_refl _)
 refine⟨Nat.le_antisymm (Nat.le_of_not_lt fun z=>?_) a,b,c⟩
 have:=tl r z
 have:=hst.ge r z
 omega
theorem Sb {n w r:Nat}{e:Int}{T:Mat}{t:Nat->Nat} (hrn:r<=n) (hrw:r<=w) (hst:Ey w r T t) (hz:∀ i c,r<=i->i<n->c<w->T i c=0) (hc:∀ i c,i<n->r<=c->c<w->T i c=0) (hrows:∀ j,j<r->In w n T (unit e j)):∀ i,i<r->In n w (tr T) (unit e i):=by
 have ch:∀ j,∃ x:Nat->Int,j<r->∀ c,c<w->unit e j c=sumN (fun k=>x k*T k c) r:=fun j=>by
  by_cases hj:j<r
  . obtain⟨x,hx⟩:=(hrows j hj).sub hrn hz
    exact ⟨x,fun _=>hx⟩
  . exact ⟨fun _=>0,fun z=>absurd z hj⟩
 obtain⟨X,hX⟩:∃ X:Nat->Nat->Int,∀ j,j<r->∀ c,c<w->unit e j c=sumN (fun k=>X j k*T k c) r:=Classical.axiomOfChoice ch
 have key:∀ i,i<r->∀ j,j<r->sumN (fun c=>T i c*X c j) r=if i=j then e else 0:=by
  intro i hi
  have hz0:∀ c,c<w->(fun _=>(0:Int)) c=sumN (fun j=>(sumN (fun d=>T i d*X d j) r-(if i=j then e else 0))*T j c) r:=by
   intro c hcw
   have e1:sumN (fun j=>(sumN (fun d=>T i d*X d j) r-(if i=j then e else 0))*T j c) r=sumN (fun j=>sumN (fun d=>T i d*X d j*T j c) r+(-1)*((if j=i then 1 else 0)*(e*T j c))) r:=by
    refine Ak fun j _=>?_
    rw [Int.sub_mul,←Kn]
    by_cases z:i=j
    . subst z;rw [if_pos rfl,if_pos rfl];omega
    . rw [if_neg z,if_neg fun y=>z y.symm];omega
   rw [e1,Bw,Au,Bo (fun j=>e*T j c) i r,if_pos hi,Eb]
   have e2:sumN (fun d=>sumN (fun j=>T i d*X d j*T j c) r) r=sumN (fun d=>T i d*unit e d c) r:=by
    refine Ak fun d hd=>?_
    rw [hX d hd c hcw,←Au]
    exact Ak fun j _=>Int.mul_assoc ..
   rw [e2]
   show (0:Int)=_
   by_cases hcr:c<r
   . rw [Ba (j:=c) hcr fun d hd hne=>by show T i d*(if c=d then e else 0)=0;rw [if_neg fun y=>hne y.symm];simp]
     show (0:Int)=T i c*(if c=c then e else 0)+-1*(e*T i c)
     rw [if_pos rfl,Int.mul_comm]
     omega
   . rw [Ay fun d hd=>by show T i d*(if c=d then e else 0)=0;rw [if_neg (by omega)];simp,hc i c (by omega) (by omega) hcw]
     simp
  obtain⟨a,_⟩:=hst.lead hz0 r (Nat.le_refl _) fun _ _=>rfl
  intro j hj
  have:=a j hj
  omega
 intro i hi
 refine⟨fun c=>if c<r then X c i else 0,fun c hcn=>?_⟩
 show unit e i c=sumN (fun k=>(if k<r then X k i else 0)*T c k) w
 have e1:sumN (fun k=>(if k<r then X k i else 0)*T c k) w=sumN (fun k=>T c k*X k i) r:=by
  have:∀ m,r<=m->m<=w->sumN (fun k=>(if k<r then X k i else 0)*T c k) m=sumN (fun k=>T c k*X k i) r:=by
   intro m
   induction m with
   | zero =>
     intro h1 _
     have:r=0:=by omega
     subst this
     rfl
   | succ m ih =>
     intro h1 h2
     by_cases q:r=m+1
     . subst q
       refine Ak fun k hk=>?_
       rw [if_pos hk,Int.mul_comm]
     . show sumN _ m+(if m<r then X m i else 0)*T c m=_
       rw [ih (by omega) (by omega),if_neg (by omega)]
       simp
  exact this w hrw (Nat.le_refl _)
 rw [e1]
 by_cases hcr:c<r
 . rw [key c hcr i hi]
   rfl
 . rw [Ay fun k hk=>by rw [hz c k (by omega) hcn (by omega)];simp]
   exact if_neg (by omega)
theorem Cn.square {n w r:Nat}{e:Int}{T T':Mat} (s:Cn n w T T') (he:0<e) (h:Gb n w r e T):Gb n w r e T'/\∃ t,Ey w r T' t/\(∀ j,j<r->t j=j)/\∀ j,j<r->T' j j∣e:=by
 obtain⟨r',t,hr',hst,hz⟩:=s.st
 have hc:∀ i c,i<n->r<=c->c<w->T' i c=0:=fun i c hi h1 h2=>by
  obtain⟨x,hx⟩:=s.fwd i hi
  rw [hx c h2]
  exact Ay fun k hk=>by rw [h.col0 k c hk h1 h2];simp
 have hrows:∀ j,j<r->In w n T' (unit e j):=fun j hj=>(h.rows j hj).trans s.bwd
 obtain⟨e1,e2,e3⟩:=Mz he h.rw hr' hst hz hc hrows
 subst e1
 exact ⟨⟨h.rn,h.rw,hz,hc,hrows,Sb h.rn h.rw hst hz hc hrows⟩,t,hst,e2,e3⟩
theorem y7 {n w r:Nat}{e:Int}{T:Mat}{t:Nat->Nat} (he:0<e) (h:Gb n w r e T) (hst:Ey w r T t) (ht:∀ j,j<r->t j=j) (hd:∀ j,j<r->T j j∣e) {i c:Nat} (hi:i<n) (hc:c<w):0<=T i c/\T i c<=e:=by
 by_cases a:i<r
 . by_cases b:c<r
   . have l:=Int.le_of_dvd he (hd c b)
     rcases Nat.lt_trichotomy i c with z | z | z
     . have:=hst.red i c z b
       rw [ht c b] at this
       omega
     . subst z
       have:=hst.pos i a
       rw [ht i a] at this
       omega
     . rw [hst.zero i c a (by rw [ht i a];exact z)]
       omega
   . rw [h.col0 i c hi (by omega) hc];omega
 . rw [h.row0 i c (by omega) hi hc];omega
theorem p5 {n w r:Nat}{T:Mat}{t:Nat->Nat} (hrn:r<=n) (hst:Ey w r T t) (hz:∀ i c,r<=i->i<n->c<w->T i c=0):∀ i,i<r->In n w (tr T) (unit (prodN (fun j=>T j (t j)) r) i):=by
 have main:∀ m i,i<m->m<=r->In n w (tr T) (unit (prodN (fun j=>T j (t j)) (i+1)) i):=by
  intro m
  induction m with
  | zero=>intro i hi;omega
  | succ m ih =>
    intro i hi hm
    by_cases q:i<m
    . exact ih i q (by omega)
    have qi:i=m:=by omega
    subst qi
    have up:∀ k,k<=i->In n w (tr T) (fun d=>sumN (fun l=>(T l (t i)*prodN (fun j=>T j (t j)) i)*(if d=l then 1 else 0)) k):=by
     intro k
     induction k with
     | zero=>intro _;exact In.zero ..
     | succ k ihk =>
       intro hk
       have hk2:=ih k (by omega) (by omega)
       obtain⟨g,hg⟩:∃ g,prodN (fun j=>T j (t j)) i=prodN (fun j=>T j (t j)) (k+1)*g:=by
        have:∀ m,k+1<=m->∃ g,prodN (fun j=>T j (t j)) m=prodN (fun j=>T j (t j)) (k+1)*g:=by
         intro m
         induction m with
         | zero=>intro h;omega
         | succ m ihm =>
           intro h
           by_cases z:k+1=m+1
           . exact ⟨1,by rw [z];omega⟩
           . obtain⟨g,hg⟩:=ihm (by omega)
             exact ⟨g*T m (t m),by show prodN _ m*T m (t m)=_;rw [hg,Int.mul_assoc]⟩
        exact this i (by omega)
       refine ((ihk (by omega)).mix hk2 1 (T k (t i)*g)).congr fun d _=>?_
       show 1*sumN _ k+T k (t i)*g*(if d=k then prodN (fun j=>T j (t j)) (k+1) else 0)=sumN _ k+T k (t i)*prodN (fun j=>T j (t j)) i*(if d=k then 1 else 0)
       rw [hg]
       by_cases z:d=k
       . rw [if_pos z,if_pos z];grind
       . rw [if_neg z,if_neg z];omega
    have col:In n w (tr T) (tr T (t i)):=In.row (hst.lt i (by omega))
    refine (col.mix (up i (Nat.le_refl _)) (prodN (fun j=>T j (t j)) i) (-1)).congr fun d hd=>?_
    show prodN (fun j=>T j (t j)) i*T d (t i)+-1*sumN (fun l=>(T l (t i)*prodN (fun j=>T j (t j)) i)*(if d=l then 1 else 0)) i=unit (prodN (fun j=>T j (t j)) (i+1)) i d
    by_cases z:d<i
    . rw [Ba (j:=d) z fun l hl hne=>by rw [if_neg fun y=>hne y.symm];simp,if_pos rfl]
      rw [show unit (prodN (fun j=>T j (t j)) (i+1)) i d=0 from if_neg (by omega)]
      grind
    . rw [Ay fun l hl=>by rw [if_neg (by omega)];simp]
      by_cases z2:d=i
      . subst z2
        rw [show unit (prodN (fun j=>T j (t j)) (d+1)) d d=prodN (fun j=>T j (t j)) (d+1) from if_pos rfl]
        show _=prodN (fun j=>T j (t j)) d*T d (t d)
        omega
      . rw [show unit (prodN (fun j=>T j (t j)) (i+1)) i d=0 from if_neg z2]
        have:T d (t i)=0:=by
         by_cases z3:d<r
         . exact hst.s0.low z3 (by omega)
         . exact hz d _ (by omega) hd (hst.lt i (by omega))
        rw [this]
        simp
 intro i hi
 obtain⟨g,hg⟩:∃ g,prodN (fun j=>T j (t j)) r=prodN (fun j=>T j (t j)) (i+1)*g:=by
  have:∀ m,i+1<=m->∃ g,prodN (fun j=>T j (t j)) m=prodN (fun j=>T j (t j)) (i+1)*g:=by
   intro m
   induction m with
   | zero=>intro h;omega
   | succ m ihm =>
     intro h
     by_cases z:i+1=m+1
     . exact ⟨1,by rw [z];omega⟩
     . obtain⟨g,hg⟩:=ihm (by omega)
       exact ⟨g*T m (t m),by show prodN _ m*T m (t m)=_;rw [hg,Int.mul_assoc]⟩
  exact this r hi
 refine ((main r i hi (Nat.le_refl _)).mix (In.zero ..) g 0).congr fun d _=>?_
 show g*(if d=i then prodN (fun j=>T j (t j)) (i+1) else 0)+0*0=if d=i then prodN (fun j=>T j (t j)) r else 0
 by_cases z:d=i
 . rw [if_pos z,if_pos z,hg];grind
 . rw [if_neg z,if_neg z];omega
theorem Step.square {n w:Nat}{T T' T'':Mat}{r:Nat}{t:Nat->Nat} (hr:r<=n) (hst:Ey w r T' t) (hz:∀ i c,r<=i->i<n->c<w->T' i c=0) (s2:Cn w n (tr T') (tr T'')):r<=w/\Gb n w r (prodN (fun j=>T' j (t j)) r) T''/\∃ u,Ey n r (tr T'') u/\(∀ j,j<r->u j=j)/\∀ j,j<r->T'' j j∣prodN (fun j=>T' j (t j)) r:=by
 have he:0<prodN (fun j=>T' j (t j)) r:=Bf fun j hj=>hst.pos j hj
 obtain⟨q,u,hq,hsu,hzu⟩:=s2.st
 have hrw:r<=w:=by
  by_cases z:r=0
  . omega
  . have:=hst.ge (r-1) (by omega)
    have:=hst.lt (r-1) (by omega)
    omega
 have hc:∀ i c,i<w->r<=c->c<n->tr T'' i c=0:=fun i c hi h1 h2=>by
  obtain⟨x,hx⟩:=s2.fwd i hi
  rw [hx c h2]
  exact Ay fun k hk=>by rw [show tr T' k c=0 from hz c k h1 h2 hk];simp
 have hrows:∀ j,j<r->In n w (tr T'') (unit (prodN (fun j=>T' j (t j)) r) j):=fun j hj=>(p5 hr hst hz j hj).trans s2.bwd
 obtain⟨e1,e2,e3⟩:=Mz he hr hq hsu hzu hc hrows
 subst e1
 have sq:Gb w n q (prodN (fun j=>T' j (t j)) q) (tr T''):=⟨hrw,hr,hzu,hc,hrows,Sb hrw hr hsu hzu hc hrows⟩
 exact ⟨hrw,sq.flip,u,hsu,e2,e3⟩
end Lat
namespace Lat
open Hb
theorem As0:∀{n:Nat}{A:Mat},(∀ r c,r<n->c<n->(A r c).natAbs<=1)->(∀ c r r',c<n->r<n->r'<n->A r c≠0->A r' c≠0->r=r')->(det n A).natAbs<=1
 | 0,_,_,_=>by simp [det]
 | n+1,A,h1,h2=>by
   show (sumN (fun i=>sgi i*A i 0*det n (minr A i)) (n+1)).natAbs<=1
   by_cases e:∃ r,r<n+1/\A r 0≠0
   . obtain⟨r,hr,hne⟩:=e
     rw [Ba (j:=r) hr fun k hk hkr=>by
      have:A k 0=0:=Decidable.byContradiction fun z=>hkr (h2 0 k r (by omega) hk hr z hne)
      rw [this];simp]
     rw [Int.natAbs_mul,Int.natAbs_mul,O0,Nat.one_mul]
     have ih:=As0 (n:=n) (A:=minr A r) (fun x c hx hc=>h1 _ _ (by split<;>omega) (by omega)) fun c x x' hc hx hx' a b=>by
      have:=h2 (c+1) (if x<r then x else x+1) (if x'<r then x' else x'+1) (by omega) (by split<;>omega) (by split<;>omega) a b
      split at this<;>split at this<;>omega
     exact Nat.le_trans (Nat.mul_le_mul (h1 r 0 hr (by omega)) ih) (by decide)
   . rw [Ay fun k hk=>by
      have:A k 0=0:=Decidable.byContradiction fun z=>e ⟨k,hk,z⟩
      rw [this];simp]
     decide
theorem Uk {n p:Nat} (A:Mat) (hp:p<n) (a:Nat->Int) (U:Mat):∀ m,det n (setR A p fun c=>sumN (fun k=>a k*U k c) m)=sumN (fun k=>a k*det n (setR A p (U k))) m
 | 0=>by
   show det n (setR A p fun c=>(0:Int))=0
   exact Hm hp fun c _=>At ..
 | m+1=>by
   have e:(fun c=>sumN (fun k=>a k*U k c) (m+1))=fun c=>1*(fun c=>sumN (fun k=>a k*U k c) m) c+a m*U m c:=funext fun c=>by
    show sumN (fun k=>a k*U k c) m+a m*U m c=1*sumN (fun k=>a k*U k c) m+a m*U m c
    omega
   rw [e,Cy A _ _ 1 (a m) hp,Uk A hp a U m]
   show 1*sumN (fun k=>a k*det n (setR A p (U k))) m+a m*det n (setR A p (U m))=sumN (fun k=>a k*det n (setR A p (U k))) m+a m*det n (setR A p (U m))
   rw [Int.one_mul]
def selE (s:Nat->Nat):Mat:=fun r l=>if s l=r then 1 else 0
def selK (T:Mat) (s:Nat->Nat) (k:Nat):Mat:=fun r l=>if r<k then selE s r l else T r (s l)
theorem Aa2 {i:Nat}{T:Mat} (h:∀ r c,r<i->r<c->T r c=0) (s:Nat->Nat) {k:Nat} (hk:k<i):det i (selK T s k)=T k k*det i (selK T s (k+1)):=by
 have e0:selK T s k=setR (selK T s k) k fun c=>sumN (fun j=>T k j*selE s j c) (k+1):=by
  funext r c
  by_cases z:r=k
  . subst z
    rw [At]
    show (if r<r then selE s r c else T r (s c))=_
    rw [if_neg (by omega)]
    by_cases y:s c<r+1
    . rw [Ba (j:=s c) y fun j _ hne=>by
       have:selE s j c=0:=if_neg fun z=>hne z.symm
       rw [this];simp]
      have:selE s (s c) c=1:=if_pos rfl
      rw [this];simp
    . rw [Ay fun j hj=>by
       have:selE s j c=0:=if_neg (by omega)
       rw [this];simp]
      exact h r (s c) hk (by omega)
  . rw [A1 z]
 rw [e0,Uk _ hk,Ba (j:=k) (by omega) fun j hj hne=>?_]
 . congr 1
   refine Bc fun r c hr hc=>?_
   by_cases z:r=k
   . subst z
     rw [At]
     show _=if r<r+1 then selE s r c else T r (s c)
     rw [if_pos (by omega)]
   . rw [A1 z]
     show (if r<k then selE s r c else T r (s c))=if r<k+1 then selE s r c else T r (s c)
     by_cases y:r<k
     . rw [if_pos y,if_pos (by omega)]
     . rw [if_neg y,if_neg (by omega)]
 . rw [C4 (p:=j) (q:=k) (by omega) hk hne fun c _=>?_,Int.mul_zero]
   rw [At,A1 hne]
   show (if j<k then selE s j c else T j (s c))=_
   rw [if_pos (by omega)]
theorem w9 {i:Nat}{T:Mat} (h:∀ r c,r<i->r<c->T r c=0) (s:Nat->Nat):∀ k,k<=i->det i (fun r l=>T r (s l))=prodN (fun j=>T j j) k*det i (selK T s k)
 | 0,_=>by
   show _=1*det i (selK T s 0)
   rw [Int.one_mul]
   exact Bc fun r c hr hc=>by
    show _=if r<0 then selE s r c else T r (s c)
    rw [if_neg (by omega)]
 | k+1,hk=>by
   rw [w9 h s k (by omega),Aa2 h s (by omega)]
   show _=prodN (fun j=>T j j) k*T k k*_
   rw [Int.mul_assoc]
theorem A12 {i:Nat}{T:Mat} (h:∀ r c,r<i->r<c->T r c=0) (s:Nat->Nat):(det i fun r l=>T r (s l)).natAbs<=(prodN (fun j=>T j j) i).natAbs:=by
 rw [w9 h s i (Nat.le_refl _),Int.natAbs_mul]
 have e:(det i (selK T s i)).natAbs<=1:=by
  have k:∀ r c,r<i->selK T s i r c=if s c=r then 1 else 0:=fun r c hr=>by
   show (if r<i then selE s r c else T r (s c))=_
   rw [if_pos hr];rfl
  refine As0 (fun r c hr hc=>?_) fun c r r' hc hr hr' a b=>?_
  . rw [k r c hr];split<;>decide
  . rw [k r c hr] at a
    rw [k r' c hr'] at b
    split at a
    . split at b
      . omega
      . exact absurd rfl b
    . exact absurd rfl a
 exact Nat.le_trans (Nat.mul_le_mul_left _ e) (by omega)
end Lat
namespace Lat
open Hb
def Dets (n:Nat) (G:Nat->Prop) (M:Mat) (D:Nat):Prop:=∀ i,i<=n->∀ s:Nat->Nat,(∀ l,l<i->G (s l))->(det i fun r l=>M r (s l)).natAbs<=D
theorem C6.detsD {n W w i m:Nat}{G:Nat->Prop}{M B0 R B:Mat}{t:Nat->Nat}{D:Nat} (hD:Dets m G M D) (h:C6 n W w i G M B0 t R B) (hi:i<=m) {s:Nat->Nat} (hs:∀ l,l<i->G (s l)):(det i fun r l=>R r (s l)).natAbs<=D:=by
 rw [h.good.det i (Nat.le_refl _) s]
 exact hD i hi s hs
theorem C6.headD {n W w i m:Nat}{G:Nat->Prop}{M B0 R B:Mat}{t:Nat->Nat}{D:Nat} (hD:Dets m G M D) (h:C6 n W w i G M B0 t R B) (hi:i<=m) {j:Nat} (hj:j<i):(R j (t j)).natAbs<=D:=by
 have:=Ay6 h.st.s0 (h.detsD hD hi (s:=t) h.pg) hj
 have p:=h.st.pos j hj
 omega
theorem C6.rowD {n W w i m:Nat}{G:Nat->Prop}{M B0 R B:Mat}{t:Nat->Nat}{D:Nat} (hD:Dets m G M D) (h:C6 n W w i G M B0 t R B) (hi:i<=m) (hGW:∀ c,G c->c<W) {r c:Nat} (hr:r<i) (hc:G c):(R r c).natAbs<=i*D:=by
 have:=Au3 h.st.s0 h.st.lt (In.row hr) (κ:=1) (D:=D) (hGW c hc) (fun j hj=>?_) fun k hk=>h.detsD hD hi fun l hl=>?_
 . rw [Nat.one_mul] at this;exact this
 . rw [Nat.one_mul]
   rcases Nat.lt_trichotomy r j with z | z | z
   . obtain⟨a,b⟩:=h.st.red r j z hj;omega
   . rw [z];exact Nat.le_refl _
   . rw [h.st.s0.low hr z];exact Nat.zero_le _
 . cases l with
   | zero=>exact hc
   | succ l=>exact h.pg _ (by split<;>omega)
theorem C6.putD {n W w i m:Nat}{G:Nat->Prop}{M B0 R B:Mat}{t:Nat->Nat}{D:Nat} (hD:Dets m G M D) (h:C6 n W w i G M B0 t R B) (hm:i<=m) (hi:i<n) (hGW:∀ c,G c->c<W) {b0 π b:Nat} (hM:∀ c,G c->(M i c).natAbs<=2 ^ b0) (h1:D<=2 ^ π) (h2:i*D<=2 ^ b) (h3:b0<=π) (h4:b0<=b):Jt n W w i G R B t π b:=by
 refine⟨hi,⟨fun j k _=>h.st.inc j k,fun j c _=>h.st.zero j c,fun j _=>h.st.pos j,fun k j _=>h.st.red k j⟩,h.st.lt,fun j hj=>Nat.le_trans (h.headD hD hm hj) h1,fun r c hr hc=>Nat.le_trans (h.rowD hD hm hGW hr hc) h2,fun c hc=>?_,fun l hl=>?_⟩
 . rw [h.good.rest i c (Nat.le_refl _)]
   exact Nat.le_trans (hM c hc) (B9 h4)
 . rw [h.good.rest i _ (Nat.le_refl _)]
   exact Nat.le_trans (hM _ (h.pg l hl)) (B9 h3)
theorem Gb.free {n w r:Nat}{e:Int}{T:Mat} (he:0<e) (h:Gb n w r e T) {m:Nat} (hm:m<=r) {x:Nat->Int} (hx:∀ c,c<w->sumN (fun k=>x k*T k c) m=0):∀ k,k<m->x k=0:=by
 intro l hl
 obtain⟨y,hy⟩:=h.cols l (by omega)
 have e1:sumN (fun c=>y c*sumN (fun k=>x k*T k c) m) w=0:=Ay fun c hc=>by rw [hx c hc];simp
 have e2:sumN (fun c=>y c*sumN (fun k=>x k*T k c) m) w=sumN (fun k=>x k*unit e l k) m:=by
  rw [show (fun c=>y c*sumN (fun k=>x k*T k c) m)=fun c=>sumN (fun k=>x k*(y c*T k c)) m from funext fun c=>by
   rw [←Au];exact Ak fun k _=>by grind]
  rw [Eb]
  refine Ak fun k hk=>?_
  rw [hy k (by have:=h.rn;omega),←Au]
 rw [e2,Ba (j:=l) hl fun k _ hne=>by
  have:unit e l k=0:=if_neg hne
  rw [this];simp] at e1
 have:unit e l l=e:=if_pos rfl
 rw [this] at e1
 rcases Int.mul_eq_zero.mp e1 with z | z
 . exact z
 . omega
theorem Au1 {n W w r i:Nat}{e:Int}{T M B0 R B:Mat} (he:0<e) (h:Gb n w r e T) (hM:∀ k c,k<n->c<w->M k c=T k c) (hi:i<r) (g:Good n W w (i+1) M B0 R B) (hW:w+n<=W) (d:Dual n w M B0):∃ c,c<w/\R i c≠0:=by
 have rn:=h.rn
 refine Decidable.byContradiction fun z=>?_
 have z0:∀ c,c<w->R i c=0:=fun c hc=>Decidable.byContradiction fun y=>z ⟨c,hc,y⟩
 obtain⟨x,hx⟩:=(g.eqv (i+1) (Nat.le_refl _)).1 i (by omega)
 have x0:=h.free he (m:=i+1) (by omega) (x:=x) fun c hc=>by
  rw [←z0 c hc,hx c (by omega)]
  exact Ak fun k hk=>by rw [hM k c (by omega) hc]
 obtain⟨c,hc,hne⟩:=(g.dual d).row (i:=i) (by omega)
 refine hne ?_
 rw [hx (w+c) (by omega)]
 exact Ay fun k hk=>by rw [x0 k hk];simp
structure Ker (n W w r:Nat) (kt:Nat->Nat) (hd:Nat->Int) (M:Mat):Prop where
 zero:∀ j c,r<=j->j<n->c<kt j->M j c=0
 inc:∀ j k,r<=j->j<k->k<n->kt j<kt k
 ge:∀ j,r<=j->j<n->w<=kt j
 lt:∀ j,r<=j->j<n->kt j<W
 head:∀ j,r<=j->j<n->M j (kt j)=hd j
 pos:∀ j,r<=j->j<n->0<hd j
 red:∀ k j,r<=j->k<j->j<n->0<=M k (kt j)/\M k (kt j)<hd j
structure Bp (n W w r i:Nat) (G:Nat->Prop) (M B0:Mat) (kt:Nat->Nat) (hd:Nat->Int) (t:Nat->Nat) (R B:Mat):Prop where
 st:C6 n W w i G M B0 t R B
 tab:∀ j,j<r->j<i->t j<w
 ker:∀ j,r<=j->j<i->t j=kt j/\R j (t j)=hd j
theorem Bp.start (n W w r:Nat) (G:Nat->Prop) (M B0:Mat) (kt:Nat->Nat) (hd:Nat->Int) (t:Nat->Nat):Bp n W w r 0 G M B0 kt hd t M B0:=⟨C6.start ..,fun j _ h=>by omega,fun j _ h=>by omega⟩
theorem Bp.next {n W w r i:Nat}{G:Nat->Prop}{M B0 R B R1 B1 R2 B2:Mat}{kt t:Nat->Nat}{hd:Nat->Int}{Y spot st:Nat} (h:Bp n W w r i G M B0 kt hd t R B) (hi:i<r) (hst:st<w) (hs:spot<=i) (I:Ins n W w i G R B (insT t spot st) Y R1 B1) (D:Down n W w i R1 B1 (insT t spot st) 0 R2 B2):Bp n W w r (i+1) G M B0 kt hd (insT t spot st) R2 B2:=by
 refine⟨h.st.next I D,fun j h1 h2=>?_,fun j h1 h2=>by omega⟩
 unfold insT
 split
 . exact h.tab j h1 (by omega)
 . split
   . exact hst
   . exact h.tab (j-1) (by omega) (by omega)
theorem Bp.skip {n W w r i:Nat}{G:Nat->Prop}{M B0 R B:Mat}{kt t:Nat->Nat}{hd:Nat->Int} (K:Ker n W w r kt hd M) (h:Bp n W w r i G M B0 kt hd t R B) (hi:r<=i) (hn:i<n) {spot c:Nat} (hs:spot<i) (hc:c<=t spot):R i c=0:=by
 rw [h.st.good.rest i c (Nat.le_refl _)]
 refine K.zero i c hi hn ?_
 have g:=K.ge i hi hn
 by_cases z:spot<r
 . have:=h.tab spot z hs;omega
 . have:=(h.ker spot (by omega) hs).1
   have:=K.inc spot i (by omega) hs hn
   omega
theorem K7 (R:Mat) (i:Nat):moveR R i i=R:=by
 funext r
 rw [move_row]
 unfold mvI
 by_cases a:r<i
 . rw [if_pos a]
 . rw [if_neg a]
   by_cases b:r=i
   . rw [if_pos b,b]
   . rw [if_neg b,if_neg (by omega)]
theorem Bp.ins {n W w r i:Nat}{G:Nat->Prop}{M B0 R B:Mat}{kt t:Nat->Nat}{hd:Nat->Int}{π b:Nat} (K:Ker n W w r kt hd M) (h:Bp n W w r i G M B0 kt hd t R B) (hi:r<=i) (H:Jt n W w i G R B t π b) (hG:G (kt i)):Ins n W w i G R B (insT t i (kt i)) (b+i+3+2*π+i*(π+1)) R B/\∀ spot,spot<=i->Cz n W w i G R B t π b spot R B:=by
 have all:∀ spot,spot<=i->Cz n W w i G R B t π b spot R B:=by
  intro spot
  induction spot with
  | zero=>intro _;exact Cz.start H
  | succ s ih=>intro hs;exact (ih (by omega)).skip fun c hc=>h.skip K hi H.hi (by omega) hc
 refine⟨?_,all⟩
 have e:R i (kt i)=hd i:=by rw [h.st.good.rest i _ (Nat.le_refl _)];exact K.head i hi H.hi
 have p:=K.pos i hi H.hi
 have:=(all i (Nat.le_refl _)).ins H (Nat.le_refl _) (st:=kt i) (fun c hc=>by rw [h.st.good.rest i c (Nat.le_refl _)];exact K.zero i c hi H.hi hc) (by omega) (K.lt i hi H.hi) hG h.st.pg (fun z=>by omega)
 rw [K7,K7,if_neg (by omega),if_neg (by omega)] at this
 exact this
theorem Bp.nextK {n W w r i:Nat}{G:Nat->Prop}{M B0 R B R2 B2:Mat}{kt t:Nat->Nat}{hd:Nat->Int}{Y:Nat} (K:Ker n W w r kt hd M) (h:Bp n W w r i G M B0 kt hd t R B) (hi:r<=i) (hn:i<n) (I:Ins n W w i G R B (insT t i (kt i)) Y R B) (D:Down n W w i R B (insT t i (kt i)) 0 R2 B2):Bp n W w r (i+1) G M B0 kt hd (insT t i (kt i)) R2 B2:=by
 have t1:∀ j,j<i->insT t i (kt i) j=t j:=fun j hj=>if_pos hj
 have t2:insT t i (kt i) i=kt i:=by unfold insT;rw [if_neg (by omega),if_pos rfl]
 refine⟨h.st.next I D,fun j h1 h2=>by rw [t1 j (by omega)];exact h.tab j h1 (by omega),fun j h1 h2=>?_⟩
 rw [D.hd j (by omega)]
 by_cases z:j=i
 . rw [z,t2]
   exact ⟨rfl,by rw [h.st.good.rest i _ (Nat.le_refl _)];exact K.head i hi hn⟩
 . rw [t1 j (by omega)]
   exact h.ker j h1 (by omega)
theorem Bp.done {n W w r:Nat}{G:Nat->Prop}{M B0 R B:Mat}{kt t:Nat->Nat}{hd:Nat->Int} (K:Ker n W w r kt hd M) (h:Bp n W w r n G M B0 kt hd t R B):Ker n W w r kt hd R:=by
 refine⟨fun j c h1 h2 h3=>?_,K.inc,K.ge,K.lt,fun j h1 h2=>?_,K.pos,fun k j h1 h2 h3=>?_⟩
 . rw [←(h.ker j h1 h2).1] at h3;exact h.st.st.zero j c h2 h3
 . obtain⟨a,b⟩:=h.ker j h1 h2;rw [←a];exact b
 . obtain⟨a,b⟩:=h.ker j h1 h3
   rw [←a,←b]
   exact h.st.st.red k j h2 h3
end Lat
namespace Lat
open Hb
def mulK (V Z:Mat) (k:Nat):Mat:=fun r l=>if r<k then Z r l else V r l
theorem Ae5 {i:Nat}{T V Z:Mat} (h:∀ r c,r<i->c<i->V r c=sumN (fun j=>T r j*Z j c) (r+1)) {k:Nat} (hk:k<i):det i (mulK V Z k)=T k k*det i (mulK V Z (k+1)):=by
 have e0:det i (mulK V Z k)=det i (setR (mulK V Z k) k fun c=>sumN (fun j=>T k j*Z j c) (k+1)):=Bc fun r c hr hc=>by
  by_cases z:r=k
  . subst z
    rw [At]
    show (if r<r then Z r c else V r c)=_
    rw [if_neg (by omega)]
    exact h r c hr hc
  . rw [A1 z]
 rw [e0,Uk _ hk,Ba (j:=k) (by omega) fun j hj hne=>?_]
 . congr 1
   refine Bc fun r c hr hc=>?_
   by_cases z:r=k
   . subst z
     rw [At]
     show _=if r<r+1 then Z r c else V r c
     rw [if_pos (by omega)]
   . rw [A1 z]
     show (if r<k then Z r c else V r c)=if r<k+1 then Z r c else V r c
     by_cases y:r<k
     . rw [if_pos y,if_pos (by omega)]
     . rw [if_neg y,if_neg (by omega)]
 . rw [C4 (p:=j) (q:=k) (by omega) hk hne fun c _=>?_,Int.mul_zero]
   rw [At,A1 hne]
   show (if j<k then Z j c else V j c)=_
   rw [if_pos (by omega)]
theorem w6 {i:Nat}{T V Z:Mat} (h:∀ r c,r<i->c<i->V r c=sumN (fun j=>T r j*Z j c) (r+1)):∀ k,k<=i->det i V=prodN (fun j=>T j j) k*det i (mulK V Z k)
 | 0,_=>by
   show _=1*det i (mulK V Z 0)
   rw [Int.one_mul]
   exact Bc fun r c hr hc=>by
    show _=if r<0 then Z r c else V r c
    rw [if_neg (by omega)]
 | k+1,hk=>by
   rw [w6 h k (by omega),Ae5 h (by omega)]
   show _=prodN (fun j=>T j j) k*T k k*_
   rw [Int.mul_assoc]
theorem V5 {w r:Nat}{U V:Mat} (hw:r<=w) (hU:∀ k c,k<r->c<k->U k c=0) (hV:∀ l,l<r->In w r U (V l)) (h0:∀ l i,l<r->i<r->l<i->V l i=0):prodN (fun j=>U j j) r∣prodN (fun j=>V j j) r:=by
 have ch:∀ l,∃ x:Nat->Int,l<r->∀ c,c<w->V l c=sumN (fun k=>x k*U k c) r:=fun l=>by
  by_cases hl:l<r
  . obtain⟨x,hx⟩:=hV l hl
    exact ⟨x,fun _=>hx⟩
  . exact ⟨fun _=>0,fun z=>absurd z hl⟩
 obtain⟨X,hX⟩:∃ X:Nat->Nat->Int,∀ l,l<r->∀ c,c<w->V l c=sumN (fun k=>X l k*U k c) r:=Classical.axiomOfChoice ch
 have e1:det r (tr V)=prodN (fun j=>V j j) r:=P4 (A:=tr V) fun i l hi hl=>h0 l i (by omega) hi hl
 have e2:=w6 (i:=r) (T:=tr U) (V:=tr V) (Z:=tr X) (fun i l hi hl=>?_) r (Nat.le_refl _)
 . rw [e1] at e2
   exact ⟨_,e2⟩
 . show V l i=_
   rw [hX l hl i (by omega)]
   have:∀ m,m<=r-(i+1)->sumN (fun k=>X l k*U k i) (i+1+m)=sumN (fun j=>tr U i j*tr X j l) (i+1):=by
    intro m
    induction m with
    | zero=>intro _;exact Ak fun k _=>Int.mul_comm ..
    | succ m ih =>
      intro hm
      show sumN (fun k=>X l k*U k i) (i+1+m)+X l (i+1+m)*U (i+1+m) i=_
      rw [ih (by omega),hU (i+1+m) i (by omega) (by omega)]
      omega
   have:=this (r-(i+1)) (Nat.le_refl _)
   rw [show i+1+(r-(i+1))=r by omega] at this
   exact this
theorem Sf {f:Nat->Int}{n:Nat} (h:∀ k,k<n->0<f k):∀ m,m<=n->prodN f m<=prodN f n:=fun m hm=>by
 have:∀ d,m+d<=n->prodN f m<=prodN f (m+d):=by
  intro d
  induction d with
  | zero=>intro _;exact Int.le_refl _
  | succ d ih =>
    intro hd
    refine Int.le_trans (ih (by omega)) ?_
    show prodN f (m+d)<=prodN f (m+d)*f (m+d)
    have p:=Bf (n:=m+d) fun k hk=>h k (by omega)
    have q:=h (m+d) (by omega)
    have:=Int.mul_le_mul_of_nonneg_left (show 1<=f (m+d) by omega) (show 0<=prodN f (m+d) by omega)
    rw [Int.mul_one] at this
    exact this
 have:=this (n-m) (by omega)
 rw [show m+(n-m)=n by omega] at this
 exact this
theorem Ap2 {w r:Nat}{T:Mat}{E:Nat} (hp:∀ j,j<r->0<T j j) (h:∀ i c,i<r->c<w->i<c->T i c=0) (hE:prodN (fun j=>T j j) r<=E):Dets r (fun c=>c<w) T E:=fun i hi s hs=>by
 have t:=A12 (i:=i) (T:=fun a c=>if c<w then T a c else 0) (fun a c ha hac=>by
  show (if c<w then T a c else 0)=0
  by_cases z:c<w
  . rw [if_pos z];exact h a c (by omega) z hac
  . rw [if_neg z]) s
 have e:(det i fun r l=>T r (s l))=det i fun r l=>(fun a c=>if c<w then T a c else 0) r (s l):=Bc fun a c ha hc=>(if_pos (hs c hc)).symm
 rw [e]
 refine Nat.le_trans t ?_
 by_cases z:i<=w
 . have e2:prodN (fun j=>(fun a c=>if c<w then T a c else 0) j j) i=prodN (fun j=>T j j) i:=by
    have:∀ m,m<=w->prodN (fun j=>(fun a c=>if c<w then T a c else 0) j j) m=prodN (fun j=>T j j) m:=by
     intro m
     induction m with
     | zero=>intro _;rfl
     | succ m ih =>
       intro hm
       show _*_=_*_
       rw [ih (by omega)]
       show _*(if m<w then T m m else 0)=_
       rw [if_pos (by omega)]
    exact this i z
   rw [e2]
   have a:=Sf (n:=r) (f:=fun j=>T j j) hp i hi
   have b:=Bf (n:=i) (f:=fun j=>T j j) fun k hk=>hp k (by omega)
   omega
 . have e2:prodN (fun j=>(fun a c=>if c<w then T a c else 0) j j) i=0:=by
    have:∀ m,w<m->prodN (fun j=>(fun a c=>if c<w then T a c else 0) j j) m=0:=by
     intro m
     induction m with
     | zero=>intro _;omega
     | succ m ih =>
       intro hm
       show _*(if m<w then T m m else 0)=0
       by_cases y:w<m
       . rw [ih y];simp
       . rw [if_neg (by omega)];simp
    exact this i (by omega)
   rw [e2]
   exact Nat.zero_le _
end Lat
namespace Lat
open Hb
structure Gu (n w r:Nat) (E:Nat) (e:Int) (T:Mat):Prop where
 sq:Gb n w r e T
 low:∀ i c,i<n->c<w->i<c->T i c=0
 pos:∀ j,j<r->0<T j j
 dvd:∀ j,j<r->T j j∣e
 prod:prodN (fun j=>T j j) r<=E
 le:∀ i c,i<n->c<w->0<=T i c/\T i c<=e
theorem Zw {n w r:Nat}{E:Nat}{e:Int}{T:Mat}{u:Nat->Nat} (he:0<e) (sq:Gb n w r e T) (hst:Ey n r (tr T) u) (hu:∀ j,j<r->u j=j) (hd:∀ j,j<r->T j j∣e) (hE:prodN (fun j=>T j j) r<=E):Gu n w r E e T:=by
 refine⟨sq,fun i c hi hc hic=>?_,fun j hj=>?_,hd,hE,fun i c hi hc=>y7 he sq.flip hst hu hd hc hi⟩
 . by_cases z:c<r
   . exact hst.zero c i z (by rw [hu c z];exact hic)
   . exact sq.col0 i c hi (by omega) hc
 . have:=hst.pos j hj
   rw [hu j hj] at this
   exact this
theorem Cn.going {n w r:Nat}{E:Nat}{e:Int}{T T':Mat} (s:Cn n w T T') (he:0<e) (h:Gu n w r E e T):Gu w n r E e (tr T'):=by
 obtain⟨sq,t,hst,ht,hd⟩:=s.square he h.sq
 have pos:∀ j,j<r->0<T' j j:=fun j hj=>by have:=hst.pos j hj;rw [ht j hj] at this;exact this
 refine Zw he sq.flip hst ht hd ?_
 have rn:=h.sq.rn
 have rw':=h.sq.rw
 have d:=V5 (w:=w) (r:=r) (U:=T') (V:=T) rw' (fun k c hk hc=>hst.zero k c hk (by rw [ht k hk];exact hc)) (fun l hl=>(s.bwd l (by omega)).sub rn sq.row0) (fun l i hl hi hli=>h.low l i (by omega) (by omega) hli)
 have p:=Bf (n:=r) (f:=fun j=>T j j) h.pos
 exact Int.le_trans (Int.le_of_dvd p d) h.prod
theorem Step.going {n w r:Nat}{E:Nat}{e:Int}{T T'':Mat} (s:Step n w T T'') (he:0<e) (h:Gu n w r E e T):Gu n w r E e T'':=by
 obtain⟨T',s1,s2⟩:=s
 exact s2.going he (s1.going he h)
theorem Step.first {n w r:Nat}{E:Nat}{T T' T'':Mat}{t:Nat->Nat} (hr:r<=n) (hst:Ey w r T' t) (hz:∀ i c,r<=i->i<n->c<w->T' i c=0) (s2:Cn w n (tr T') (tr T'')) (hE:prodN (fun j=>T' j (t j)) r<=E):Gu n w r E (prodN (fun j=>T' j (t j)) r) T'':=by
 obtain⟨hw,sq,u,hu,hu2,hd⟩:=Step.square (T:=T) hr hst hz s2
 have he:0<prodN (fun j=>T' j (t j)) r:=Bf fun j hj=>hst.pos j hj
 refine Zw he sq hu hu2 hd ?_
 have d:=V5 (w:=n) (r:=r) (U:=tr T'') (V:=fun l i=>T' i (t l)) hr (fun k c hk hc=>hu.zero k c hk (by rw [hu2 k hk];exact hc)) (fun l hl=>(s2.bwd (t l) (hst.lt l hl)).sub hw sq.flip.row0) (fun l i hl hi hli=>hst.s0.low hi hli)
 exact Int.le_trans (Int.le_of_dvd he d) hE
theorem Gu.dets {n w r:Nat}{E:Nat}{e:Int}{T:Mat} (h:Gu n w r E e T):Dets r (fun c=>c<w) T E:=Ap2 h.pos (fun i c hi=>h.low i c (by have:=h.sq.rn;omega)) h.prod
def Left (n w r L m:Nat) (T:Mat):Prop:=Straight n w T\/(∃ k,k<=r/\Mx n w k T/\(r-k)*(L+2)<=m)\/(∃ k,k<r/\Ar6 n w k T/\(r-k-1)*(L+2)+(T k k).natAbs.log2+1<=m)
theorem Gu.straight {n w r:Nat}{E:Nat}{e:Int}{T:Mat} (h:Gu n w r E e T) (c:Mx n w r T):Straight n w T:=fun i j hi hj hne=>by
 by_cases z:i<r
 . exact c.2.2.2.1 i j z hj (fun y=>hne y.symm)
 . exact h.sq.row0 i j (by omega) hi hj
theorem log2_lt {a b:Nat} (ha:0<a) (h:a∣b) (hlt:a<b):a.log2<b.log2:=by
 obtain⟨k,hk⟩:=h
 have k2:2<=k:=by
  rcases k with _ | _ | k
  . omega
  . omega
  . omega
 have b2:2*a<=b:=by
  rw [hk,Nat.mul_comm 2 a]
  exact Nat.mul_le_mul_left _ k2
 have e:(2*a).log2=a.log2+1:=Nat.log2_two_mul (by omega)
 have m:(2*a).log2<=b.log2:=by
  rw [Nat.le_log2 (by omega)]
  exact Nat.le_trans (Nat.log2_self_le (by omega)) b2
 omega
theorem Left.start {n w r L:Nat}{E:Nat}{e:Int}{T:Mat} (h:Gu n w r E e T):Left n w r L (r*(L+2)) T:=.inr (.inl ⟨0,Nat.zero_le _,⟨Nat.zero_le _,Nat.zero_le _,fun j hj=>by omega,fun j c hj=>by omega,fun i j _ hj=>by omega⟩,by rw [Nat.sub_zero];exact Nat.le_refl _⟩)
theorem Gu.next {n w r L m:Nat}{E:Nat}{e:Int}{T T'':Mat} (he:0<e) (hL:e.natAbs.log2<=L) (h:Gu n w r E e T) (s:Step n w T T'') (f:Left n w r L m T) (ns:¬Straight n w T):0<m/\Left n w r L (m-1) T'':=by
 have g:=s.going he h
 rcases f with f|⟨k,hk,c,hm⟩|⟨k,hk,c,hm⟩
 . exact absurd f ns
 . have kr:k<r:=by
    refine Nat.lt_of_le_of_ne hk fun z=>ns ?_
    subst z
    exact h.straight c
   have e1:(r-k)*(L+2)=(r-k-1)*(L+2)+(L+2):=by rw [show r-k=(r-k-1)+1 by omega,Nat.add_mul,Nat.one_mul,Nat.add_sub_cancel]
   refine⟨by omega,?_⟩
   obtain⟨c2,q⟩:=s.next c
   rcases q with q | q
   . exact .inl q
   . refine .inr (.inr ⟨k,kr,q,?_⟩)
     have d:=h.dvd k kr
     have d2:=g.dvd k kr
     have p:=g.pos k kr
     have l:(T'' k k).natAbs.log2<=L:=by
      refine Nat.le_trans ?_ hL
      rw [Nat.le_log2 (by omega)]
      refine Nat.le_trans (Nat.log2_self_le (by omega)) ?_
      have:=Int.le_of_dvd he d2
      omega
     omega
 . refine⟨by omega,?_⟩
   rcases s.less c with q|⟨q1,q2,q3⟩
   . refine .inr (.inl ⟨k+1,by omega,q,?_⟩)
     rw [show r-(k+1)=r-k-1 by omega]
     omega
   . refine .inr (.inr ⟨k,hk,q1,?_⟩)
     have p:=g.pos k hk
     have p0:=h.pos k hk
     have:=log2_lt (a:=(T'' k k).natAbs) (b:=(T k k).natAbs) (by omega) (Int.natAbs_dvd_natAbs.mpr q2) (by omega)
     omega
end Lat
namespace Lat
structure EuA (A B r1 x1 y1 r2 x2 y2:Int):Prop where
 e1:r1=x1*A+y1*B
 e2:r2=x2*A+y2*B
 dt:x1*y2-x2*y1=1\/x1*y2-x2*y1=-1
 dv:∀ d:Int,d∣r1->d∣r2->d∣A/\d∣B
structure EuR (A B r1 x1 y1 r2 x2 y2:Int):Prop where
 a:EuA A B r1 x1 y1 r2 x2 y2
 rr:0<=r1*r2
 r0:r1≠0
 xx:x1*x2<=0
 yy:y1*y2<=0
 lx:x1.natAbs<=B.natAbs
 ly:y1.natAbs<=A.natAbs
theorem y4 {u v:Int} (h:0<=u*v):(u+v).natAbs=u.natAbs+v.natAbs:=by
 rcases Int.lt_trichotomy u 0 with z | z | z
 . have:v<=0:=by
    refine Int.not_lt.mp fun y=>?_
    have:=Int.mul_neg_of_neg_of_pos z y
    omega
   omega
 . subst z;omega
 . have:0<=v:=by
    refine Int.not_lt.mp fun y=>?_
    have:=Int.mul_neg_of_pos_of_neg z y
    omega
   omega
theorem EuR.next_le {A B r1 x1 y1 r2 x2 y2:Int} (h:EuR A B r1 x1 y1 r2 x2 y2):x2.natAbs<=B.natAbs/\y2.natAbs<=A.natAbs:=by
 have r1p:1<=r1.natAbs:=by have:=h.r0;omega
 have hA:A.natAbs=(y2*r1+-y1*r2).natAbs:=by
  have e:(x1*y2-x2*y1)*A=y2*r1+-y1*r2:=by rw [h.a.e1,h.a.e2];grind
  rcases h.a.dt with d | d
  . rw [d,Int.one_mul] at e;rw [e]
  . rw [d] at e
    have:A.natAbs=(-1*A).natAbs:=by omega
    rw [this,e]
 have hB:B.natAbs=(x2*r1+-x1*r2).natAbs:=by
  have e:(x1*y2-x2*y1)*B=-(x2*r1+-x1*r2):=by rw [h.a.e1,h.a.e2];grind
  rcases h.a.dt with d | d
  . rw [d,Int.one_mul] at e;rw [e,Int.natAbs_neg]
  . rw [d] at e
    have:B=x2*r1+-x1*r2:=by omega
    rw [this]
 have k1:0<=(y2*r1)*(-y1*r2):=by
  have:(y2*r1)*(-y1*r2)=(-(y1*y2))*(r1*r2):=by grind
  rw [this]
  exact Int.mul_nonneg (by have:=h.yy;omega) h.rr
 have k2:0<=(x2*r1)*(-x1*r2):=by
  have:(x2*r1)*(-x1*r2)=(-(x1*x2))*(r1*r2):=by grind
  rw [this]
  exact Int.mul_nonneg (by have:=h.xx;omega) h.rr
 rw [y4 k1,Int.natAbs_mul] at hA
 rw [y4 k2,Int.natAbs_mul] at hB
 have a1:x2.natAbs*1<=x2.natAbs*r1.natAbs:=Nat.mul_le_mul_left _ r1p
 have a2:y2.natAbs*1<=y2.natAbs*r1.natAbs:=Nat.mul_le_mul_left _ r1p
 omega
theorem EuA.step {A B r1 x1 y1 r2 x2 y2:Int} (h:EuA A B r1 x1 y1 r2 x2 y2) (q:Int):EuA A B r2 x2 y2 (r1-q*r2) (x1-q*x2) (y1-q*y2):=by
 refine⟨h.e2,?_,?_,fun d h1 h2=>h.dv d ?_ h1⟩
 . rw [h.e1,h.e2];grind
 . have:x2*(y1-q*y2)-(x1-q*x2)*y2=-(x1*y2-x2*y1):=by grind
   rw [this]
   rcases h.dt with z | z<;>rw [z]<;>omega
 . have:=Int.dvd_add h2 (Int.dvd_mul_of_dvd_right (a:=d) (b:=q) h1)
   have e:r1-q*r2+q*r2=r1:=by omega
   rw [e] at this
   exact this
theorem V9 {r1 r2:Int} (h:0<=r1*r2) (h2:r2≠0):0<=r1.fdiv r2/\(r1-r1.fdiv r2*r2).natAbs<r2.natAbs/\0<=r2*(r1-r1.fdiv r2*r2):=by
 have e:r1-r1.fdiv r2*r2=r1.fmod r2:=by have:=Int.mul_fdiv_add_fmod r1 r2;rw [Int.mul_comm] at this;omega
 rw [e]
 rcases Int.lt_or_gt_of_ne h2 with z | z
 . have r1n:r1<=0:=by
    refine Int.not_lt.mp fun y=>?_
    have:=Int.mul_neg_of_pos_of_neg y z
    omega
   have q:r1.fdiv r2=(-r1).fdiv (-r2):=by rw [Int.neg_fdiv_neg]
   have m:r1.fmod r2=-((-r1).fmod (-r2)):=by rw [Int.neg_fmod_neg];omega
   have m0:=Int.fmod_nonneg_of_pos (a:=-r1) (b:=-r2) (by omega)
   have m1:=Int.fmod_lt_of_pos (-r1) (b:=-r2) (by omega)
   refine⟨?_,by omega,?_⟩
   . rw [q,Int.fdiv_eq_ediv_of_nonneg _ (by omega)]
     exact Int.ediv_nonneg (by omega) (by omega)
   . rw [m]
     have:r2*-((-r1).fmod (-r2))=(-r2)*(-r1).fmod (-r2):=by rw [Int.mul_neg,Int.neg_mul]
     rw [this]
     exact Int.mul_nonneg (by omega) m0
 . have r1p:0<=r1:=by
    refine Int.not_lt.mp fun y=>?_
    have:=Int.mul_neg_of_neg_of_pos y z
    omega
   have m0:=Int.fmod_nonneg_of_pos (a:=r1) (b:=r2) z
   have m1:=Int.fmod_lt_of_pos r1 z
   refine⟨?_,by omega,Int.mul_nonneg (by omega) m0⟩
   rw [Int.fdiv_eq_ediv_of_nonneg _ (by omega)]
   exact Int.ediv_nonneg r1p (by omega)
theorem EuR.step {A B r1 x1 y1 r2 x2 y2:Int} (h:EuR A B r1 x1 y1 r2 x2 y2) (h2:r2≠0):EuR A B r2 x2 y2 (r1-r1.fdiv r2*r2) (x1-r1.fdiv r2*x2) (y1-r1.fdiv r2*y2)/\(r1-r1.fdiv r2*r2).natAbs<r2.natAbs:=by
 obtain⟨q0,q1,q2⟩:=V9 h.rr h2
 obtain⟨l1,l2⟩:=h.next_le
 generalize r1.fdiv r2=q at *
 refine⟨⟨h.a.step q,q2,h2,?_,?_,l1,l2⟩,q1⟩
 . have:x2*(x1-q*x2)=x1*x2-q*(x2*x2):=by grind
   rw [this]
   have a:=h.xx
   have b:0<=q*(x2*x2):=Int.mul_nonneg q0 (by rw [←Int.natAbs_mul_self (a:=x2)];omega)
   omega
 . have:y2*(y1-q*y2)=y1*y2-q*(y2*y2):=by grind
   rw [this]
   have a:=h.yy
   have b:0<=q*(y2*y2):=Int.mul_nonneg q0 (by rw [←Int.natAbs_mul_self (a:=y2)];omega)
   omega
def EuI (A B r1 x1 y1 r2 x2 y2:Int):Prop :=
 EuR A B r1 x1 y1 r2 x2 y2\/(B<0/\r1=A/\x1=1/\y1=0/\r2=B/\x2=0/\y2=1) ∨
 (B<0/\r1=B/\x1=0/\y1=1/\r2=A-A.fdiv B*B/\x2=1/\y2=-(A.fdiv B))
theorem EuI.start {A B:Int} (hA:0<A) (hB:B≠0):EuI A B A 1 0 B 0 1:=by
 rcases Int.lt_or_gt_of_ne hB with z | z
 . exact .inr (.inl ⟨z,rfl,rfl,rfl,rfl,rfl,rfl⟩)
 . refine .inl ⟨⟨by omega,by omega,.inl rfl,fun d h1 h2=>⟨h1,h2⟩⟩,Int.mul_nonneg (by omega) (by omega),by omega,by omega,by omega,by omega,by omega⟩
theorem Kg {A B:Int} (hA:0<A) (hB:B<0):A.fdiv B<=-1/\-A<=A.fdiv B/\A-A.fdiv B*B<=0/\(A-A.fdiv B*B).natAbs<B.natAbs:=by
 have e:A-A.fdiv B*B=A.fmod B:=by have:=Int.mul_fdiv_add_fmod A B;rw [Int.mul_comm] at this;omega
 have m:A.fmod B=-((-A).fmod (-B)):=by rw [Int.neg_fmod_neg];omega
 have m0:=Int.fmod_nonneg_of_pos (a:=-A) (b:=-B) (by omega)
 have m1:=Int.fmod_lt_of_pos (-A) (b:=-B) (by omega)
 have k:A.fdiv B*B=A-A.fmod B:=by omega
 rw [e]
 have q1:A.fdiv B<=-1:=by
  refine Int.not_lt.mp fun y=>?_
  have:=Int.mul_nonneg (show 0<=A.fdiv B by omega) (show 0<=-B by omega)
  rw [Int.mul_neg] at this
  omega
 refine⟨q1,?_,by omega,by omega⟩
 refine Int.not_lt.mp fun y=>?_
 have h:=Int.mul_le_mul (show A+1<=-(A.fdiv B) by omega) (show 1<=-B by omega) (by omega) (by omega)
 have h2:-(A.fdiv B)*-B=A.fdiv B*B:=by rw [Int.neg_mul_neg]
 rw [h2] at h
 have h3:=Int.mul_le_mul (show A+1<=-(A.fdiv B) by omega) (Int.le_refl (-B)) (by omega) (by omega)
 rw [h2,Int.add_mul] at h3
 have h4:A*1<=A*-B:=Int.mul_le_mul_of_nonneg_left (by omega) (by omega)
 omega
theorem EuI.step {A B r1 x1 y1 r2 x2 y2:Int} (hA:0<A) (h:EuI A B r1 x1 y1 r2 x2 y2) (h2:r2≠0) :
 EuI A B r2 x2 y2 (r1-r1.fdiv r2*r2) (x1-r1.fdiv r2*x2) (y1-r1.fdiv r2*y2)/\(r1-r1.fdiv r2*r2).natAbs<r2.natAbs:=by
 rcases h with h|⟨hB,e1,e2,e3,e4,e5,e6⟩|⟨hB,e1,e2,e3,e4,e5,e6⟩
 . exact ⟨.inl (h.step h2).1,(h.step h2).2⟩
 . subst e1 e2 e3 e4 e5 e6
   obtain⟨_,_,_,q⟩:=Kg hA hB
   exact ⟨.inr (.inr ⟨hB,rfl,rfl,rfl,rfl,by omega,by omega⟩),q⟩
 . obtain⟨q1,q2,q3,q4⟩:=Kg hA hB
   have e0:EuA A B A 1 0 B 0 1:=⟨by omega,by omega,.inl rfl,fun d h1 h2=>⟨h1,h2⟩⟩
   have e7:=e0.step (A.fdiv B)
   rw [←e4] at e7 q3 q4
   have rr:0<=B*r2:=by
    have:=Int.mul_nonneg (show 0<=-B by omega) (show 0<=-r2 by omega)
    rw [Int.neg_mul_neg] at this
    exact this
   obtain⟨p0,p1,p2⟩:=V9 rr h2
   have p3:1<=B.fdiv r2:=by
    refine Int.not_lt.mp fun y=>?_
    have:B.fdiv r2=0:=by omega
    rw [this] at p1
    omega
   have f1:(1:Int)-A.fdiv B*0=x2:=by omega
   have f2:(0:Int)-A.fdiv B*1=y2:=by omega
   rw [f1,f2] at e7
   have e8:=e7.step (B.fdiv r2)
   subst e1 e2 e3
   refine⟨.inl ⟨e8,p2,h2,?_,?_,by omega,by omega⟩,p1⟩
   . subst e5
     omega
   . generalize r1.fdiv r2=p at *
     have g1:y2*(1-p*y2)=-((p*y2-1)*y2):=by grind
     rw [g1]
     have g2:1*y2<=p*y2:=Int.mul_le_mul_of_nonneg_right p3 (by omega)
     have:=Int.mul_nonneg (show 0<=p*y2-1 by omega) (show 0<=y2 by omega)
     omega
theorem EuI.all {A B r1 x1 y1 r2 x2 y2:Int} (hA:0<A) (hB:B≠0) (h:EuI A B r1 x1 y1 r2 x2 y2) :
 EuA A B r1 x1 y1 r2 x2 y2/\r1≠0/\x1.natAbs<=B.natAbs/\y1.natAbs<=A.natAbs/\x2.natAbs<=B.natAbs/\y2.natAbs<=A.natAbs:=by
 have e0:EuA A B A 1 0 B 0 1:=⟨by omega,by omega,.inl rfl,fun d h1 h2=>⟨h1,h2⟩⟩
 rcases h with h|⟨hB,e1,e2,e3,e4,e5,e6⟩|⟨hB,e1,e2,e3,e4,e5,e6⟩
 . exact ⟨h.a,h.r0,h.lx,h.ly,h.next_le.1,h.next_le.2⟩
 . subst e1 e2 e3 e4 e5 e6
   exact ⟨e0,by omega,by omega,by omega,by omega,by omega⟩
 . obtain⟨q1,q2,q3,q4⟩:=Kg hA hB
   have e7:=e0.step (A.fdiv B)
   have f1:(1:Int)-A.fdiv B*0=x2:=by omega
   have f2:(0:Int)-A.fdiv B*1=y2:=by omega
   rw [f1,f2,←e4] at e7
   subst e1 e2 e3
   exact ⟨e7,by omega,by omega,by omega,by omega,by omega⟩
structure Shares (A B g a b:Int):Prop where
 pos:0<g
 e:g=a*A+b*B
 dA:g∣A
 dB:g∣B
 la:a.natAbs<=B.natAbs
 lb:b.natAbs<=A.natAbs
theorem EuI.last {A B r1 x1 y1 x2 y2:Int} (hA:0<A) (hB:B≠0) (h:EuI A B r1 x1 y1 0 x2 y2) :
 (0<r1->Shares A B r1 x1 y1)/\(r1<0->Shares A B (-r1) (-x1) (-y1))/\r1≠0:=by
 obtain⟨k,r0,a1,a2,_,_⟩:=h.all hA hB
 obtain⟨d1,d2⟩:=k.dv r1 (Int.dvd_refl _) (Int.dvd_zero _)
 refine⟨fun p=>⟨p,k.e1,d1,d2,a1,a2⟩,fun p=>⟨by omega,?_,Int.neg_dvd.mpr d1,Int.neg_dvd.mpr d2,by omega,by omega⟩,r0⟩
 rw [k.e1,Int.neg_mul,Int.neg_mul]
 omega
theorem Shares.blend {A B g a b:Int}{π:Nat} (hA:0<A) (h:Shares A B g a b) (lA:A.natAbs<=2 ^ π) (lB:B.natAbs<=2 ^ π):Ar8 π A B a b (-(B / g)) (A / g):=by
 obtain⟨p,eA⟩:=h.dA
 obtain⟨q,eB⟩:=h.dB
 have g0:g≠0:=by have:=h.pos;omega
 have k1:A / g=p:=by rw [eA];exact Int.mul_ediv_cancel_left _ g0
 have k2:B / g=q:=by rw [eB];exact Int.mul_ediv_cancel_left _ g0
 have gn:1<=g.natAbs:=by have:=h.pos;omega
 have n1:p.natAbs<=A.natAbs:=by rw [eA,Int.natAbs_mul];exact Nat.le_mul_of_pos_left _ gn
 have n2:q.natAbs<=B.natAbs:=by rw [eB,Int.natAbs_mul];exact Nat.le_mul_of_pos_left _ gn
 rw [k1,k2]
 refine⟨?_,by have:=h.pos;have:=h.e;omega,?_,Nat.le_trans h.la lB,Nat.le_trans h.lb lA,by omega,by omega⟩
 . have e:=h.e
   have:g*(a*p-b*-q)=g*1:=by
    rw [Int.mul_one]
    refine Eq.trans ?_ e.symm
    rw [eA,eB]
    grind
   exact Int.eq_of_mul_eq_mul_left g0 this
 . rw [eA,eB]
   grind
end Lat
namespace Lat
open Hb
def R9 (n:Nat) (C:Nat->Prop) (δ b:Nat) (R:Mat):Prop:=∀ r c,r<n->C c->(R r c).natAbs*2 ^ δ<2 ^ b
theorem Lm {x y a k:Int}{δ b c:Nat} (hx:x.natAbs*2 ^ δ<2 ^ b) (hy:y.natAbs*2 ^ δ<2 ^ b) (ha:a.natAbs<=2 ^ c) (hk:k.natAbs<=2 ^ c):(a*x+k*y).natAbs*2 ^ δ<2 ^ (b+c+1):=by
 have e:=Int.natAbs_add_le (a*x) (k*y)
 rw [Int.natAbs_mul,Int.natAbs_mul] at e
 have e2:=Nat.mul_le_mul_right (2 ^ δ) e
 rw [Nat.add_mul,Nat.mul_assoc,Nat.mul_assoc] at e2
 have p:0<2 ^ c:=Nat.two_pow_pos c
 have u:a.natAbs*(x.natAbs*2 ^ δ)<2 ^ c*2 ^ b:=Nat.lt_of_le_of_lt (Nat.mul_le_mul_right _ ha) (Nat.mul_lt_mul_of_pos_left hx p)
 have v:k.natAbs*(y.natAbs*2 ^ δ)<2 ^ c*2 ^ b:=Nat.lt_of_le_of_lt (Nat.mul_le_mul_right _ hk) (Nat.mul_lt_mul_of_pos_left hy p)
 rw [show b+c+1=(c+b)+1 by omega,Nat.pow_succ,Nat.pow_add]
 omega
theorem R9.mono {n δ b b':Nat}{C:Nat->Prop}{R:Mat} (h:R9 n C δ b R) (hb:b<=b'):R9 n C δ b' R:=fun r c hr hc=>Nat.lt_of_lt_of_le (h r c hr hc) (Nat.pow_le_pow_right (by decide) hb)
theorem R9.add {n δ b c p q:Nat}{C:Nat->Prop}{R:Mat} (h:R9 n C δ b R) (hq:q<n) {k:Int} (hk:k.natAbs<2 ^ c):R9 n C δ (b+c+1) (addR R p q k):=fun r x hr hx=>by
 by_cases e:r=p
 . subst e
   rw [Bj]
   exact Lm (h r x hr hx) (h q x hq hx) (show 1<=2 ^ c from Nat.one_le_two_pow) (Nat.le_of_lt hk)
 . rw [By e]
   exact (h.mono (by omega)) r x hr hx
theorem R9.blend {n δ b e p q:Nat}{C:Nat->Prop}{R:Mat} (h:R9 n C δ b R) (hp:p<n) (hq:q<n) (ne:p≠q) {x y z u:Int} (hx:x.natAbs<2 ^ e) (hy:y.natAbs<2 ^ e) (hz:z.natAbs<2 ^ e) (hu:u.natAbs<2 ^ e):R9 n C δ (b+e+1) (blendR R p q x y z u):=fun r c hr hc=>by
 by_cases e1:r=p
 . subst e1
   rw [El ne]
   exact Lm (h r c hr hc) (h q c hq hc) (Nat.le_of_lt hx) (Nat.le_of_lt hy)
 . by_cases e2:r=q
   . subst e2
     rw [Fz]
     exact Lm (h p c hp hc) (h r c hr hc) (Nat.le_of_lt hz) (Nat.le_of_lt hu)
   . rw [Cg e1 e2]
     exact (h.mono (by omega)) r c hr hc
variable {C:Nat->Prop}{δ:Nat}
def BB (n W:Nat) (C:Nat->Prop) (δ β:Nat) (s:Mat × Mat):Prop:=Bits n W β s.1/\Bits n n β s.2/\R9 n C δ β s.1
theorem BB.mono {n W β β':Nat}{s:Mat × Mat} (h:BB n W C δ β s) (hb:β<=β'):BB n W C δ β' s:=⟨h.1.mono hb,h.2.1.mono hb,h.2.2.mono hb⟩
def addS (p q:Nat) (k:Int) (s:Mat × Mat):Mat × Mat:=(addR s.1 p q k,addR s.2 q p (-k))
def blendS (p q:Nat) (x y z u:Int) (s:Mat × Mat):Mat × Mat:=(blendR s.1 p q x y z u,blendR s.2 p q u (-z) (-y) x)
theorem BB.add {n W β c p q:Nat}{s:Mat × Mat} (h:BB n W C δ β s) (hp:p<n) (hq:q<n) {k:Int} (hk:k.natAbs<2 ^ c):BB n W C δ (β+(c+1)) (addS p q k s) :=
 ⟨(h.1.add hp hq hk).mono (by omega),(h.2.1.add hq hp (k:=-k) (by rw [Int.natAbs_neg];exact hk)).mono (by omega),(h.2.2.add hq hk).mono (by omega)⟩
theorem BB.blend {n W β c p q:Nat}{s:Mat × Mat} (h:BB n W C δ β s) (hp:p<n) (hq:q<n) (ne:p≠q) {x y z u:Int} (hx:x.natAbs<2 ^ c) (hy:y.natAbs<2 ^ c) (hz:z.natAbs<2 ^ c) (hu:u.natAbs<2 ^ c):BB n W C δ (β+(c+1)) (blendS p q x y z u s) :=
 ⟨(h.1.blend hp hq ne hx hy hz hu).mono (by omega),(h.2.1.blend hp hq ne (x:=u) (y:=-z) (z:=-y) (u:=x) hu (by rw [Int.natAbs_neg];exact hz) (by rw [Int.natAbs_neg];exact hy) hx).mono (by omega),(h.2.2.blend hp hq ne hx hy hz hu).mono (by omega)⟩
def shrS (t:Nat->Nat) (p f:Nat) (s:Mat × Mat):Nat->Mat × Mat
 | 0=>s
 | d+1=>addS p (f+d) (-((shrS t p f s d).1 p (t (f+d)) / (shrS t p f s d).1 (f+d) (t (f+d)))) (shrS t p f s d)
theorem Aa0 {n W w lo:Nat}{R B:Mat}{t:Nat->Nat}{p f m μ β c:Nat} (P:Part R t f m) (h:∀ l,f<=l->l<m->(R p (t l)).natAbs<=μ*(R l (t l)).natAbs) (hp:p<lo) (hm:m<=lo) (hn:lo<=n) (hpf:p<f\/m<=p) (hc:2 ^ (m-f)*μ<2 ^ c) (b:BB n W C δ β (R,B)) :
 ∀ d,f+d<=m->Shr n W w lo R B t p f m (f+d) μ (shrS t p f (R,B) d).1 (shrS t p f (R,B) d).2/\BB n W C δ (β+d*(c+1)) (shrS t p f (R,B) d)/\∀ l c,l≠p->(shrS t p f (R,B) d).1 l c=R l c:=by
 intro d
 induction d with
 | zero=>intro _;exact ⟨Shr.start h,b.mono (by omega),fun _ _ _=>rfl⟩
 | succ d ih =>
   intro hd
   obtain⟨i1,i2,i3⟩:=ih (by omega)
   obtain⟨q1,q2⟩:=i1.step P (by omega) (show f+d<m by omega) hp hm hn hpf
   have e:(shrS t p f (R,B) d).1 (f+d) (t (f+d))=R (f+d) (t (f+d)):=i3 _ _ (by omega)
   have qb:(-((shrS t p f (R,B) d).1 p (t (f+d)) / (shrS t p f (R,B) d).1 (f+d) (t (f+d)))).natAbs<2 ^ c:=by
    rw [Int.natAbs_neg,e]
    refine Nat.lt_of_le_of_lt q1 (Nat.lt_of_le_of_lt ?_ hc)
    exact Nat.mul_le_mul_right _ (B9 (by omega))
   refine⟨?_,(i2.add (by omega) (by omega) qb).mono (by rw [Nat.add_mul];omega),fun l c hl=>?_⟩
   . show Shr n W w lo R B t p f m (f+d+1) μ (addR (shrS t p f (R,B) d).1 p (f+d) _) (addR (shrS t p f (R,B) d).2 (f+d) p _)
     rw [e,Int.neg_neg]
     exact q2
   . show addR (shrS t p f (R,B) d).1 p (f+d) _ l c=_
     rw [By hl]
     exact i3 l c hl
theorem An4 {n W w i:Nat}{G:Nat->Prop}{R B:Mat}{t:Nat->Nat}{b p spot μ:Nat} (P:Part R t (spot+1) i) (h:∀ l,spot<l->l<i->(R p (t l)).natAbs<=μ*(R l (t l)).natAbs) (hG:∀ r c,spot<r->r<i->G c->(R r c).natAbs<=2 ^ b) (hn:i<n) (hp:p<=spot\/p=i) :
 ∀ d,spot+1+d<=i->ShrG n W w i G R B t b p spot μ (spot+1+d) (shrS t p (spot+1) (R,B) d).1 (shrS t p (spot+1) (R,B) d).2:=by
 intro d
 induction d with
 | zero=>intro _;exact ShrG.start h
 | succ d ih =>
   intro hd
   have i1:=ih (by omega)
   obtain⟨q1,q2⟩:=i1.step P hG (by omega) (show spot+1+d<i by omega) hn hp
   have e:(shrS t p (spot+1) (R,B) d).1 (spot+1+d) (t (spot+1+d))=R (spot+1+d) (t (spot+1+d)):=i1.s.same _ _ (by omega)
   show ShrG n W w i G R B t b p spot μ (spot+1+d+1) (addR (shrS t p (spot+1) (R,B) d).1 p (spot+1+d) _) (addR (shrS t p (spot+1) (R,B) d).2 (spot+1+d) p _)
   rw [e,Int.neg_neg]
   exact q2
theorem L3 {n W w i:Nat}{G:Nat->Prop}{R B:Mat}{t:Nat->Nat}{b p spot μ β c:Nat} (P:Part R t (spot+1) i) (inc:∀ l,spot<l->l<i->t spot<t l) (h:∀ l,spot<l->l<i->(R p (t l)).natAbs<=μ*(R l (t l)).natAbs) (hG:∀ r c,spot<r->r<i->G c->(R r c).natAbs<=2 ^ b) (hs:spot<i) (hn:i<n) (hp:p<=spot\/p=i) (hc:2 ^ i*μ<2 ^ c) (bb:BB n W C δ β (R,B)) :
 W3 n W w i G R B t b p spot μ (shrS t p (spot+1) (R,B) (i-(spot+1))).1 (shrS t p (spot+1) (R,B) (i-(spot+1))).2/\∀ d,spot+1+d<=i->BB n W C δ (β+i*(c+1)) (shrS t p (spot+1) (R,B) d):=by
 have r:=An4 (W:=W) (w:=w) (B:=B) (b:=b) P h hG hn hp (i-(spot+1)) (by omega)
 rw [show spot+1+(i-(spot+1))=i by omega] at r
 refine⟨r.done inc,fun d hd=>?_⟩
 have:=(Aa0 (W:=W) (w:=w) (lo:=i+1) (B:=B) P (fun l h1 h2=>h l (by omega) h2) (by omega) (by omega) (by omega) (by omega) (c:=c) (Nat.lt_of_le_of_lt (Nat.mul_le_mul_right _ (B9 (by omega))) hc) bb d hd).2.1
 refine this.mono ?_
 have:=Nat.mul_le_mul_right (c+1) (show d<=i by omega)
 omega
end Lat
namespace Lat
open Hb
variable {C:Nat->Prop}{δ:Nat}
abbrev cS (π i:Nat):Nat:=i+2*π+2
abbrev cM (π i:Nat):Nat:=π+2+2*(i*(cS π i+1))
theorem l8 {x π:Nat} (h:x<=2 ^ π):x<2 ^ (π+1):=by
 have:1<=2 ^ π:=Nat.one_le_two_pow
 rw [Nat.pow_succ];omega
theorem Az7 {π i μ:Nat} (h:μ<=2 ^ (2*π+1)):2 ^ i*μ<2 ^ cS π i:=by
 have e:2 ^ cS π i=2*(2 ^ i*2 ^ (2*π+1)):=by
  rw [show cS π i=1+(i+(2*π+1)) by unfold cS;omega,Nat.pow_add,Nat.pow_add,Nat.pow_one]
 rw [e]
 have a:=Nat.mul_le_mul_left (2 ^ i) h
 have b:1<=2 ^ i*2 ^ (2*π+1):=by rw [←Nat.pow_add];exact Nat.one_le_two_pow
 omega
variable {n W w i:Nat}{G:Nat->Prop}{R0 B0 R B:Mat}{t:Nat->Nat}{π b spot β:Nat}
theorem Cz.partOf (H:Jt n W w i G R0 B0 t π b) (h:Cz n W w i G R0 B0 t π b spot R B) {R1:Mat} (e:∀ r c,spot<r->r<i->R1 r c=R r c) :
 Part R1 t (spot+1) i/\(∀ l,spot<l->l<i->t spot<t l)/\∀ r c,spot<r->r<i->G c->(R1 r c).natAbs<=2 ^ b:=by
 have k:∀ r c,spot<r->r<i->R1 r c=R0 r c:=fun r c h1 h2=>(e r c h1 h2).trans (h.old r c (by omega) h2)
 refine⟨(H.part.sub (Nat.zero_le _)).congr fun j c h1 h2=>k j c (by omega) h2,fun l h1 h2=>H.part.inc spot l (Nat.zero_le _) h1 h2,fun r c h1 h2 hc=>?_⟩
 rw [k r c h1 h2]
 exact H.rw r c h2 hc
theorem Cz.meetAdd (H:Jt n W w i G R0 B0 t π b) (h:Cz n W w i G R0 B0 t π b spot R B) (hs:spot<i) (hz:∀ c,c<t spot->R i c=0) {q:Int} (he:R i (t spot)=q*R spot (t spot)) (bb:BB n W C δ β (R,B)) :
 Cz n W w i G R0 B0 t π b (spot+1) (shrS t i (spot+1) (addS i spot (-q) (R,B)) (i-(spot+1))).1 (shrS t i (spot+1) (addS i spot (-q) (R,B)) (i-(spot+1))).2 ∧
 BB n W C δ (β+cM π i) (addS i spot (-q) (R,B))/\∀ d,spot+1+d<=i->BB n W C δ (β+cM π i) (shrS t i (spot+1) (addS i spot (-q) (R,B)) d):=by
 have hn:=H.hi
 have hq:q.natAbs<=2 ^ π:=by
  have a:=h.pv spot (Nat.le_refl _) hs
  have p:=h.pos spot hs
  rw [he,Int.natAbs_mul] at a
  exact Nat.le_trans (Nat.le_mul_of_pos_right _ (by omega)) a
 have b1:BB n W C δ (β+(π+2)) (addS i spot (-q) (R,B)):=bb.add hn (by omega) (c:=π+1) (by rw [Int.natAbs_neg];exact l8 hq)
 obtain⟨P,inc,hG⟩:=h.partOf H (R1:=addR R i spot (-q)) fun r c h1 h2=>By (by omega) c
 obtain⟨S,bs⟩:=L3 (n:=n) (W:=W) (w:=w) (G:=G) (B:=(addS i spot (-q) (R,B)).2) (p:=i) (μ:=2 ^ (π+1)) (β:=β+(π+2)) (c:=cS π i) P inc (h.addPre H hs hq) hG hs hn (.inr rfl) (Az7 (B9 (by omega))) b1
 refine⟨h.metAdd H hs hq hz he ?_,b1.mono (by unfold cM;omega),fun d hd=>(bs d hd).mono (by unfold cM;omega)⟩
 have e:(addS i spot (-q) (R,B)).2=addR B spot i q:=by show addR B spot i (- -q)=_;rw [Int.neg_neg]
 rw [←e]
 exact S
theorem Cz.meetBlend (H:Jt n W w i G R0 B0 t π b) (h:Cz n W w i G R0 B0 t π b spot R B) (hs:spot<i) (hz:∀ c,c<t spot->R i c=0) {x y z u:Int} (e:Ar8 π (R spot (t spot)) (R i (t spot)) x y z u) (bb:BB n W C δ β (R,B)) :
 Cz n W w i G R0 B0 t π b (spot+1) (shrS t i (spot+1) (shrS t spot (spot+1) (blendS spot i x y z u (R,B)) (i-(spot+1))) (i-(spot+1))).1 (shrS t i (spot+1) (shrS t spot (spot+1) (blendS spot i x y z u (R,B)) (i-(spot+1))) (i-(spot+1))).2 ∧
 BB n W C δ (β+cM π i) (blendS spot i x y z u (R,B))/\(∀ d,spot+1+d<=i->BB n W C δ (β+cM π i) (shrS t spot (spot+1) (blendS spot i x y z u (R,B)) d)) ∧
 ∀ d,spot+1+d<=i->BB n W C δ (β+cM π i) (shrS t i (spot+1) (shrS t spot (spot+1) (blendS spot i x y z u (R,B)) (i-(spot+1))) d):=by
 have hn:=H.hi
 have ne:spot≠i:=by omega
 have b1:BB n W C δ (β+(π+2)) (blendS spot i x y z u (R,B)):=bb.blend (by omega) hn ne (c:=π+1) (l8 e.lx) (l8 e.ly) (l8 e.lz) (l8 e.lu)
 obtain⟨p1,p2⟩:=h.blendPre H hs e
 obtain⟨P,inc,hG⟩:=h.partOf H (R1:=blendR R spot i x y z u) fun r c h1 h2=>Cg (by omega) (by omega) _ _ _ _ c
 obtain⟨S1,bs1⟩:=L3 (n:=n) (W:=W) (w:=w) (G:=G) (B:=(blendS spot i x y z u (R,B)).2) (p:=spot) (μ:=2 ^ (2*π+1)) (β:=β+(π+2)) (c:=cS π i) P inc p1 hG hs hn (.inl (Nat.le_refl _)) (Az7 (Nat.le_refl _)) b1
 have b2:=bs1 (i-(spot+1)) (by omega)
 generalize hs2:shrS t spot (spot+1) (blendS spot i x y z u (R,B)) (i-(spot+1))=s2 at *
 have hs2':shrS t spot (spot+1) (blendR R spot i x y z u,(blendS spot i x y z u (R,B)).2) (i-(spot+1))=s2:=hs2
 rw [hs2'] at S1 b2
 obtain⟨P2,inc2,hG2⟩:=h.partOf H (R1:=s2.1) fun r c h1 h2=>by rw [S1.same r c (by omega),Cg (by omega) (by omega)]
 have p3:∀ l,spot<l->l<i->(s2.1 i (t l)).natAbs<=2 ^ (2*π+1)*(s2.1 l (t l)).natAbs:=fun l h1 h2=>by
  rw [S1.same i _ (fun z=>ne z.symm),S1.same l _ (by omega)]
  exact p2 l h1 h2
 obtain⟨S2,bs2⟩:=L3 (n:=n) (W:=W) (w:=w) (G:=G) (R:=s2.1) (B:=s2.2) (p:=i) (μ:=2 ^ (2*π+1)) (β:=β+(π+2)+i*(cS π i+1)) (c:=cS π i) P2 inc2 p3 hG2 hs hn (.inr rfl) (Az7 (Nat.le_refl _)) b2
 exact ⟨h.metBlend H hs e hz S1 S2,b1.mono (by unfold cM;omega),fun d hd=>(bs1 d hd).mono (by unfold cM;omega),fun d hd=>(bs2 d hd).mono (by unfold cM;omega)⟩
end Lat
namespace Lat
open Hb
variable {C:Nat->Prop}{δ:Nat}
def downS (t:Nat->Nat) (i:Nat) (s:Mat × Mat):Nat->Mat × Mat
 | 0=>s
 | d+1=>shrS t (i-d) (i-d+1) (downS t i s d) d
theorem Uh {n W w i:Nat}{G:Nat->Prop}{R0 B0 R B:Mat}{t:Nat->Nat}{Y β:Nat} (I:Ins n W w i G R0 B0 t Y R B) (hi:i<n) (bb:BB n W C δ β (R,B)) :
 ∀ d,d<=i+1->Down n W w i R B t (i+1-d) (downS t i (R,B) d).1 (downS t i (R,B) d).2/\BB n W C δ (β+d*((i+1)*(i+1+Y+2))) (downS t i (R,B) d) ∧
   (d<=i->∀ m,m<=d->BB n W C δ (β+(d+1)*((i+1)*(i+1+Y+2))) (shrS t (i-d) (i-d+1) (downS t i (R,B) d) m)):=by
 intro d
 have nxt:∀ d,d<=i->Down n W w i R B t (i+1-d) (downS t i (R,B) d).1 (downS t i (R,B) d).2->BB n W C δ (β+d*((i+1)*(i+1+Y+2))) (downS t i (R,B) d) →
  ∀ m,m<=d->Shr n W w (i+1) (downS t i (R,B) d).1 (downS t i (R,B) d).2 t (i-d) (i-d+1) (i+1) (i-d+1+m) (2 ^ Y) (shrS t (i-d) (i-d+1) (downS t i (R,B) d) m).1 (shrS t (i-d) (i-d+1) (downS t i (R,B) d) m).2/\BB n W C δ (β+(d+1)*((i+1)*(i+1+Y+2))) (shrS t (i-d) (i-d+1) (downS t i (R,B) d) m):=by
  intro d hd D b m hm
  generalize hs:downS t i (R,B) d=s at *
  obtain⟨R1,B1⟩:=s
  have P:=D.part
  rw [show i+1-d=i-d+1 by omega] at P D
  have rel:∀ l,i-d+1<=l->l<i+1->(R1 (i-d) (t l)).natAbs<=2 ^ Y*(R1 l (t l)).natAbs:=fun l h1 h2=>by
   have o:R1 (i-d) (t l)=R (i-d) (t l):=D.old (i-d) (t l) (by omega)
   have p:0<R1 l (t l):=D.s0.pos l h2
   rw [o]
   refine Nat.le_trans (I.gc (i-d) (t l) (by omega) (I.pg l (by omega))) (Nat.le_mul_of_pos_right _ (by omega))
  have run:=Aa0 (n:=n) (W:=W) (w:=w) (lo:=i+1) (R:=R1) (B:=B1) (p:=i-d) (f:=i-d+1) (m:=i+1) (μ:=2 ^ Y) (c:=i+1+Y+1) (β:=β+d*((i+1)*(i+1+Y+2))) P rel (by omega) (Nat.le_refl _) hi (.inl (by omega)) (by
   rw [←Nat.pow_add]
   exact Nat.pow_lt_pow_right (by decide) (by omega)) b m (by omega)
  refine⟨run.1,run.2.1.mono ?_⟩
  rw [Nat.add_mul d 1,Nat.one_mul]
  have:=Nat.mul_le_mul_right (i+1+Y+2) (show m<=i+1 by omega)
  have e:m*(i+1+Y+1+1)=m*(i+1+Y+2):=rfl
  omega
 induction d with
 | zero =>
   intro _
   have D0:Down n W w i R B t (i+1-0) (downS t i (R,B) 0).1 (downS t i (R,B) 0).2:=Down.start I.s0
   have b0:BB n W C δ (β+0*((i+1)*(i+1+Y+2))) (downS t i (R,B) 0):=bb.mono (by omega)
   exact ⟨D0,b0,fun hd m hm=>(nxt 0 hd D0 b0 m hm).2⟩
 | succ d ih =>
   intro hd
   obtain⟨D,b,_⟩:=ih (by omega)
   obtain⟨S,b2⟩:=nxt d (by omega) D b d (Nat.le_refl _)
   have D2:Down n W w i R B t (i+1-(d+1)) (downS t i (R,B) (d+1)).1 (downS t i (R,B) (d+1)).2:=by
    rw [show i+1-(d+1)=i-d by omega]
    rw [show i+1-d=i-d+1 by omega] at D
    rw [show i-d+1+d=i+1 by omega] at S
    exact D.next (by omega) S
   exact ⟨D2,b2,fun h m hm=>(nxt (d+1) h D2 b2 m hm).2⟩
end Lat
namespace Lat
open Hb
theorem S5 {f:Nat->Int}{j:Nat}:∀{i:Nat},j<=i->(∀ k,j<=k->k<i->f k=0)->sumN f i=sumN f j
 | 0,h,_=>by rw [show j=0 by omega]
 | i+1,h,hz=>by
   by_cases e:j=i+1
   . rw [e]
   . show sumN f i+f i=_
     rw [S5 (by omega) fun k h1 h2=>hz k h1 (by omega),hz i (by omega) (by omega)]
     omega
theorem Ab0 {f:Nat->Int}{m h:Nat}:∀{j:Nat},(∀ k,k<j->(f k).natAbs<=2 ^ k*m*h)->(sumN f j).natAbs+m*h<=2 ^ j*m*h
 | 0,_=>by show (0:Int).natAbs+m*h<=2 ^ 0*m*h;simp
 | j+1,hf=>by
   have a:=Ab0 (f:=f) (m:=m) (h:=h) (j:=j) fun k hk=>hf k (by omega)
   have b:=hf j (by omega)
   have c:=Int.natAbs_add_le (sumN f j) (f j)
   show (sumN f j+f j).natAbs+m*h<=_
   rw [Nat.pow_succ]
   have e:2 ^ j*2*m*h=2 ^ j*m*h+2 ^ j*m*h:=by grind
   omega
theorem Ar2 {i:Nat}{R B:Mat}{t:Nat->Nat} (P:Part R t 0 i) {a m:Nat} (h:∀ j,j<i->(sumN (fun k=>B k a*R k (t j)) i).natAbs<=m):∀ j,j<i->(B j a).natAbs<=2 ^ j*m:=by
 intro j
 induction j using Nat.strongRecOn with
 | _ j ih =>
   intro hj
   have pj:=P.pos j (Nat.zero_le _) hj
   have hs:=h j hj
   rw [S5 (j:=j+1) (by omega) fun k h1 h2=>by rw [P.zero k _ (Nat.zero_le _) h2 (P.inc j k (Nat.zero_le _) (by omega) h2)];simp] at hs
   have hs':(sumN (fun k=>B k a*R k (t j)) j+B j a*R j (t j)).natAbs<=m:=hs
   have b:=Ab0 (f:=fun k=>B k a*R k (t j)) (m:=m) (h:=(R j (t j)).natAbs) (j:=j) fun k hk=>by
    rw [Int.natAbs_mul]
    obtain⟨r1,r2⟩:=P.red k j (Nat.zero_le _) hk hj
    exact Nat.mul_le_mul (ih k hk (by omega)) (by omega)
   have c:(B j a*R j (t j)).natAbs<=2 ^ j*m*(R j (t j)).natAbs:=by
    have m1:m*1<=m*(R j (t j)).natAbs:=Nat.mul_le_mul_left _ (by omega)
    omega
   rw [Int.natAbs_mul] at c
   exact Nat.le_of_mul_le_mul_right c (by omega)
theorem C6.backs {n W w i:Nat}{G:Nat->Prop}{M B0 R B:Mat}{t:Nat->Nat} (h:C6 n W w i G M B0 t R B) (hi:i<=n) {a m:Nat} (hb:∀ k,i<=k->B k a=if k=a then 1 else 0) (hM:∀ j,j<i->(pT n B0 M a (t j)).natAbs<=m) (hM2:∀ j,j<i->(M a (t j)).natAbs<=m) (ha:i<=a->a<n->∀ j,j<i->pT n B0 M a (t j)=M a (t j)):∀ j,j<i->(B j a).natAbs<=2 ^ j*m:=by
 refine Ar2 ⟨fun j k _=>h.st.inc j k,fun j c _=>h.st.zero j c,fun j _=>h.st.pos j,fun k j _=>h.st.red k j⟩ fun j hj=>?_
 have e:pT n B R a (t j)=pT n B0 M a (t j):=h.good.pt a (t j)
 have s:pT n B R a (t j)=sumN (fun k=>B k a*R k (t j)) i+(if i<=a/\a<n then M a (t j) else 0):=by
  have:∀ d,i+d<=n->sumN (fun k=>B k a*R k (t j)) (i+d)=sumN (fun k=>B k a*R k (t j)) i+(if i<=a/\a<i+d then M a (t j) else 0):=by
   intro d
   induction d with
   | zero=>intro _;rw [if_neg (by omega)];show sumN _ i=_;omega
   | succ d ih =>
     intro hd
     show sumN (fun k=>B k a*R k (t j)) (i+d)+B (i+d) a*R (i+d) (t j)=_
     rw [ih (by omega),hb (i+d) (by omega),h.good.rest (i+d) _ (by omega)]
     by_cases z:i+d=a
     . subst z
       rw [if_pos rfl,if_neg (by omega),if_pos (by omega)]
       omega
     . rw [if_neg z]
       by_cases y:i<=a/\a<i+d
       . rw [if_pos y,if_pos (by omega)];omega
       . rw [if_neg y,if_neg (by omega)];omega
  have:=this (n-i) (by omega)
  rw [show i+(n-i)=n by omega] at this
  exact this
 by_cases z:i<=a/\a<n
 . rw [if_pos z,e,ha z.1 z.2 j hj] at s
   have:sumN (fun k=>B k a*R k (t j)) i=0:=by omega
   rw [this]
   exact Nat.zero_le _
 . rw [if_neg z,Int.add_zero] at s
   rw [←s,e]
   exact hM j hj
end Lat
namespace Lat
open Hb
theorem An2 {t:Nat->Nat}{n w:Nat} (inc:∀ j k,j<k->k<n->t j<t k):∃ r,r<=n/\(∀ j,j<r->t j<w)/\∀ j,r<=j->j<n->w<=t j:=by
 have:∀ m,m<=n->∃ r,r<=m/\(∀ j,j<r->t j<w)/\∀ j,r<=j->j<m->w<=t j:=by
  intro m
  induction m with
  | zero=>intro _;exact ⟨0,Nat.le_refl _,fun j hj=>by omega,fun j _ hj=>by omega⟩
  | succ m ih =>
    intro hm
    obtain⟨r,a,b,c⟩:=ih (by omega)
    by_cases z:t m<w
    . have hrm:r=m:=by
       refine Nat.le_antisymm a (Nat.le_of_not_lt fun y=>?_)
       have:=c r (Nat.le_refl _) y
       have:=inc r m y (by omega)
       omega
      exact ⟨m+1,Nat.le_refl _,fun j hj=>by
       by_cases q:j=m
       . rw [q];exact z
       . exact b j (by omega),fun j h1 h2=>by omega⟩
    . exact ⟨r,by omega,b,fun j h1 h2=>by
       by_cases q:j=m
       . rw [q];omega
       . exact c j h1 (by omega)⟩
 exact this n (Nat.le_refl _)
theorem C6.first {n W w D:Nat}{G:Nat->Prop}{M B0 R B:Mat}{t:Nat->Nat} (hD:Dets n G M D) (h:C6 n W w n G M B0 t R B) :
 ∃ r,r<=n/\Ey w r R t/\(∀ i c,r<=i->i<n->c<w->R i c=0)/\Ker n W w r t (fun j=>R j (t j)) R/\prodN (fun j=>R j (t j)) r<=D/\∀ j,j<n->R j (t j)<=D:=by
 obtain⟨r,hr,h1,h2⟩:=An2 (w:=w) h.st.inc
 have pos:∀ k,k<n->0<(fun j=>R j (t j)) k:=fun k hk=>h.st.pos k hk
 refine⟨r,hr,⟨h1,fun j k a b=>h.st.inc j k a (by omega),fun j c a b=>h.st.zero j c (by omega) b,fun j a=>h.st.pos j (by omega),fun k j a b=>h.st.red k j a (by omega)⟩,fun i c a b d=>h.st.zero i c b (by have:=h2 i a b;omega),⟨fun j c _ a b=>h.st.zero j c a b,fun j k _ a b=>h.st.inc j k a b,h2,fun j _ a=>h.st.lt j a,fun j _ _=>rfl,fun j _ a=>h.st.pos j a,fun k j _ a b=>h.st.red k j a b⟩,?_,fun j hj=>?_⟩
 . have a:=Sf (n:=n) pos r hr
   have b:=h.detsD hD (Nat.le_refl _) (s:=t) h.pg
   rw [V6 h.st.s0] at b
   have c:=Bf (n:=n) pos
   omega
 . have:=h.headD hD (Nat.le_refl _) hj
   have:=h.st.pos j hj
   omega
theorem c0 {n W b0 D:Nat}{M:Mat} (hM:∀ r c,r<n->c<W->(M r c).natAbs<=2 ^ b0) (hD:∀ i,i<=n->fac i*(2 ^ b0) ^ i<=D):Dets n (fun c=>c<W) M D:=fun i hi s hs =>
 Nat.le_trans (At1 fun r c hr hc=>hM r (s c) (by omega) (hs c hc)) (hD i hi)
end Lat
namespace Lat
open Hb
variable {C:Nat->Prop}{δ:Nat}
theorem addS_zero (p q:Nat) (s:Mat × Mat):addS p q (-0) s=s:=by
 unfold addS
 rw [show (-0:Int)=0 from rfl,show (-0:Int)=0 from rfl,W2,W2]
theorem Zh {t:Nat->Nat}{p f:Nat}{s:Mat × Mat}:∀ m,(∀ j,f<=j->j<f+m->s.1 p (t j) / s.1 j (t j)=0)->shrS t p f s m=s
 | 0,_=>rfl
 | m+1,h=>by
   have ih:=Zh (t:=t) (p:=p) (f:=f) (s:=s) m fun j h1 h2=>h j h1 (by omega)
   show addS p (f+m) (-((shrS t p f s m).1 p (t (f+m)) / (shrS t p f s m).1 (f+m) (t (f+m)))) (shrS t p f s m)=s
   rw [ih,h (f+m) (by omega) (by omega),addS_zero]
structure Last (i:Nat) (t:Nat->Nat) (R:Mat):Prop where
 inc:∀ j,j<i->t j<t i
 zero:∀ x,x<t i->R i x=0
 pos:∀ j,j<=i->0<R j (t j)
 red:∀ k j,k<j->j<i->0<=R k (t j)/\R k (t j)<R j (t j)
def Ke (R:Mat) (t:Nat->Nat) (i k:Nat):Int:=R k (t i) / R i (t i)
structure Lp (n i β c:Nat) (t:Nat->Nat) (R B:Mat) (d:Nat) (s:Mat × Mat):Prop where
 rows:∀ r x,s.1 r x=if i+1-d<=r/\r<i then R r x+-(Ke R t i r)*R i x else R r x
 old:∀ r x,r≠i->s.2 r x=B r x
 back:∀ x,x<n->(s.2 i x).natAbs<=2 ^ (β+c)*(d+1)
theorem Lp.step {n i β c:Nat}{t:Nat->Nat}{R B:Mat}{d:Nat}{s:Mat × Mat} (L:Last i t R) (bb:Bits n n β B) (hq:∀ k,k<i->(Ke R t i k).natAbs<2 ^ c) (hi:i<n) (hd:d<i+1) (h:Lp n i β c t R B d s) :
 Lp n i β c t R B (d+1) (shrS t (i-d) (i-d+1) s d)/\∀ m,m<d->shrS t (i-d) (i-d+1) s m=s:=by
 have own:∀ x,s.1 (i-d) x=R (i-d) x:=fun x=>by rw [h.rows,if_neg (by omega)]
 have ri:∀ x,s.1 i x=R i x:=fun x=>by rw [h.rows,if_neg (by omega)]
 have hdj:∀ j,j<=i->s.1 j (t j)=R j (t j):=fun j hj=>by
  rw [h.rows]
  by_cases z:i+1-d<=j/\j<i
  . rw [if_pos z,L.zero (t j) (L.inc j z.2)];simp
  . rw [if_neg z]
 have zq:∀ m,m<d->∀ j,i-d+1<=j->j<i-d+1+m->s.1 (i-d) (t j) / s.1 j (t j)=0:=fun m hm j h1 h2=>by
  rw [own,hdj j (by omega)]
  obtain⟨a,b⟩:=L.red (i-d) j (by omega) (by omega)
  exact Int.ediv_eq_zero_of_lt a b
 have zs:∀ m,m<d->shrS t (i-d) (i-d+1) s m=s:=fun m hm=>Zh m (zq m hm)
 refine⟨?_,zs⟩
 by_cases d0:d=0
 . subst d0
   show Lp n i β c t R B 1 s
   refine⟨fun r x=>?_,h.old,fun x hx=>Nat.le_trans (h.back x hx) (Nat.mul_le_mul_left _ (by omega))⟩
   rw [h.rows,if_neg (by omega),if_neg (by omega)]
 . obtain⟨e,rfl⟩:∃ e,d=e+1:=⟨d-1,by omega⟩
   have last:shrS t (i-(e+1)) (i-(e+1)+1) s (e+1)=addS (i-(e+1)) i (-(Ke R t i (i-(e+1)))) s:=by
    show addS _ (i-(e+1)+1+e) _ (shrS t (i-(e+1)) (i-(e+1)+1) s e)=_
    rw [zs e (by omega),show i-(e+1)+1+e=i by omega,own,hdj i (Nat.le_refl _)]
    rfl
   rw [last]
   refine⟨fun r x=>?_,fun r x hr=>?_,fun x hx=>?_⟩
   . show addR s.1 (i-(e+1)) i _ r x=_
     by_cases z:r=i-(e+1)
     . subst z
       rw [Bj,own,ri,if_pos (by omega),Int.one_mul]
     . rw [By z,h.rows]
       by_cases y:i+1-(e+1)<=r/\r<i
       . rw [if_pos y,if_pos (by omega)]
       . rw [if_neg y,if_neg (by omega)]
   . show addR s.2 i (i-(e+1)) _ r x=_
     rw [By hr]
     exact h.old r x hr
   . show (addR s.2 i (i-(e+1)) (- -(Ke R t i (i-(e+1)))) i x).natAbs<=_
     rw [Bj,Int.one_mul,Int.neg_neg,h.old (i-(e+1)) x (by omega)]
     have a:=h.back x hx
     have b:=Int.natAbs_add_le (s.2 i x) (Ke R t i (i-(e+1))*B (i-(e+1)) x)
     rw [Int.natAbs_mul] at b
     have m:(Ke R t i (i-(e+1))).natAbs*(B (i-(e+1)) x).natAbs<=2 ^ c*2 ^ β:=Nat.mul_le_mul (Nat.le_of_lt (hq _ (by omega))) (Nat.le_of_lt (bb _ _ (by omega) hx))
     rw [←Nat.pow_add,Nat.add_comm c β] at m
     rw [Nat.mul_add _ (e+1+1) 1,Nat.mul_one]
     omega
theorem Ap5 {n W i β c:Nat}{t:Nat->Nat}{R B:Mat} (L:Last i t R) (bb:BB n W C δ β (R,B)) (hq:∀ k,k<i->(Ke R t i k).natAbs<2 ^ c) (hi:i<n) :
 ∀ d,d<=i+1->Lp n i β c t R B d (downS t i (R,B) d):=by
 intro d
 induction d with
 | zero =>
   intro _
   refine⟨fun r x=>?_,fun _ _ _=>rfl,fun x hx=>?_⟩
   . rw [if_neg (by omega)];rfl
   . show (B i x).natAbs<=_
     have a:(B i x).natAbs<2 ^ β:=bb.2.1 i x hi hx
     have p:2 ^ β<=2 ^ (β+c):=B9 (by omega)
     omega
 | succ d ih =>
   intro hd
   exact ((ih (by omega)).step L bb.2.1 hq hi (by omega)).1
theorem Lp.bits {n W i β c:Nat}{t:Nat->Nat}{R B:Mat}{d:Nat}{s:Mat × Mat} (bb:BB n W C δ β (R,B)) (hq:∀ k,k<i->(Ke R t i k).natAbs<2 ^ c) (hi:i<n) (hd:d<=i+1) (h:Lp n i β c t R B d s):BB n W C δ (β+(c+i+3)) s:=by
 refine⟨fun r x hr hx=>?_,fun r x hr hx=>?_,fun r x hr hx=>?_⟩
 . rw [h.rows]
   by_cases z:i+1-d<=r/\r<i
   . rw [if_pos z]
     have e:=Int.natAbs_add_le (R r x) (-(Ke R t i r)*R i x)
     rw [Int.natAbs_mul,Int.natAbs_neg] at e
     have a:=bb.1 r x hr hx
     have b:=bb.1 i x hi hx
     have m:(Ke R t i r).natAbs*(R i x).natAbs<=2 ^ c*2 ^ β:=Nat.mul_le_mul (Nat.le_of_lt (hq r z.2)) (Nat.le_of_lt b)
     rw [←Nat.pow_add,Nat.add_comm c β] at m
     have p:2 ^ β<=2 ^ (β+c):=B9 (by omega)
     have q:4*2 ^ (β+c)<=2 ^ (β+(c+i+3)):=by
      have e4:4*2 ^ (β+c)=2 ^ (2+(β+c)):=by rw [Nat.pow_add 2 2 (β+c)]
      rw [e4]
      exact B9 (by omega)
     have a':(R r x).natAbs<2 ^ β:=a
     omega
   . rw [if_neg z]
     exact Nat.lt_of_lt_of_le (bb.1 r x hr hx) (B9 (by omega))
 . by_cases z:r=i
   . subst z
     have a:=h.back x hx
     have l:d+1<2 ^ (r+2):=by
      have:=Nat.lt_two_pow_self (n:=r+2)
      omega
     refine Nat.lt_of_le_of_lt a ?_
     have e4:2 ^ (β+(c+r+3))=2 ^ (β+c)*2 ^ (r+3):=by rw [←Nat.pow_add];congr 1;omega
     rw [e4]
     refine Nat.mul_lt_mul_of_pos_left ?_ Nat.one_le_two_pow
     exact Nat.lt_of_lt_of_le l (B9 (by omega))
   . rw [h.old r x z]
     exact Nat.lt_of_lt_of_le (bb.2.1 r x hr hx) (B9 (by omega))
 . rw [h.rows]
   by_cases z:i+1-d<=r/\r<i
   . rw [if_pos z]
     have:=Lm (a:=1) (k:=-(Ke R t i r)) (c:=c) (bb.2.2 r x hr hx) (bb.2.2 i x hi hx) (show 1<=2 ^ c from Nat.one_le_two_pow) (by rw [Int.natAbs_neg];exact Nat.le_of_lt (hq r z.2))
     rw [Int.one_mul] at this
     exact Nat.lt_of_lt_of_le this (B9 (by omega))
   . rw [if_neg z]
     exact Nat.lt_of_lt_of_le (bb.2.2 r x hr hx) (B9 (by omega))
end Lat
namespace Lat
open Hb
variable {C:Nat->Prop}{δ:Nat}
theorem fdiv_small {x h:Int}{c:Nat} (hh:0<h) (hx:x.natAbs<2 ^ c):(x / h).natAbs<2 ^ c:=by
 have:=Ag8 (x:=x) (h:=h) (K:=x.natAbs) hh (Nat.le_mul_of_pos_right _ (by omega))
 omega
theorem C6.putB {n W w i β:Nat}{G:Nat->Prop}{M B0 R B:Mat}{t:Nat->Nat} (h:C6 n W w i G M B0 t R B) (hi:i<n) (hGW:∀ c,G c->c<W) (bb:Bits n W β R):Jt n W w i G R B t β β :=
 ⟨hi,⟨fun j k _=>h.st.inc j k,fun j c _=>h.st.zero j c,fun j _=>h.st.pos j,fun k j _=>h.st.red k j⟩,h.st.lt,fun j hj=>Nat.le_of_lt (bb j _ (by omega) (h.st.lt j hj)),fun r c hr hc=>Nat.le_of_lt (bb r c (by omega) (hGW c hc)),fun c hc=>Nat.le_of_lt (bb i c hi (hGW c hc)),fun l hl=>Nat.le_of_lt (bb i _ hi (h.st.lt l hl))⟩
theorem Bp.last {n W w r i β c:Nat}{G:Nat->Prop}{M B0 R B:Mat}{kt t:Nat->Nat}{hd:Nat->Int} (K:Ker n W w r kt hd M) (h:Bp n W w r i G M B0 kt hd t R B) (hi:r<=i) (hn:i<n) (hGW:∀ c,G c->c<W) (hG:G (kt i)) (bb:BB n W C δ β (R,B)) (hc:∀ k,k<i->(R k (kt i)).natAbs<2 ^ c) :
 Bp n W w r (i+1) G M B0 kt hd (insT t i (kt i)) (downS (insT t i (kt i)) i (R,B) (i+1)).1 (downS (insT t i (kt i)) i (R,B) (i+1)).2 ∧
 (∀ d,d<=i+1->Lp n i β c (insT t i (kt i)) R B d (downS (insT t i (kt i)) i (R,B) d)/\BB n W C δ (β+(c+i+3)) (downS (insT t i (kt i)) i (R,B) d)) ∧
 (∀ d,d<i+1->∀ m,m<d->shrS (insT t i (kt i)) (i-d) (i-d+1) (downS (insT t i (kt i)) i (R,B) d) m=downS (insT t i (kt i)) i (R,B) d):=by
 have H:=h.st.putB hn hGW bb.1
 obtain⟨I,_⟩:=h.ins K hi H hG
 have D:=(Uh I hn bb (i+1) (Nat.le_refl _)).1
 rw [Nat.sub_self] at D
 have t1:∀ j,j<i->insT t i (kt i) j=t j:=fun j hj=>if_pos hj
 have t2:insT t i (kt i) i=kt i:=by unfold insT;rw [if_neg (by omega),if_pos rfl]
 have L:Last i (insT t i (kt i)) R:=⟨fun j hj=>I.s0.inc j i hj (by omega),fun x hx=>I.s0.zero i x (by omega) hx,fun j hj=>I.s0.pos j (by omega),fun k j h1 h2=>by rw [t1 j h2];exact h.st.st.red k j h1 h2⟩
 have hq:∀ k,k<i->(Ke R (insT t i (kt i)) i k).natAbs<2 ^ c:=fun k hk=>fdiv_small (L.pos i (Nat.le_refl _)) (by rw [t2];exact hc k hk)
 have run:=Ap5 L bb hq hn
 exact ⟨h.nextK K hi hn I D,fun d hd=>⟨run d hd,(run d hd).bits bb hq hn hd⟩,fun d hd=>((run d (by omega)).step L bb.2.1 hq hn hd).2⟩
def u9 (n r i:Nat) (kt:Nat->Nat) (c:Nat) (R:Mat):Prop:=∀ k j,k<i->i<=j->j<n->(R k (kt j)).natAbs<2 ^ c
theorem Bp.above {n W w r i β c η:Nat}{G:Nat->Prop}{M B0 R B:Mat}{kt t:Nat->Nat}{hd:Nat->Int}{s:Mat × Mat} (K:Ker n W w r kt hd M) (h:Bp n W w r i G M B0 kt hd t R B) (hi:r<=i) (hn:i<n) (hη:∀ j,r<=j->j<n->(hd j).natAbs<=2 ^ η) (a:u9 n r i kt c R) (l:Lp n i β c (insT t i (kt i)) R B (i+1) s):u9 n r (i+1) kt (c+η+1) s.1:=fun k j h1 h2 h3=>by
 have t2:insT t i (kt i) i=kt i:=by unfold insT;rw [if_neg (by omega),if_pos rfl]
 have mi:(R i (kt j)).natAbs<2 ^ η:=by
  rw [h.st.good.rest i _ (Nat.le_refl _)]
  obtain⟨m1,m2⟩:=K.red i j (by omega) (by omega) h3
  have:=hη j (by omega) h3
  omega
 have p1:2 ^ η<=2 ^ (c+η):=B9 (by omega)
 have p2:2 ^ c<=2 ^ (c+η):=B9 (by omega)
 rw [l.rows,Nat.pow_succ]
 by_cases z:i+1-(i+1)<=k/\k<i
 . rw [if_pos z]
   have e:=Int.natAbs_add_le (R k (kt j)) (-(Ke R (insT t i (kt i)) i k)*R i (kt j))
   rw [Int.natAbs_mul,Int.natAbs_neg] at e
   have q:(Ke R (insT t i (kt i)) i k).natAbs<=2 ^ c:=by
    unfold Ke
    rw [t2]
    have p:0<R i (kt i):=by rw [h.st.good.rest i _ (Nat.le_refl _),K.head i hi hn];exact K.pos i hi hn
    exact Nat.le_of_lt (fdiv_small p (a k i z.2 (Nat.le_refl _) hn))
   have m:=Nat.mul_le_mul q (Nat.le_of_lt mi)
   rw [←Nat.pow_add] at m
   have b:=a k j z.2 (by omega) h3
   omega
 . rw [if_neg z]
   have:k=i:=by omega
   subst this
   omega
end Lat
namespace Lat
open Hb
def put2 (f:Nat->Int) (i j:Nat) (x y:Int):Nat->Int:=fun k=>if k=i then x else if k=j then y else f k
theorem O8 (f:Nat->Int) (i j:Nat) (x y:Int):put2 f i j x y i=x:=if_pos rfl
theorem O7 {i j:Nat} (f:Nat->Int) (h:i≠j) (x y:Int):put2 f i j x y j=y:=by unfold put2;rw [if_neg (fun z=>h z.symm),if_pos rfl]
theorem Gg {i j k:Nat} (f:Nat->Int) (h1:k≠i) (h2:k≠j) (x y:Int):put2 f i j x y k=f k:=by unfold put2;rw [if_neg h1,if_neg h2]
structure Pair (o t g r:Int):Prop where
 go:g∣o
 gt:g∣t
 tr:t∣r
 pr:g*r=o*t
 all:∀ d:Int,d∣o->d∣t->d∣g
theorem Shares.pair {A B g a b:Int} (h:Shares A B g a b):Pair A B g (A / g*B):=by
 obtain⟨p,eA⟩:=h.dA
 have g0:g≠0:=by have:=h.pos;omega
 have k1:A / g=p:=by rw [eA];exact Int.mul_ediv_cancel_left _ g0
 refine⟨h.dA,h.dB,⟨A / g,Int.mul_comm ..⟩,?_,fun d h1 h2=>?_⟩
 . rw [k1,←Int.mul_assoc,←eA]
 . rw [h.e]
   exact Int.dvd_add (Int.dvd_mul_of_dvd_right h1) (Int.dvd_mul_of_dvd_right h2)
def ChainTo (m i:Nat) (f:Nat->Int):Prop:=∀ a b,a<i->a<b->b<m->f a∣f b
def ChainAt (m i j:Nat) (f:Nat->Int):Prop:=ChainTo m i f/\∀ b,i<b->b<j->f i∣f b
theorem ChainAt.step {m i j:Nat}{f:Nat->Int}{g r:Int} (h:ChainAt m i j f) (hij:i<j) (hj:j<m) (p:Pair (f i) (f j) g r):ChainAt m i (j+1) (put2 f i j g r):=by
 have ne:i≠j:=by omega
 refine⟨fun a b ha hab hb=>?_,fun b hb hbj=>?_⟩
 . rw [Gg f (show a≠i by omega) (show a≠j by omega)]
   have d1:=h.1 a i ha ha (by omega)
   have d2:=h.1 a j ha (by omega) hj
   by_cases e1:b=i
   . rw [e1,O8];exact p.all _ d1 d2
   . by_cases e2:b=j
     . rw [e2,O7 f ne];exact Int.dvd_trans d2 p.tr
     . rw [Gg f e1 e2];exact h.1 a b ha hab hb
 . rw [O8]
   by_cases e2:b=j
   . rw [e2,O7 f ne];exact Int.dvd_trans p.gt p.tr
   . rw [Gg f (by omega) e2]
     exact Int.dvd_trans p.go (h.2 b hb (by omega))
theorem ChainAt.skip {m i j:Nat}{f:Nat->Int} (h:ChainAt m i j f) (d:f i∣f j):ChainAt m i (j+1) f:=⟨h.1,fun b hb hbj=>by
 by_cases e:b=j
 . rw [e];exact d
 . exact h.2 b hb (by omega)⟩
theorem ChainTo.at {m i:Nat}{f:Nat->Int} (h:ChainTo m i f):ChainAt m i (i+1) f:=⟨h,fun b h1 h2=>by omega⟩
theorem ChainAt.next {m i:Nat}{f:Nat->Int} (h:ChainAt m i m f):ChainTo m (i+1) f:=fun a b ha hab hb=>by
 by_cases e:a=i
 . rw [e] at hab ⊢;exact h.2 b hab hb
 . exact h.1 a b (by omega) hab hb
theorem Kw {f f':Nat->Int}{i:Nat}:∀{m:Nat},i<m->(∀ k,k<m->k≠i->f' k=f k)->prodN f' m*f i=prodN f m*f' i
 | m+1,hi,h=>by
   show prodN f' m*f' m*f i=prodN f m*f m*f' i
   by_cases e:i=m
   . subst e
     have:prodN f' i=prodN f i:=by
      have:∀ l,l<=i->prodN f' l=prodN f l:=by
       intro l
       induction l with
       | zero=>intro _;rfl
       | succ l ih=>intro hl;show prodN f' l*f' l=prodN f l*f l;rw [ih (by omega),h l (by omega) (by omega)]
      exact this i (Nat.le_refl _)
     rw [this]
     grind
   . have ih:=Kw (f:=f) (f':=f') (i:=i) (m:=m) (by omega) fun k hk=>h k (by omega)
     rw [h m (by omega) (fun z=>e z.symm)]
     have:prodN f' m*f m*f i=prodN f' m*f i*f m:=by grind
     rw [this,ih]
     grind
theorem Aa9 {f:Nat->Int}{i j m:Nat}{x y:Int} (hij:i<j) (hj:j<m) (h0:f i≠0) (hj0:f j≠0) (e:x*y=f i*f j):prodN (put2 f i j x y) m=prodN f m:=by
 have ne:i≠j:=by omega
 have a:=Kw (f:=f) (f':=put2 f i j x (f j)) (i:=i) (m:=m) (by omega) fun k hk hne=>by
  by_cases z:k=j
  . rw [z,O7 f ne]
  . exact Gg f hne z ..
 have b:=Kw (f:=put2 f i j x (f j)) (f':=put2 f i j x y) (i:=j) (m:=m) hj fun k hk hne=>by
  by_cases z:k=i
  . rw [z,O8,O8]
  . rw [Gg f z hne,Gg f z hne]
 rw [O8] at a
 rw [O7 f ne,O7 f ne] at b
 have c:prodN (put2 f i j x y) m*(f j*f i)=prodN f m*(f j*f i):=by
  have:prodN (put2 f i j x y) m*(f j*f i)=(prodN (put2 f i j x y) m*f j)*f i:=by grind
  rw [this,b]
  have:prodN (put2 f i j x (f j)) m*y*f i=(prodN (put2 f i j x (f j)) m*f i)*y:=by grind
  rw [this,a]
  have:prodN f m*x*y=prodN f m*(x*y):=by grind
  rw [this,e]
  grind
 exact Int.eq_of_mul_eq_mul_right (Int.mul_ne_zero hj0 h0) c
end Lat
namespace Lat
open Hb
structure Bil (β:(Nat->Int)->(Nat->Int)->Int):Prop where
 l:∀ u v y a b,β (fun c=>a*u c+b*v c) y=a*β u y+b*β v y
 r:∀ x u v a b,β x (fun c=>a*u c+b*v c)=a*β x u+b*β x v
theorem U5 {β:(Nat->Int)->(Nat->Int)->Int} (hb:Bil β) {P Q:Mat}{f:Nat->Int}{i j n w:Nat} (ne:i≠j) (hin:i<n) (hjn:j<n) (hiw:i<w) (hjw:j<w) (h:∀ x y,x<n->y<w->β (P x) (Q y)=if x=y then f x else 0) {g a b:Int} (S:Shares (f i) (f j) g a b) :
 ∀ x y,x<n->y<w->β (addR (addR P i j 1) j i (-(b*f j / g)) x) (blendR Q i j a b (-(f j / g)) (f i / g) y)=if x=y then put2 f i j g (f i / g*f j) x else 0:=by
 obtain⟨p,eA⟩:=S.dA
 obtain⟨q,eB⟩:=S.dB
 have g0:g≠0:=by have:=S.pos;omega
 have k1:f i / g=p:=by rw [eA];exact Int.mul_ediv_cancel_left _ g0
 have k2:f j / g=q:=by rw [eB];exact Int.mul_ediv_cancel_left _ g0
 have k3:b*f j / g=b*q:=by rw [eB,show b*(g*q)=g*(b*q) by grind];exact Int.mul_ediv_cancel_left _ g0
 have e0:=S.e
 have ne':j≠i:=fun z=>ne z.symm
 rw [k1,k2,k3]
 have pi:addR (addR P i j 1) j i (-(b*q)) i=fun c=>1*P i c+1*P j c:=by rw [addR_row_ne ne,Ik]
 have pj:addR (addR P i j 1) j i (-(b*q)) j=fun c=>1*P j c+(-(b*q))*(fun c=>1*P i c+1*P j c) c:=by
  rw [Ik,addR_row_ne ne',Ik]
 have po:∀ x,x≠i->x≠j->addR (addR P i j 1) j i (-(b*q)) x=P x:=fun x h1 h2=>by rw [addR_row_ne h2,addR_row_ne h1]
 have ii:=h i i hin hiw
 have ij:=h i j hin hjw
 have ji:=h j i hjn hiw
 have jj:=h j j hjn hjw
 rw [if_pos rfl] at ii jj
 rw [if_neg ne] at ij
 rw [if_neg ne'] at ji
 intro x y hx hy
 by_cases y1:y=i
 . subst y1
   rw [blend_row_p ne]
   by_cases x1:x=y
   . subst x1
     rw [if_pos rfl,O8,pi,hb.l,hb.r,hb.r,ii,ij,ji,jj]
     grind
   . rw [if_neg x1]
     by_cases x2:x=j
     . subst x2
       rw [pj,hb.l,hb.l,hb.r,hb.r,ii,ij,ji,jj]
       have:1*(a*0+b*f x)+-(b*q)*(1*(a*f y+b*0)+1*(a*0+b*f x))=b*f x-b*q*(a*f y+b*f x):=by grind
       rw [this,←e0]
       have:b*f x=b*(g*q):=by rw [←eB]
       rw [this]
       grind
     . rw [po x x1 x2,hb.r,h x y hx hy,h x j hx hjw,if_neg x1,if_neg x2]
       simp
 . by_cases y2:y=j
   . subst y2
     rw [blend_row_q]
     by_cases x1:x=i
     . subst x1
       rw [if_neg ne,pi,hb.l,hb.r,hb.r,ii,ij,ji,jj]
       have:1*(-q*f x+p*0)+1*(-q*0+p*f y)=p*f y-q*f x:=by grind
       rw [this,eA,eB]
       grind
     . by_cases x2:x=y
       . subst x2
         rw [if_pos rfl,O7 f ne,pj,hb.l,hb.l,hb.r,hb.r,ii,ij,ji,jj]
         have:1*(-q*0+p*f x)+-(b*q)*(1*(-q*f i+p*0)+1*(-q*0+p*f x))=p*f x-b*q*(p*f x-q*f i):=by grind
         rw [this]
         have:p*f x-q*f i=0:=by rw [eA,eB];grind
         rw [this]
         omega
       . rw [if_neg x2,po x x1 x2,hb.r,h x i hx hiw,h x y hx hy,if_neg x1,if_neg x2]
         simp
   . rw [blend_row_ne y1 y2]
     by_cases x1:x=i
     . subst x1
       rw [if_neg (fun z=>y1 z.symm),pi,hb.l,h x y hx hy,h j y hjn hy,if_neg (fun z=>y1 z.symm),if_neg (fun z=>y2 z.symm)]
       simp
     . by_cases x2:x=j
       . subst x2
         rw [if_neg (fun z=>y2 z.symm),pj,hb.l,hb.l,h x y hx hy,h i y hin hy,if_neg (fun z=>y2 z.symm),if_neg (fun z=>y1 z.symm)]
         simp
       . rw [po x x1 x2,h x y hx hy]
         by_cases e:x=y
         . rw [if_pos e,if_pos e,Gg f x1 x2]
         . rw [if_neg e,if_neg e]
end Lat
namespace Lat
open Hb
def bil (n w:Nat) (A:Mat) (p q:Nat->Int):Int:=sumN (fun a=>p a*sumN (fun b=>A a b*q b) w) n
theorem Al2 (n w:Nat) (A:Mat):Bil (bil n w A):=by
 refine⟨fun u v y a b=>?_,fun x u v a b=>?_⟩
 . unfold bil
   rw [←Au,←Au,←Bw]
   exact Ak fun k _=>by grind
 . unfold bil
   rw [←Au,←Au,←Bw]
   refine Ak fun k _=>?_
   have:sumN (fun c=>A k c*(a*u c+b*v c)) w=a*sumN (fun c=>A k c*u c) w+b*sumN (fun c=>A k c*v c) w:=by
    rw [←Au,←Au,←Bw]
    exact Ak fun c _=>by grind
   rw [this]
   grind
theorem Qj {n w:Nat}{A:Mat}{p p' q q':Nat->Int} (hp:∀ a,a<n->p a=p' a) (hq:∀ b,b<w->q b=q' b):bil n w A p q=bil n w A p' q':=by
 unfold bil
 refine Ak fun a ha=>?_
 rw [hp a ha,Ak fun b hb=>by rw [hq b hb]]
theorem Ij (n w:Nat) (A:Mat) (p q:Nat->Int):bil n w A p q=bil w n (tr A) q p:=by
 unfold bil
 rw [show (fun a=>p a*sumN (fun b=>A a b*q b) w)=fun a=>sumN (fun b=>p a*(A a b*q b)) w from funext fun a=>(Au ..).symm]
 rw [Eb]
 refine Ak fun b _=>?_
 rw [←Au]
 exact Ak fun a _=>by grind
theorem Ut {n w:Nat}{A:Mat}{x:Nat->Int}{U:Mat}{q:Nat->Int}:∀ m,bil n w A (fun c=>sumN (fun k=>x k*U k c) m) q=sumN (fun k=>x k*bil n w A (U k) q) m
 | 0=>by
   show bil n w A (fun _=>0) q=0
   unfold bil
   exact Ay fun a _=>by simp
 | m+1=>by
   have e:(fun c=>sumN (fun k=>x k*U k c) (m+1))=fun c=>1*(fun c=>sumN (fun k=>x k*U k c) m) c+x m*U m c:=funext fun c=>by
    show sumN (fun k=>x k*U k c) m+x m*U m c=1*sumN (fun k=>x k*U k c) m+x m*U m c
    omega
   rw [e,(Al2 n w A).l,Ut m]
   show 1*sumN (fun k=>x k*bil n w A (U k) q) m+x m*bil n w A (U m) q=sumN (fun k=>x k*bil n w A (U k) q) m+x m*bil n w A (U m) q
   omega
def Told (n w:Nat) (A Q M:Mat):Prop:=∀ k c,k<n->c<w->M k c=bil n w A (fun a=>M k (w+a)) (Q c)
theorem Told.rows {n w W:Nat}{A Q M R:Mat} (h:Told n w A Q M) (hW:w+n<=W) (e:∀ i,i<n->In W n M (R i)):Told n w A Q R:=fun i c hi hc=>by
 obtain⟨x,hx⟩:=e i hi
 rw [hx c (by omega)]
 have:bil n w A (fun a=>R i (w+a)) (Q c)=bil n w A (fun a=>sumN (fun k=>x k*(fun k a=>M k (w+a)) k a) n) (Q c):=Qj (fun a ha=>hx (w+a) (by omega)) fun _ _=>rfl
 rw [this,Ut]
 exact Ak fun k hk=>by rw [h k c hk hc]
theorem C6.told {n W w:Nat}{G:Nat->Prop}{A Q M B0 R B:Mat}{t:Nat->Nat} (h:C6 n W w n G M B0 t R B) (hW:w+n<=W) (k:Told n w A Q M):Told n w A Q R:=k.rows hW (h.good.eqv n (Nat.le_refl _)).1
def beside (w:Nat) (T P:Mat):Mat:=fun r c=>if c<w then T r c else P r (c-w)
theorem beside_lo {w:Nat}{T P:Mat}{r c:Nat} (h:c<w):beside w T P r c=T r c:=if_pos h
theorem beside_hi (w:Nat) (T P:Mat) (r a:Nat):beside w T P r (w+a)=P r a:=by unfold beside;rw [if_neg (by omega),Nat.add_sub_cancel_left]
theorem J6 {n w:Nat}{A Q T P:Mat} (h:∀ k c,k<n->c<w->T k c=bil n w A (P k) (Q c)):Told n w A Q (beside w T P):=fun k c hk hc=>by
 rw [beside_lo hc,h k c hk hc]
 exact Qj (fun a _=>(beside_hi w T P k a).symm) fun _ _=>rfl
theorem Ux {n w:Nat}{A Q T P:Mat} (h:∀ k c,k<n->c<w->T k c=bil n w A (P k) (Q c)):∀ c k,c<w->k<n->tr T c k=bil w n (tr A) (Q c) (P k):=fun c k hc hk=>by
 show T k c=_
 rw [h k c hk hc,Ij]
end Lat
namespace Lat
open Hb
variable {C:Nat->Prop}{δ:Nat}
def Em (π b i:Nat):Nat:=i*cM π i+(i+1)*((i+1)*(i+1+(b+i+3+2*π+i*(π+1))+2))
def tabC (π b:Nat):Nat->Nat
 | 0=>0
 | i+1=>tabC π b i+Em π b i
def endC (c η r:Nat):Nat->Nat
 | 0=>0
 | d+1=>endC c η r d+(c+d*(η+1)+(r+d)+3)
end Lat
namespace Lat
open Hb
variable {C:Nat->Prop}{δ:Nat}
theorem Bp.wide {n W w r i:Nat}{G G':Nat->Prop}{M B0 R B:Mat}{kt t:Nat->Nat}{hd:Nat->Int} (h:Bp n W w r i G M B0 kt hd t R B) (hG:∀ c,G c->G' c):Bp n W w r i G' M B0 kt hd t R B:=⟨⟨h.st.good,h.st.st,fun j hj=>hG _ (h.st.pg j hj)⟩,h.tab,h.ker⟩
theorem Ar4 {n W r β:Nat}{kt:Nat->Nat}{s:Mat × Mat} (b:BB n W C δ β s) (hr:r<=n) (hC:∀ j,r<=j->j<n->C (kt j)) (hδ:δ<=β):u9 n r r kt (β-δ) s.1:=fun k j h1 h2 h3=>by
 have:=b.2.2 k (kt j) (by omega) (hC j h2 h3)
 have e:2 ^ β=2 ^ (β-δ)*2 ^ δ:=by rw [←Nat.pow_add];congr 1;omega
 rw [e] at this
 exact Nat.lt_of_mul_lt_mul_right this
def moveS (i s:Nat) (x:Mat × Mat):Mat × Mat:=(moveR x.1 i s,moveR x.2 i s)
def negS (p:Nat) (x:Mat × Mat):Mat × Mat:=(negR x.1 p,negR x.2 p)
theorem A40 {n i s r:Nat} (hi:i<n) (hs:s<=i) (hr:r<n):mvI i s r<n:=by unfold mvI;split;omega;split;omega;split<;>omega
theorem BB.move {n W β i s:Nat}{x:Mat × Mat} (h:BB n W C δ β x) (hi:i<n) (hs:s<=i):BB n W C δ β (moveS i s x) :=
 ⟨h.1.move hi hs,h.2.1.move hi hs,fun r c hr hc=>by show (moveR x.1 i s r c).natAbs*_<_;rw [move_row];exact h.2.2 _ c (A40 hi hs hr) hc⟩
theorem BB.neg {n W β p:Nat}{x:Mat × Mat} (h:BB n W C δ β x):BB n W C δ β (negS p x) :=
 ⟨h.1.neg,h.2.1.neg,fun r c hr hc=>by
  show (negR x.1 p r c).natAbs*_<_
  unfold negR
  by_cases e:r=p
  . subst e;rw [At,Int.natAbs_neg];exact h.2.2 r c hr hc
  . rw [A1 e];exact h.2.2 r c hr hc⟩
def insS (i spot st:Nat) (x:Mat × Mat):Mat × Mat:=if (moveS i spot x).1 spot st<0 then negS spot (moveS i spot x) else moveS i spot x
theorem A50 (i spot st:Nat) (R B:Mat):(insS i spot st (R,B)).1=if moveR R i spot spot st<0 then negR (moveR R i spot) spot else moveR R i spot:=by
 unfold insS
 by_cases z:moveR R i spot spot st<0
 . rw [if_pos z];show (if moveR R i spot spot st<0 then negS spot (moveS i spot (R,B)) else moveS i spot (R,B)).1=_;rw [if_pos z];rfl
 . rw [if_neg z];show (if moveR R i spot spot st<0 then negS spot (moveS i spot (R,B)) else moveS i spot (R,B)).1=_;rw [if_neg z];rfl
theorem A49 (i spot st:Nat) (R B:Mat):(insS i spot st (R,B)).2=if moveR R i spot spot st<0 then negR (moveR B i spot) spot else moveR B i spot:=by
 unfold insS
 by_cases z:moveR R i spot spot st<0
 . rw [if_pos z];show (if moveR R i spot spot st<0 then negS spot (moveS i spot (R,B)) else moveS i spot (R,B)).2=_;rw [if_pos z];rfl
 . rw [if_neg z];show (if moveR R i spot spot st<0 then negS spot (moveS i spot (R,B)) else moveS i spot (R,B)).2=_;rw [if_neg z];rfl
theorem BB.ins {n W β i spot st:Nat}{x:Mat × Mat} (h:BB n W C δ β x) (hi:i<n) (hs:spot<=i):BB n W C δ β (insS i spot st x):=by
 unfold insS
 split
 . exact (h.move hi hs).neg
 . exact h.move hi hs
theorem Av3 {n W w i β:Nat}{G:Nat->Prop}{R0 B0 R B:Mat}{t:Nat->Nat}{π b spot st:Nat} (H:Jt n W w i G R0 B0 t π b) (p:Cz n W w i G R0 B0 t π b spot R B) (hs:spot<=i) (h0:∀ c,c<st->R i c=0) (h1:R i st≠0) (hW:st<W) (hG:G st) (hpg:∀ j,j<i->G (t j)) (hex:spot<i->st<t spot) (bb:BB n W C δ (β+spot*cM π i) (R,B)) :
 Ins n W w i G R0 B0 (insT t spot st) (b+i+3+2*π+i*(π+1)) (insS i spot st (R,B)).1 (insS i spot st (R,B)).2 ∧
 Down n W w i (insS i spot st (R,B)).1 (insS i spot st (R,B)).2 (insT t spot st) 0 (downS (insT t spot st) i (insS i spot st (R,B)) (i+1)).1 (downS (insT t spot st) i (insS i spot st (R,B)) (i+1)).2 ∧
 BB n W C δ (β+i*cM π i) (insS i spot st (R,B)) ∧
 (∀ d,d<=i+1->BB n W C δ (β+Em π b i) (downS (insT t spot st) i (insS i spot st (R,B)) d)) ∧
 (∀ d,d<=i->∀ m,m<=d->BB n W C δ (β+Em π b i) (shrS (insT t spot st) (i-d) (i-d+1) (downS (insT t spot st) i (insS i spot st (R,B)) d) m)):=by
 have I:=p.ins H hs h0 h1 hW hG hpg hex
 rw [←A50,←A49] at I
 have b1:BB n W C δ (β+i*cM π i) (insS i spot st (R,B)):=(bb.mono (by have:=Nat.mul_le_mul_right (cM π i) hs;omega)).ins H.hi hs
 have run:=Uh (β:=β+i*cM π i) I H.hi b1
 have up:∀ d,d<=i+1->β+i*cM π i+d*((i+1)*(i+1+(b+i+3+2*π+i*(π+1))+2))<=β+Em π b i:=fun d hd=>by
  unfold Em
  have:=Nat.mul_le_mul_right ((i+1)*(i+1+(b+i+3+2*π+i*(π+1))+2)) hd
  omega
 refine⟨I,?_,b1,fun d hd=>(run d hd).2.1.mono (up d hd),fun d hd m hm=>((run d (by omega)).2.2 hd m hm).mono (up (d+1) (by omega))⟩
 have D:=(run (i+1) (Nat.le_refl _)).1
 rw [Nat.sub_self] at D
 exact D
end Lat
namespace Lat
open Hb
variable {C:Nat->Prop}{δ:Nat}
theorem Ql {w m D:Nat}{T P:Mat} (h:Dets m (fun c=>c<w) T D):Dets m (fun c=>c<w) (beside w T P) D:=fun i hi s hs=>by
 have e:(det i fun r l=>beside w T P r (s l))=det i fun r l=>T r (s l):=Bc fun r c _ hc=>beside_lo (hs c hc)
 rw [e]
 exact h i hi s hs
theorem In.cols {w n:Nat}{R R':Mat}{u v:Nat->Int} (h:In w n R u) (hR:∀ k c,k<n->c<w->R k c=R' k c) (hu:∀ c,c<w->u c=v c):In w n R' v:=by
 obtain⟨x,hx⟩:=h
 exact ⟨x,fun c hc=>by rw [←hu c hc,hx c hc];exact Ak fun k hk=>by rw [hR k c hk hc]⟩
theorem Cn.cols {n w:Nat}{T T' S S':Mat} (h:Cn n w T T') (e:∀ k c,k<n->c<w->T k c=S k c) (e':∀ k c,k<n->c<w->T' k c=S' k c):Cn n w S S':=by
 obtain⟨r,t,hr,st,hz⟩:=h.st
 refine⟨fun i hi=>(h.fwd i hi).cols e fun c hc=>e' i c hi hc,fun i hi=>(h.bwd i hi).cols e' fun c hc=>e i c hi hc,r,t,hr,⟨st.lt,st.inc,fun j c hj hc=>?_,fun j hj=>?_,fun k j hk hj=>?_⟩,fun i c h1 h2 h3=>by rw [←e' i c h2 h3];exact hz i c h1 h2 h3⟩
 . rw [←e' j c (by omega) (by have:=st.lt j hj;omega)];exact st.zero j c hj hc
 . rw [←e' j _ (by omega) (st.lt j hj)];exact st.pos j hj
 . rw [←e' k _ (by omega) (st.lt j hj),←e' j _ (by omega) (st.lt j hj)];exact st.red k j hk hj
theorem Af1 {n W w r i E π b:Nat}{e:Int}{T P B0 R B:Mat}{kt t:Nat->Nat}{hd:Nat->Int} (g:Gu n w r E e T) (hW:w<=W) (h:Bp n W w r i (fun c=>c<w) (beside w T P) B0 kt hd t R B) (hi:i<r) (hE:E<=2 ^ π) (he:e.natAbs<=2 ^ π) (hb:i*E<=2 ^ b) (hπ:π<=b):Jt n W w i (fun c=>c<w) R B t π b:=by
 have rn:=g.sq.rn
 refine h.st.putD (Ql g.dets) (by omega) (by omega) (fun c hc=>by omega) (b0:=π) (fun c hc=>?_) hE hb (Nat.le_refl _) hπ
 rw [beside_lo hc]
 obtain⟨a1,a2⟩:=g.le i c (by omega) hc
 omega
theorem Me {n w r E:Nat}{e:Int}{G:Nat->Prop}{A Q T P B0 R B:Mat}{kt t:Nat->Nat}{hd:Nat->Int} (he:0<e) (g:Gu n w r E e T) (K:Ker n (w+n) w r kt hd (beside w T P)) (h:Bp n (w+n) w r n G (beside w T P) B0 kt hd t R B) (k:∀ x c,x<n->c<w->T x c=bil n w A (P x) (Q c)) :
 Cn n w T R/\Gu w n r E e (tr R)/\Ker n (w+n) w r kt hd R/\∀ x c,x<n->c<w->R x c=bil n w A (fun a=>R x (w+a)) (Q c):=by
 have s:Cn n w T R:=(h.st.rows (by omega)).cols (fun k c _ hc=>beside_lo hc) fun _ _ _ _=>rfl
 exact ⟨s,s.going he g,h.done K,h.st.told (Nat.le_refl _) (J6 k)⟩
end Lat
namespace Lat
open Hb
variable {C:Nat->Prop}{δ:Nat}
theorem Ag7 {n W w i D π b b0:Nat}{M B0 R B:Mat}{t:Nat->Nat} (hM:∀ r c,r<n->c<W->(M r c).natAbs<=2 ^ b0) (hD:Dets n (fun c=>c<W) M D) (h:C6 n W w i (fun c=>c<W) M B0 t R B) (hi:i<n) (h1:D<=2 ^ π) (h2:i*D<=2 ^ b) (h3:b0<=π) (h4:b0<=b):Jt n W w i (fun c=>c<W) R B t π b :=
 h.putD hD (by omega) hi (fun _ hc=>hc) (fun c hc=>hM i c hi hc) h1 h2 h3 h4
theorem Mn {n W w i D b b0 β:Nat}{M B0 R B:Mat}{t:Nat->Nat} (hM:∀ r c,r<n->c<W->(M r c).natAbs<=2 ^ b0) (hD:Dets n (fun c=>c<W) M D) (hB:∀ k a,B0 k a=if k=a then 1 else 0) (h:C6 n W w i (fun c=>c<W) M B0 t R B) (hi:i<=n) (h2:i*D<=2 ^ b) (h4:b0<=b) (hβ:b<β) (hβ2:n+b0<β):BB n W (fun _=>False) 0 β (R,B):=by
 refine⟨fun r c hr hc=>?_,fun r a hr ha=>?_,fun _ _ _ z=>z.elim⟩
 . have le:(R r c).natAbs<=2 ^ b:=by
    by_cases z:r<i
    . exact Nat.le_trans (h.rowD hD hi (fun _ hc=>hc) z hc) h2
    . rw [h.good.rest r c (by omega)]
      exact Nat.le_trans (hM r c hr hc) (B9 h4)
   exact Nat.lt_of_le_of_lt le (Nat.pow_lt_pow_right (by decide) hβ)
 . have pM:∀ x,x<n->∀ c,pT n B0 M x c=M x c:=fun x hx c=>by
    show sumN (fun k=>B0 k x*M k c) n=M x c
    rw [Ba (j:=x) hx fun k _ hne=>by rw [hB,if_neg hne];simp,hB,if_pos rfl,Int.one_mul]
   by_cases z:r<i
   . have:=h.backs hi (a:=a) (m:=2 ^ b0) (fun k hk=>by rw [h.good.restB k a hk,hB]) (fun j hj=>by rw [pM a ha];exact hM a _ ha (h.st.lt j hj)) (fun j hj=>hM a _ ha (h.st.lt j hj)) (fun _ _ j _=>pM a ha _) r z
     rw [←Nat.pow_add] at this
     exact Nat.lt_of_le_of_lt this (Nat.pow_lt_pow_right (by decide) (by omega))
   . show (B r a).natAbs<2 ^ β
     rw [h.good.restB r a (by omega),hB]
     have:1<2 ^ β:=Nat.one_lt_two_pow (by omega)
     split
     . exact this
     . exact Nat.lt_trans (by decide) this
end Lat
namespace Lat
open Hb
theorem Cm (w:Nat) (R:Mat):beside w R (fun r a=>R r (w+a))=R:=by
 funext r c
 unfold beside
 by_cases h:c<w
 . rw [if_pos h]
 . rw [if_neg h];show R r (w+(c-w))=R r c;rw [show w+(c-w)=c by omega]
theorem Ker.table {n W w r:Nat}{kt:Nat->Nat}{hd:Nat->Int}{T T' P:Mat} (h:Ker n W w r kt hd (beside w T P)) (hz:∀ i c,r<=i->i<n->c<w->T' i c=0):Ker n W w r kt hd (beside w T' P):=by
 have same:∀ k c,w<=c->beside w T' P k c=beside w T P k c:=fun k c hc=>by unfold beside;rw [if_neg (by omega),if_neg (by omega)]
 refine⟨fun j c h1 h2 h3=>?_,h.inc,h.ge,h.lt,fun j h1 h2=>?_,h.pos,fun k j h1 h2 h3=>?_⟩
 . by_cases z:c<w
   . rw [beside_lo z];exact hz j c h1 h2 z
   . rw [same j c (by omega)];exact h.zero j c h1 h2 h3
 . rw [same j _ (h.ge j h1 h2)];exact h.head j h1 h2
 . rw [same k _ (h.ge j h1 h3)];exact h.red k j h1 h2 h3
theorem D5 {n w w':Nat}{T T' P B:Mat} (h:Dual n w (beside w T P) B):Dual n w' (beside w' T' P) B:=fun i j hi hj=>by
 have:=h i j hi hj
 unfold pD at this ⊢
 rw [←this]
 exact Ak fun c _=>by rw [beside_hi,beside_hi]
structure Qo (n w r E L m:Nat) (e:Int) (A T P PB Q QB:Mat) (kl kr:Nat->Nat) (hl hr:Nat->Int):Prop where
 e0:0<e
 going:Gu n w r E e T
 kl:Ker n (w+n) w r kl hl (beside w T P)
 kr:Ker w (n+w) n r kr hr (beside n (tr T) Q)
 told:∀ x c,x<n->c<w->T x c=bil n w A (P x) (Q c)
 dl:Dual n w (beside w T P) PB
 dr:Dual w n (beside n (tr T) Q) QB
 left:Left n w r L m T
theorem Qo.next {n w r E L m:Nat}{e:Int}{A T P PB Q QB R RB S SB:Mat}{kl kr tl ur:Nat->Nat}{hl hr:Nat->Int}{G G':Nat->Prop} (hL:e.natAbs.log2<=L) (h:Qo n w r E L m e A T P PB Q QB kl kr hl hr)
 (s1:Bp n (w+n) w r n G (beside w T P) PB kl hl tl R RB)
 (s2:Bp w (n+w) n r w G' (beside n (tr R) Q) QB kr hr ur S SB) :
 Step n w T (tr S)/\(¬Straight n w T->0<m/\Qo n w r E L (m-1) e A (tr S) (fun x a=>R x (w+a)) RB (fun x a=>S x (n+a)) SB kl kr hl hr):=by
 obtain⟨a1,a2,a3,a4⟩:=Me h.e0 h.going h.kl s1 h.told
 have kr':Ker w (n+w) n r kr hr (beside n (tr R) Q):=h.kr.table fun i c h1 h2 h3=>a2.sq.row0 i c h1 h2 h3
 have t2:∀ x c,x<w->c<n->tr R x c=bil w n (tr A) (Q x) ((fun y a=>R y (w+a)) c):=fun x c hx hc=>Ux (T:=R) (P:=fun y a=>R y (w+a)) a4 x c hx hc
 obtain⟨b1,b2,b3,b4⟩:=Me h.e0 a2 kr' s2 t2
 have st:Step n w T (tr S):=⟨R,a1,b1⟩
 refine⟨st,fun ns=>?_⟩
 obtain⟨m0,lf⟩:=h.going.next h.e0 hL st h.left ns
 refine⟨m0,h.e0,b2,?_,?_,?_,?_,?_,lf⟩
 . have:Ker n (w+n) w r kl hl (beside w R fun x a=>R x (w+a)):=by rw [Cm];exact a3
   exact this.table fun i c h1 h2 h3=>b2.sq.row0 i c h1 h2 h3
 . have:Ker w (n+w) n r kr hr (beside n S fun x a=>S x (n+a)):=by rw [Cm];exact b3
   exact this.table fun i c h1 h2 h3=>b2.sq.flip.row0 i c h1 h2 h3
 . intro x c hx hc
   show S c x=_
   rw [b4 c x hc hx,Ij]
 . have d:=s1.st.good.dual h.dl
   have:Dual n w (beside w R fun x a=>R x (w+a)) RB:=by rw [Cm];exact d
   exact D5 this
 . have d:=s2.st.good.dual (D5 h.dr)
   have:Dual w n (beside n S fun x a=>S x (n+a)) SB:=by rw [Cm];exact d
   exact D5 this
end Lat
namespace Lat
open Hb
def one:Mat:=fun i j=>if i=j then 1 else 0
theorem On (n w:Nat) (T:Mat):Dual n w (beside w T one) one:=fun i j hi hj=>by
 unfold pD
 rw [show (fun c=>beside w T one i (w+c)*one j c)=fun c=>(if c=i then 1 else 0)*one j c from funext fun c=>by
  rw [beside_hi]
  show (if i=c then (1:Int) else 0)*_=_
  by_cases e:i=c
  . rw [if_pos e,if_pos e.symm]
  . rw [if_neg e,if_neg fun z=>e z.symm]]
 rw [Bo (fun c=>one j c) i n,if_pos hi]
 show (if j=i then (1:Int) else 0)=_
 by_cases e:i=j
 . rw [if_pos e,if_pos e.symm]
 . rw [if_neg e,if_neg fun z=>e z.symm]
theorem Am9 {n w:Nat} (A:Mat):∀ x c,x<n->c<w->A x c=bil n w A (one x) (one c):=fun x c hx hc=>by
 unfold bil
 rw [Ba (j:=x) hx fun k _ hne=>by
  have:one x k=0:=if_neg fun z=>hne z.symm
  rw [this];simp]
 rw [Ba (j:=c) hc fun k _ hne=>by
  have:one c k=0:=if_neg fun z=>hne z.symm
  rw [this];simp]
 have e1:one x x=1:=if_pos rfl
 have e2:one c c=1:=if_pos rfl
 rw [e1,e2];simp
theorem Z8 {n w D D' L:Nat}{A R RB S SB:Mat}{t u:Nat->Nat}{G G':Nat->Prop} (hD:Dets n G (beside w A one) D) (hD':Dets w G' (beside n (tr R) one) D')
 (s1:C6 n (w+n) w n G (beside w A one) one t R RB) (s2:C6 w (n+w) n w G' (beside n (tr R) one) one u S SB) :
 ∃ (r:Nat) (e:Int),r<=n/\r<=w/\e<=D/\Qo n w r D L (r*(L+2)) e A (tr S) (fun x a=>R x (w+a)) RB (fun x a=>S x (n+a)) SB t u (fun j=>R j (t j)) (fun j=>S j (u j)) ∧
   (∀ j,j<n->R j (t j)<=D)/\∀ j,j<w->S j (u j)<=D':=by
 obtain⟨r,hr,st,hz,K,pr,hd⟩:=s1.first hD
 obtain⟨r',hr',st',hz',K',_,hd'⟩:=s2.first hD'
 have e0:0<prodN (fun j=>R j (t j)) r:=Bf fun j hj=>st.pos j hj
 have rs2:Cn w n (tr R) (tr (tr S)):=(s2.rows (by omega)).cols (fun k c _ hc=>beside_lo hc) fun _ _ _ _=>rfl
 have g:=Step.first (T:=A) hr st hz rs2 pr
 have rw':=g.sq.rw
 have er:r'=r:=by
  refine Nat.le_antisymm (Nat.le_of_not_lt fun z=>?_) (Nat.le_of_not_lt fun z=>?_)
  . have p:=st'.pos r z
    have:S r (u r)=0:=g.sq.col0 (u r) r (st'.lt r z) (Nat.le_refl _) (by omega)
    omega
  . have p:0<S r' r':=g.pos r' z
    have:S r' r'=0:=hz' r' r' (Nat.le_refl _) (by omega) (by omega)
    omega
 subst er
 have d1:=s1.good.dual (On n w A)
 have d2:=s2.good.dual (On w n (tr R))
 have tl:=s1.told (Nat.le_refl _) (J6 (Am9 (n:=n) (w:=w) A))
 have t2:∀ x c,x<w->c<n->tr R x c=bil w n (tr A) (one x) ((fun y a=>R y (w+a)) c):=fun x c hx hc=>Ux (T:=R) (P:=fun y a=>R y (w+a)) (Q:=one) tl x c hx hc
 have tl2:=s2.told (Nat.le_refl _) (J6 t2)
 refine⟨r',_,hr,rw',pr,⟨e0,g,?_,?_,fun x c hx hc=>?_,?_,?_,Left.start g⟩,hd,hd'⟩
 . have:Ker n (w+n) w r' t (fun j=>R j (t j)) (beside w R fun x a=>R x (w+a)):=by rw [Cm];exact K
   exact this.table fun i c h1 h2 h3=>g.sq.row0 i c h1 h2 h3
 . have:Ker w (n+w) n r' u (fun j=>S j (u j)) (beside n S fun x a=>S x (n+a)):=by rw [Cm];exact K'
   exact this.table fun i c h1 h2 h3=>g.sq.flip.row0 i c h1 h2 h3
 . show S c x=_
   rw [tl2 c x hc hx,Ij]
 . have:Dual n w (beside w R fun x a=>R x (w+a)) RB:=by rw [Cm];exact d1
   exact D5 this
 . have:Dual w n (beside n S fun x a=>S x (n+a)) SB:=by rw [Cm];exact d2
   exact D5 this
end Lat
namespace Lat
open Hb
structure DiagAt (n w m:Nat) (E:Nat) (A P PB Q QB:Mat) (f:Nat->Int):Prop where
 mn:m<=n
 mw:m<=w
 diag:∀ x y,x<n->y<w->bil n w A (P x) (Q y)=if x=y then f x else 0
 pos:∀ x,x<m->0<f x
 zero:∀ x,m<=x->x<n->x<w->f x=0
 prod:prodN f m<=E
 dl:Dual n 0 P PB
 dr:Dual w 0 Q QB
theorem Wa {n w:Nat}{T P B:Mat} (h:Dual n w (beside w T P) B):Dual n 0 P B:=fun i j hi hj=>by
 rw [←h i j hi hj]
 unfold pD
 exact Ak fun c _=>by rw [beside_hi,Nat.zero_add]
theorem Qo.diag {n w r E L m:Nat}{e:Int}{A T P PB Q QB:Mat}{kl kr:Nat->Nat}{hl hr:Nat->Int} (h:Qo n w r E L m e A T P PB Q QB kl kr hl hr) (s:Straight n w T):DiagAt n w r E A P PB Q QB (fun x=>T x x):=by
 refine⟨h.going.sq.rn,h.going.sq.rw,fun x y hx hy=>?_,h.going.pos,fun x h1 h2 h3=>h.going.sq.row0 x x h1 h2 h3,h.going.prod,Wa h.dl,Wa h.dr⟩
 rw [←h.told x y hx hy]
 by_cases z:x=y
 . rw [if_pos z,z]
 . rw [if_neg z];exact s x y hx hy z
theorem DiagAt.share {n w m E:Nat}{A P PB Q QB:Mat}{f:Nat->Int} (h:DiagAt n w m E A P PB Q QB f) {i j:Nat} (hij:i<j) (hj:j<m) {g a b:Int} (S:Shares (f i) (f j) g a b) :
 DiagAt n w m E A (addR (addR P i j 1) j i (-(b*f j / g))) (addR (addR PB j i (-1)) i j (b*f j / g)) (blendR Q i j a b (-(f j / g)) (f i / g)) (blendR QB i j (f i / g) (f j / g) (-b) a) (put2 f i j g (f i / g*f j)):=by
 have ne:i≠j:=by omega
 have mn:=h.mn
 have mw:=h.mw
 have pi:=h.pos i (by omega)
 have pj:=h.pos j hj
 have pg:=S.pos
 have pr:=S.pair
 have gz:f i / g*g=f i:=Int.ediv_mul_cancel S.dA
 have po:0<f i / g*f j:=by
  have:0<g*(f i / g*f j):=by rw [pr.pr];exact Int.mul_pos pi pj
  exact Int.pos_of_mul_pos_right this (by omega)
 refine⟨mn,mw,U5 (Al2 n w A) ne (by omega) (by omega) (by omega) (by omega) h.diag S,fun x hx=>?_,fun x h1 h2 h3=>?_,?_,?_,?_⟩
 . by_cases e1:x=i
   . rw [e1,O8];exact pg
   . by_cases e2:x=j
     . rw [e2,O7 f ne];exact po
     . rw [Gg f e1 e2];exact h.pos x hx
 . rw [Gg f (by omega) (by omega)];exact h.zero x h1 h2 h3
 . rw [Aa9 hij hj (by omega) (by omega) pr.pr];exact h.prod
 . have d1:=h.dl.add (p:=i) (q:=j) (by omega) (by omega) ne 1
   have d2:=d1.add (p:=j) (q:=i) (by omega) (by omega) (fun z=>ne z.symm) (-(b*f j / g))
   rw [Int.neg_neg] at d2
   exact d2
 . have B:=S.blend (π:=(f i).natAbs+(f j).natAbs) pi (Nat.le_trans (by omega) (Nat.le_of_lt Nat.lt_two_pow_self)) (Nat.le_trans (by omega) (Nat.le_of_lt Nat.lt_two_pow_self))
   have d:=h.dr.blend (p:=i) (q:=j) (by omega) (by omega) ne B.one
   rw [Int.neg_neg] at d
   exact d
theorem DiagAt.le {n w m E:Nat}{A P PB Q QB:Mat}{f:Nat->Int} (h:DiagAt n w m E A P PB Q QB f) {x:Nat} (hx:x<m):f x<=E:=Int.le_trans (Tm h.pos hx) h.prod
end Lat
namespace Lat
open Hb
def V7 (n r:Nat) (kt:Nat->Nat):Nat->Prop:=fun c=>∃ j,r<=j/\j<n/\c=kt j
theorem Ker.bits {n W w r β η:Nat}{kt:Nat->Nat}{hd:Nat->Int}{M B:Mat} (K:Ker n W w r kt hd M) (hη:∀ j,r<=j->j<n->hd j<=2 ^ η) (b1:Bits n W β M) (b2:Bits n n β B) (hβ:η+1<=β):BB n W (V7 n r kt) (β-(η+1)) β (M,B):=by
 refine⟨b1,b2,fun k c hk hc=>?_⟩
 obtain⟨j,h1,h2,rfl⟩:=hc
 have le:(M k (kt j)).natAbs<=2 ^ η:=by
  have p:=K.pos j h1 h2
  have q:=hη j h1 h2
  have q':(hd j).natAbs<=2 ^ η:=by
   have:((hd j).natAbs:Int)<=((2 ^ η:Nat):Int):=by rw [Int.natAbs_of_nonneg (by omega)];exact_mod_cast q
   exact_mod_cast this
  rcases Nat.lt_trichotomy k j with z | z | z
  . obtain⟨a,b⟩:=K.red k j h1 z h2
    omega
  . subst z
    rw [K.head k h1 h2];exact q'
  . rw [K.zero k _ (by omega) hk (K.inc j k h1 z hk)]
    exact Nat.zero_le _
 show (M k (kt j)).natAbs*2 ^ (β-(η+1))<2 ^ β
 have e:2 ^ β=2 ^ (η+1)*2 ^ (β-(η+1)):=by rw [←Nat.pow_add];congr 1;omega
 rw [e]
 refine Nat.mul_lt_mul_of_pos_right ?_ (Nat.two_pow_pos _)
 exact l8 le
def Oq (π b η r n:Nat):Nat:=tabC π b r+endC (η+1+tabC π b r) η r (n-r)
theorem A07 {n W r β η π b:Nat}{kt:Nat->Nat}{s:Mat × Mat} (bb:BB n W (V7 n r kt) (β-(η+1)) (β+tabC π b r) s) (hr:r<=n) (hβ:η+1<=β):u9 n r r kt (η+1+tabC π b r) s.1:=by
 have:=Ar4 bb hr (kt:=kt) (fun j h1 h2=>⟨j,h1,h2,rfl⟩) (by omega)
 rw [show β+tabC π b r-(β-(η+1))=η+1+tabC π b r by omega] at this
 exact this
theorem x9 (π b:Nat) {i r:Nat} (h:i<=r):tabC π b i<=tabC π b r:=by
 induction r with
 | zero=>rw [show i=0 by omega];exact Nat.le_refl _
 | succ r ih =>
   by_cases e:i=r+1
   . rw [e];exact Nat.le_refl _
   . have:=ih (by omega)
     show _<=tabC π b r+Em π b r
     omega
theorem Ah1 (c η r:Nat) {d e:Nat} (h:d<=e):endC c η r d<=endC c η r e:=by
 induction e with
 | zero=>rw [show d=0 by omega];exact Nat.le_refl _
 | succ e ih =>
   by_cases z:d=e+1
   . rw [z];exact Nat.le_refl _
   . have:=ih (by omega)
     show _<=endC c η r e+_
     omega
end Lat
namespace Hb
open PySem L2
theorem t4 {g:TG}{te:TE}{D:Addr}{Q:Hp->Prop}{τ:St}{H:Hp}{K:W.Frag}{a b:Addr}{xs ys:List V}{n:Nat} (hn:xs.length=n/\ys.length=n) (Pv:Nat->List V->St->Hp->Prop) (h0:Pv 0 [] τ H) (hl:∀ i zs τ H,i<=n->Pv i zs τ H->SqT K H a xs/\SqT K H b ys)
 (hs:∀ i x y zs τ H p,xs[i]?=some x->ys[i]?=some y->Pv i zs τ H->H p=none->g (.ref p) τ (upd H p (.tup [x,y])) fun τ2 H2=>te τ2 H2 fun y H4=>H4 D=some (.lst zs)/\zs.length<sizeLine/\Pv (i+1) (zs++[y]) τ2 (upd H4 D (.lst (zs++[y]))))
 (hd:∀ zs τ H,Pv n zs τ H->Q H):RunC (Ityp K a b) g tYes te D Q τ H:=Aj2 hn Pv h0 hl (fun i x y zs τ H p e1 e2 q hp=>hs i x y zs τ H p e1 e2 q hp) hd
abbrev big:Nat:=67108864
theorem A64:∃ n:Nat,n=2 ^ 9000:=⟨_,rfl⟩
def L9:Nat:=Classical.choose A64
theorem Zb:L9=2 ^ 9000:=Classical.choose_spec A64
theorem Ae4 {i j:Int}{n:Nat} (hi:i.natAbs<L9) (hj:j.natAbs<2 ^ n) (h:9000+n<=134217728:=by decide):IntMulOk i j:=Vv (Zb▸hi) hj h
theorem Ya {i j:Int} (hi:i.natAbs<L9) (hj:j.natAbs<L9):IntMulOk i j:=Vv (Zb▸hi) (Zb▸hj) (by decide)
theorem CBig.of9 {i j:Int} (h0:j≠0) (h:j.natAbs<L9):CBig i j:=CBig.of h0 (Zb▸h)
theorem mul9 {i j:Int} (hi:i.natAbs<L9) (hj:j.natAbs<L9):(i*j).natAbs<2 ^ 18000:=by
 rw [Int.natAbs_mul,show 18000=9000+9000 from rfl,Nat.pow_add]
 exact Nat.mul_lt_mul'' (Zb▸hi) (Zb▸hj)
theorem le9 {x π:Nat} (h:x<=2 ^ π) (hπ:π<=8999):x<L9:=by
 rw [Zb]
 exact Nat.lt_of_le_of_lt h (Nat.pow_lt_pow_right (by decide) (by omega))
def BO (n W:Nat) (s:Lat.Mat × Lat.Mat):Prop:=Lat.Bits n W big s.1/\Lat.Bits n n big s.2
def TA (H:Hp) (r:Addr) (as:List Addr) (n W:Nat) (f:Lat.Mat):Prop:=as.length=n/\H r=some (.lst (as.map V.ref))/\∀ i c,as[i]?=some c->H c=some (.lst (VI W (f i)))
section
variable {K:W.Frag}{H H':Hp}{r:Addr}{as:List Addr}{n W:Nat}{f g:Lat.Mat}
theorem TA.keep (x:TA H r as n W f) (h1:∀ o,H r=some o->H' r=some o) (h2:∀ a∈as,∀ o,H a=some o->H' a=some o):TA H' r as n W f:=⟨x.1,h1 _ x.2.1,fun i c e=>h2 c (List.mem_of_getElem? e) _ (x.2.2 i c e)⟩
theorem TA.same (x:TA H r as n W f) (s:Same H H'):TA H' r as n W f:=x.keep (fun _ e=>s _ _ e) fun _ _ _ e=>s _ _ e
theorem TA.put {y:Addr}{o:HO} (x:TA H r as n W f) (h1:r≠y) (h2:∀ a∈as,a≠y):TA (upd H y o) r as n W f:=x.keep (fun _ e=>by rw [Aq h1];exact e) fun a ha _ e=>by rw [Aq (h2 a ha)];exact e
theorem TA.row (x:TA H r as n W f) {i:Nat} (hi:i<n):∃ c,as[i]?=some c/\(as.map V.ref)[i]?=some (.ref c)/\c∈as/\SqL K H c (VI W (f i)):=by
 obtain⟨h1,_,h3⟩:=x
 have e:=List.getElem?_eq_getElem (l:=as) (i:=i) (by omega)
 refine⟨as[i],e,by rw [List.getElem?_map,e];rfl,List.getElem_mem _,.of (h3 i _ e)⟩
theorem TA.rep (x:TA H r as n W f):Rep K H (.ref r) (dT n W f):=by
 refine Ai5 (us:=as.map V.ref) (.of x.2.1) (by rw [List.length_map,x.1]) fun i hi=>?_
 obtain⟨c,_,e,_,h⟩:=x.row (K:=K) hi
 exact ⟨c,e,h⟩
theorem TA.there (x:TA H r as n W f):H r≠none/\∀ a∈as,H a≠none:=by
 refine⟨by rw [x.2.1];exact (fun z=>nomatch z),fun a ha=>?_⟩
 obtain⟨i,hi,rfl⟩:=List.getElem_of_mem ha
 rw [x.2.2 i _ (List.getElem?_eq_getElem hi)]
 exact fun z=>by cases z
theorem TA.of {D:Addr}{H1:Hp}{w h:Nat} (R:Rows H H1 D as w f) (hl:as.length=h):TA H1 D as h w f:=⟨hl,R.at,fun i c e=>(R.row i c e).2.2⟩
theorem TA.congr (x:TA H r as n W f) (e:∀ i c,i<n->c<W->f i c=g i c):TA H r as n W g:=by
 refine⟨x.1,x.2.1,fun i c ec=>?_⟩
 have hi:i<n:=by rw [←x.1];exact (List.getElem?_eq_some_iff.mp ec).1
 rw [x.2.2 i c ec,D9 fun k hk=>e i k hi hk]
theorem TA.x {p C dx:Addr}{fs:List (Str × V)} (x:TA H r as n W f) (hp:H p=some (.ins C dx fs)) (sx:SameX p H H'):TA H' r as n W f:=by
 refine x.keep (fun o e=>sx _ _ (F6 x.2.1 hp (by intro z;cases z)) e) fun a ha o e=>sx _ _ ?_ e
 obtain⟨i,hi,rfl⟩:=List.getElem_of_mem ha
 exact F6 (x.2.2 i _ (List.getElem?_eq_getElem hi)) hp (by intro z;cases z)
theorem TA.made {H2:Hp}{L D:Addr}{i:Nat} (x:TA H r as n W f) (s2:Same H H2) (hi:i<n) (hL:H2 L=some (.lst ((as.map V.ref).set i (.ref D)))) (hD:H2 D=some (.lst (VI W (g i)))) (e:∀ r,r≠i->g r=f r):TA H2 L (as.set i D) n W g:=by
 refine⟨by rw [List.length_set,x.1],by rw [hL,List.map_set],fun j c ec=>?_⟩
 rw [List.getElem?_set] at ec
 by_cases hj:i=j
 . subst hj
   rw [if_pos rfl,if_pos (by rw [x.1];exact hi)] at ec
   cases ec
   exact hD
 . rw [if_neg hj] at ec
   rw [e j fun z=>hj z.symm]
   exact s2 _ _ (x.2.2 j c ec)
theorem TA.two {i j:Nat}{D1 D2:Addr} (x:TA H r as n W f) (hi:i<n) (hj:j<n) (hij:i≠j) (h':H' r=some (.lst (((as.map V.ref).set i (.ref D1)).set j (.ref D2)))) (keep:∀ a∈as,∀ o,H a=some o->H' a=some o) (h1:H' D1=some (.lst (VI W (g i)))) (h2:H' D2=some (.lst (VI W (g j)))) (e:∀ k,k≠i->k≠j->g k=f k):TA H' r ((as.set i D1).set j D2) n W g:=by
 refine⟨by rw [List.length_set,List.length_set,x.1],by rw [h',List.map_set,List.map_set],fun k c ec=>?_⟩
 rw [List.getElem?_set,List.length_set] at ec
 by_cases hkj:j=k
 . subst hkj
   rw [if_pos rfl,if_pos (by rw [x.1];exact hj)] at ec
   cases ec
   exact h2
 rw [if_neg hkj,List.getElem?_set] at ec
 by_cases hki:i=k
 . subst hki
   rw [if_pos rfl,if_pos (by rw [x.1];exact hi)] at ec
   cases ec
   exact h1
 rw [if_neg hki] at ec
 rw [e k (fun z=>hki z.symm) fun z=>hkj z.symm]
 exact keep c (List.mem_of_getElem? ec) _ (x.2.2 k c ec)
theorem Ae8 {i j:Nat}{D1 D2 a:Addr} (h:a∈(as.set i D1).set j D2):a∈as\/a=D1\/a=D2:=by
 rcases List.mem_or_eq_of_mem_set h with h | h
 . rcases List.mem_or_eq_of_mem_set h with h | h
   . exact .inl h
   . exact .inr (.inl h)
 . exact .inr (.inr h)
theorem Gk {l i:Nat} (h:i<l):ixN l ((i:Nat):Int)=some i:=by
 unfold ixN
 rw [if_pos (by omega),if_pos (by omega),Int.toNat_natCast]
end
def mNames:List Str:=["turn","blend","put_in","meet","shrink","shrink_row"]
structure LX (H:Hp) (C p r b:Addr) (sv:Option V) (n W:Nat) (s:Lat.Mat × Lat.Mat) (N:Addr->Prop):Prop where
 ob:∃ dx fs,H p=some (.ins C dx fs)/\fs.lookup ("rows":Str)=some (.ref r)/\fs.lookup ("backs":Str)=some (.ref b)/\fs.lookup ("starts":Str)=sv/\(∀ m∈mNames,fs.lookup m=none)/\fs.length<=10
 rw:∃ as,TA H r as n W s.1/\∀ a∈as,a≠r/\a≠b/\¬N a
 bk:∃ bs,TA H b bs n n s.2/\∀ a∈bs,a≠r/\a≠b/\¬N a
 ne:r≠b
 nr:¬N r
 nb:¬N b
 nn:∀ a,N a->H a≠none
theorem LX.keep {H H':Hp}{C p r b:Addr}{sv:Option V}{n W:Nat}{s:Lat.Mat × Lat.Mat}{N:Addr->Prop} (x:LX H C p r b sv n W s N) (e:Same H H'):LX H' C p r b sv n W s N:=by
 obtain⟨dx,fs,h1,h2⟩:=x.ob
 obtain⟨as,a1,a2⟩:=x.rw
 obtain⟨bs,b1,b2⟩:=x.bk
 exact ⟨⟨dx,fs,e _ _ h1,h2⟩,⟨as,a1.same e,a2⟩,⟨bs,b1.same e,b2⟩,x.ne,x.nr,x.nb,fun a ha z=>x.nn a ha (e.free z)⟩
theorem LX.refs {H:Hp}{C p r b:Addr}{sv:Option V}{n W:Nat}{s:Lat.Mat × Lat.Mat}{N:Addr->Prop} (x:LX H C p r b sv n W s N):p≠r/\p≠b:=by
 obtain⟨dx,fs,h1,_⟩:=x.ob
 obtain⟨as,a1,_⟩:=x.rw
 obtain⟨bs,b1,_⟩:=x.bk
 exact ⟨F6 h1 a1.2.1 (by intro z;cases z),F6 h1 b1.2.1 (by intro z;cases z)⟩
def tnS (t:Tn) (s:Lat.Mat × Lat.Mat):Lat.Mat × Lat.Mat:=(tnF t s.1,tnF (tnA t) s.2)
def mulT (n W:Nat) (f:Lat.Mat):Tn->Prop
 | .ad i j k=>i<n/\j<n/\i≠j/\∀ c,c<W->IntMulOk k (f j c)
 | .mi i=>i<n
 | .sw _ _=>False
def Fr2 (r b:Addr) (H H':Hp):Prop:=∀ x o,x≠r->x≠b->H x=some o->H' x=some o
theorem Fr2.of {r b:Addr}{H H':Hp} (s:Same H H'):Fr2 r b H H':=fun _ _ _ _ e=>s _ _ e
theorem Fr2.trans {r b:Addr}{H H1 H2:Hp} (x:Fr2 r b H H1) (y:Fr2 r b H1 H2):Fr2 r b H H2:=fun a o n1 n2 e=>y a o n1 n2 (x a o n1 n2 e)
theorem Fr2.l {r b:Addr}{H H':Hp}{o:HO} (x:Fr2 r b H H'):Fr2 r b H (upd H' r o):=fun a u n1 n2 e=>by rw [Aq n1];exact x a u n1 n2 e
theorem Fr2.r {r b:Addr}{H H':Hp}{o:HO} (x:Fr2 r b H H'):Fr2 r b H (upd H' b o):=fun a u n1 n2 e=>by rw [Aq n2];exact x a u n1 n2 e
section
variable (K:W.Frag) (CL CS CW:Addr)
def Ly:Sp:=fun vs H Q _=>∃ (r:Addr) (u:V) (as:List Addr) (n W:Nat) (f:Lat.Mat) (t:Tn),vs=[.ref r,u]/\TA H r as n W f/\Rep K H u (dTn t)/\mulT n W f t/\n<=1000/\W<=1000 ∧
 ∀ (D:Addr) (as':List Addr) (H':Hp),H D=none->Same H H'->TA H' D as' n W (tnF t f)->(∀ a∈as',(a∈as\/H a=none)/\a≠D)->Q (.ref D) H'
def Hw (_K:W.Frag) (CL CS CW:Addr):Sp:=fun vs H Q _=>∃ (p dx C:Addr) (r b:V),vs=[.ref p,r,b]/\(C=CL\/C=CS)/\H p=some (.ins C dx [])/\∀ H',(∀ fs,fs=putF "backs" b (putF "rows" r [])->H'=upd (upd H p (.ins C dx (putF "rows" r []))) p (.ins C dx fs)->Q .non H')
def Ge (K:W.Frag) (CL CS CW:Addr):Sp:=fun vs H Q _=>∃ (p:Addr) (u:V) (C r b:Addr) (sv:Option V) (n W:Nat) (s:Lat.Mat × Lat.Mat) (N:Addr->Prop) (t:Tn),vs=[.ref p,u]/\(C=CL\/C=CS)/\LX H C p r b sv n W s N/\Rep K H u (dTn t)/\mulT n W s.1 t/\mulT n n s.2 (tnA t)/\n<=1000/\W<=1000 ∧
 ∀ (r' b':Addr) (H':Hp),SameX p H H'->H r'=none->H b'=none->LX H' C p r' b' sv n W (tnS t s) N->Q .non H'
def Ka:Sp:=fun vs H Q _=>∃ A B:Int,vs=[.int A,.int B]/\0<A/\B≠0/\A.natAbs<L9/\B.natAbs<L9/\∀ (L:Addr) (g a b:Int) (H':Hp),Same H H'->SqT K H' L [.int g,.int a,.int b]->Lat.Shares A B g a b->Q (.ref L) H'
def Hf (K:W.Frag) (CL CS CW:Addr):Sp:=fun vs H Q _=>∃ (p C r b:Addr) (sv:Option V) (n W i j:Nat) (A B:Int) (s:Lat.Mat × Lat.Mat) (N:Addr->Prop),vs=[.ref p,.int i,.int j,.int A,.int B]/\(C=CL\/C=CS)/\LX H C p r b sv n W s N/\i<n/\j<n/\i≠j/\n<=1000/\W<=1000/\0<A/\B≠0/\A.natAbs<L9/\B.natAbs<L9/\BO n W s ∧
 ∀ (L:Addr) (g a c:Int) (H':Hp),Fr2 r b H H'->Kp H H'->SqT K H' L [.int g,.int a,.int c]->Lat.Shares A B g a c->LX H' C p r b sv n W (Lat.blendS i j a c (-(B / g)) (A / g) s) N->Q (.ref L) H'
end
end Hb
namespace Hb
open PySem L2
def Hds (W:Nat) (t:Nat->Nat) (f m:Nat) (R:Lat.Mat):Prop:=∀ j,f<=j->j<m->t j<W/\0<R j (t j)/\(R j (t j)).natAbs<L9
structure SX (CS:Addr) (H0 H:Hp) (p q:Addr) (M:Addr->Prop) (n W:Nat) (t:Nat->Nat) (cnt:Nat) (s:Lat.Mat × Lat.Mat):Prop where
 ex:∃ r b,LX H CS p r b (some (.ref q)) n W s M/\H0 r=none/\H0 b=none
 st:H q=some (.lst (VI cnt fun i=>((t i:Nat):Int)))
 same:Same H0 H
 fp:H0 p=none
 fq:H0 q=none
 mq:M q
 sm:n<=100/\W<=200/\cnt<=n
section
variable {CS:Addr}{H0 H H':Hp}{p q:Addr}{M:Addr->Prop}{n W cnt:Nat}{t:Nat->Nat}{s s':Lat.Mat × Lat.Mat}
theorem SX.redo {H1:Hp}{r' b':Addr} (x:SX CS H0 H p q M n W t cnt s) (e:Same H H1) (sx:SameX p H1 H') (h1:H1 r'=none) (h2:H1 b'=none) (y:LX H' CS p r' b' (some (.ref q)) n W s' M):SX CS H0 H' p q M n W t cnt s':=by
 have s1:=x.same.trans e
 obtain⟨r,b,z,_⟩:=x.ex
 obtain⟨dx,fs,hp,_⟩:=z.ob
 exact ⟨⟨r',b',y,s1.free h1,s1.free h2⟩,sx _ _ (F6 x.st hp (by intro z;cases z)) (e _ _ x.st),sx.same s1 x.fp,x.fp,x.fq,x.mq,x.sm⟩
theorem SX.redo2 {r b:Addr} (x:SX CS H0 H p q M n W t cnt s) (lx:LX H CS p r b (some (.ref q)) n W s M) (f1:H0 r=none) (f2:H0 b=none) (fr:Fr2 r b H H') (_kp:Kp H H') (y:LX H' CS p r b (some (.ref q)) n W s' M):SX CS H0 H' p q M n W t cnt s' :=
 ⟨⟨r,b,y,f1,f2⟩,fr _ _ (fun z=>lx.nr (z▸x.mq)) (fun z=>lx.nb (z▸x.mq)) x.st,fun a o e=>fr _ _ (Ar e f1) (Ar e f2) (x.same _ _ e),x.fp,x.fq,x.mq,x.sm⟩
theorem SX.re (x:SX CS H0 H p q M n W t cnt s) (h:s=s'):SX CS H0 H p q M n W t cnt s':=h▸x
end
theorem insAt_get {α:Type} (k:Nat) (y:α) (xs:List α) (h:k<=xs.length) (j:Nat):(insAt k y xs)[j]?=if j<k then xs[j]? else if j=k then some y else xs[j-1]?:=by
 unfold insAt
 by_cases h1:j<k
 . rw [if_pos h1,List.getElem?_append_left (by rw [List.length_take];omega),List.getElem?_take,if_pos h1]
 . rw [if_neg h1,List.getElem?_append_right (by rw [List.length_take];omega),List.length_take,Nat.min_eq_left h]
   by_cases h2:j=k
   . rw [if_pos h2,h2,Nat.sub_self];rfl
   . rw [if_neg h2]
     obtain⟨e,rfl⟩:∃ e,j=k+1+e:=⟨j-(k+1),by omega⟩
     rw [show k+1+e-k=e+1 by omega,List.getElem?_cons_succ,List.getElem?_drop]
     congr 1
     omega
theorem Vw {α:Type}{xs:List α}{i s:Nat}{y:α} (hi:xs[i]?=some y) (hs:s<=i) (j:Nat):(insAt s y (xs.eraseIdx i))[j]?=xs[Lat.mvI i s j]?:=by
 have hl:i<xs.length:=(List.getElem?_eq_some_iff.mp hi).1
 rw [insAt_get _ _ _ (by rw [List.length_eraseIdx_of_lt hl];omega)]
 unfold Lat.mvI
 by_cases h1:j<s
 . rw [if_pos h1,if_pos h1,List.getElem?_eraseIdx,if_pos (by omega)]
 . rw [if_neg h1,if_neg h1]
   by_cases h2:j=s
   . rw [if_pos h2,if_pos h2,hi]
   . rw [if_neg h2,if_neg h2,List.getElem?_eraseIdx]
     by_cases h3:j<=i
     . rw [if_pos (by omega),if_pos h3]
     . rw [if_neg (by omega),if_neg h3]
       congr 1
       omega
theorem V3 {α β:Type} (g:α->β) (k:Nat) (y:α) (xs:List α):(insAt k y xs).map g=insAt k (g y) (xs.map g):=by
 unfold insAt
 rw [List.map_append,List.map_cons,List.map_take,List.map_drop]
theorem Pm {α β:Type} (g:α->β):∀ (xs:List α) (i:Nat),(xs.eraseIdx i).map g=(xs.map g).eraseIdx i
 | [],_=>rfl
 | _::_,0=>rfl
 | x::xs,i+1=>congrArg (g x::·) (Pm g xs i)
theorem TA.move {H H1:Hp}{r:Addr}{as:List Addr}{n W i s:Nat}{f:Lat.Mat}{ci:Addr} (x:TA H r as n W f) (hi:i<n) (hs:s<=i) (hci:as[i]?=some ci) (h1:H1 r=some (.lst (insAt s (.ref ci) ((as.map V.ref).eraseIdx i)))) (h2:∀ a∈as,H1 a=H a) :
 TA H1 r (insAt s ci (as.eraseIdx i)) n W (Lat.moveR f i s)/\∀ a∈insAt s ci (as.eraseIdx i),a∈as:=by
 have mem:∀ a∈insAt s ci (as.eraseIdx i),a∈as:=fun a ha=>by
  obtain⟨j,hj⟩:=List.getElem?_of_mem ha
  rw [Vw hci hs] at hj
  exact List.mem_of_getElem? hj
 refine⟨⟨?_,?_,fun j c e=>?_⟩,mem⟩
 . unfold insAt
   rw [List.length_append,List.length_cons,List.length_take,List.length_drop,List.length_eraseIdx_of_lt (by rw [x.1];exact hi),x.1]
   omega
 . rw [h1,V3,Pm]
 . rw [Vw hci hs] at e
   rw [h2 c (List.mem_of_getElem? e),Lat.move_row]
   exact x.2.2 _ _ e
theorem a9 {i s st:Nat}{t:Nat->Nat} (hs:s<=i):insAt s (V.int ((st:Nat):Int)) (VI i fun k=>((t k:Nat):Int))=VI (i+1) fun k=>((Lat.insT t s st k:Nat):Int):=by
 apply List.ext_getElem?
 intro j
 rw [insAt_get _ _ _ (by rw [A5];exact hs)]
 by_cases hj:j<i+1
 . rw [Bz hj]
   unfold Lat.insT
   by_cases h1:j<s
   . rw [if_pos h1,if_pos h1,Bz (by omega)]
   . rw [if_neg h1,if_neg h1]
     by_cases h2:j=s
     . rw [if_pos h2,if_pos h2]
     . rw [if_neg h2,if_neg h2,Bz (by omega)]
 . rw [if_neg (by omega),if_neg (by omega),List.getElem?_eq_none (by rw [A5];omega),List.getElem?_eq_none (by rw [A5];omega)]
theorem Th (t:Nat->Nat) (p f:Nat) (s:Lat.Mat × Lat.Mat):∀ d l,l≠p->(Lat.shrS t p f s d).1 l=s.1 l
 | 0,_,_=>rfl
 | d+1,l,h=>by
   rw [Lat.shrS]
   show Lat.addR _ _ _ _ l=_
   rw [Lat.addR_row_ne h]
   exact Th t p f s d l h
def u8 (n W:Nat) (t:Nat->Nat) (i f m:Nat) (s:Lat.Mat × Lat.Mat):Prop:=∀ d,d<=m-f->BO n W (Lat.shrS t i f s d)
def Am4 (n W:Nat) (t:Nat->Nat) (i:Nat) (s:Lat.Mat × Lat.Mat):Prop:=∀ d,d<=i->Hds W t (i-d+1) (i+1) (Lat.downS t i s d).1/\u8 n W t (i-d) (i-d+1) (i+1) (Lat.downS t i s d)
def A84 (t:Nat->Nat) (spot i:Nat) (k:Int) (s:Lat.Mat × Lat.Mat):Lat.Mat × Lat.Mat:=Lat.shrS t i (spot+1) (Lat.addS i spot (-k) s) (i-(spot+1))
def Vx (spot i:Nat) (A B g a b:Int) (s:Lat.Mat × Lat.Mat):Lat.Mat × Lat.Mat:=Lat.blendS spot i a b (-(B / g)) (A / g) s
def As8 (t:Nat->Nat) (spot i:Nat) (A B g a b:Int) (s:Lat.Mat × Lat.Mat):Lat.Mat × Lat.Mat:=Lat.shrS t spot (spot+1) (Vx spot i A B g a b s) (i-(spot+1))
def A83 (t:Nat->Nat) (spot i:Nat) (A B g a b:Int) (s:Lat.Mat × Lat.Mat):Lat.Mat × Lat.Mat:=Lat.shrS t i (spot+1) (As8 t spot i A B g a b s) (i-(spot+1))
structure At7 (n W:Nat) (t:Nat->Nat) (spot i:Nat) (s:Lat.Mat × Lat.Mat) (Nx:Lat.Mat × Lat.Mat->Prop):Prop where
 bo:BO n W s
 hd:Hds W t spot i s.1
 oth:s.1 i (t spot)≠0/\(s.1 i (t spot)).natAbs<L9
 add:∀ k,s.1 i (t spot)=k*s.1 spot (t spot)->u8 n W t i (spot+1) i (Lat.addS i spot (-k) s)/\Nx (A84 t spot i k s)
 ble:∀ g a b,Lat.Shares (s.1 spot (t spot)) (s.1 i (t spot)) g a b->u8 n W t spot (spot+1) i (Vx spot i (s.1 spot (t spot)) (s.1 i (t spot)) g a b s)/\u8 n W t i (spot+1) i (As8 t spot i (s.1 spot (t spot)) (s.1 i (t spot)) g a b s)/\Nx (A83 t spot i (s.1 spot (t spot)) (s.1 i (t spot)) g a b s)
structure Puts (n W i:Nat) (t:Nat->Nat) (s0:Lat.Mat × Lat.Mat) (I:Nat->Lat.Mat × Lat.Mat->Prop):Prop where
 start:I 0 s0
 ok:∀ spot s,spot<=i->I spot s->∃ c,c<W/\s.1 i c≠0
 skip:∀ spot s,spot<i->I spot s->(∀ c,c<=t spot->s.1 i c=0)->I (spot+1) s
 meet:∀ spot s,spot<i->I spot s->(∀ c,c<t spot->s.1 i c=0)->s.1 i (t spot)≠0->At7 n W t spot i s (I (spot+1))
def Fs (W:Nat) (u:Nat->Int) (st:Nat):Prop:=(∀ c,c<st->u c=0)/\u st≠0/\st<W
theorem Fs.one {W W':Nat}{u:Nat->Int}{a b:Nat} (h:Fs W u a) (k:Fs W' u b):a=b:=by
 rcases Nat.lt_trichotomy a b with e | e | e
 . exact absurd (k.1 a e) h.2.1
 . exact e
 . exact absurd (h.1 b e) k.2.1
theorem Fs.ex {W:Nat}{u:Nat->Int} (h:∃ c,c<W/\u c≠0):∃ st,Fs W u st:=by
 obtain⟨c,hc,h0⟩:=h
 induction c using Nat.strongRecOn with
 | _ c ih =>
   by_cases z:∃ d,d<c/\u d≠0
   . obtain⟨d,hd,hd0⟩:=z
     exact ih d hd (by omega) hd0
   . refine⟨c,fun d hd=>?_,h0,hc⟩
     exact Decidable.byContradiction fun k=>z ⟨d,hd,k⟩
structure Am1 (n W:Nat) (J:Nat->(Nat->Nat)->Lat.Mat × Lat.Mat->Prop):Prop where
 step:∀ i t s,i<n->J i t s->∃ I,Puts n W i t s I/\∀ spot st s',spot<=i->I spot s'->Fs W (s'.1 i) st->(spot<i->st<t spot) →
  Am4 n W (Lat.insT t spot st) i (Lat.insS i spot st s')/\J (i+1) (Lat.insT t spot st) (Lat.downS (Lat.insT t spot st) i (Lat.insS i spot st s') (i+1))
theorem Am0 {w n:Nat}{f g:Nat->Int}{h:Nat->Int} (h1:∀ c,c<w->h c=f c) (h2:∀ a,a<n->h (w+a)=g a):VI w f++VI n g=VI (w+n) h:=by
 apply List.ext_getElem?
 intro j
 by_cases e1:j<w
 . rw [List.getElem?_append_left (by rw [A5];exact e1),Bz e1,Bz (by omega),h1 j e1]
 . rw [List.getElem?_append_right (by rw [A5];omega),A5]
   by_cases e2:j<w+n
   . rw [Bz (by omega),Bz e2,←h2 (j-w) (by omega),show w+(j-w)=j by omega]
   . rw [List.getElem?_eq_none (by rw [A5];omega),List.getElem?_eq_none (by rw [A5];omega)]
theorem A08 {w n:Nat}{f:Nat->Int}:cutV (VI (w+n) f) (some (w:Int)) none=VI n fun a=>f (w+a):=by
 have e:=Am0 (w:=w) (n:=n) (f:=f) (g:=fun a=>f (w+a)) (h:=f) (fun _ _=>rfl) (fun _ _=>rfl)
 have s1:HT.sIx (w+n) 0 (some (w:Int))=w:=by rw [HT.sIx_nat];omega
 unfold cutV
 rw [A5,s1,←e,List.drop_append_of_le_length (by rw [A5];omega),List.drop_of_length_le (by rw [A5];omega),List.nil_append]
 apply List.take_of_length_le
 rw [A5]
 simp only [HT.sIx]
 omega
theorem A95 {w n:Nat}{f:Nat->Int}:cutV (VI (w+n) f) none (some (w:Int))=VI w f:=by
 have e:=Am0 (w:=w) (n:=n) (f:=f) (g:=fun a=>f (w+a)) (h:=f) (fun _ _=>rfl) (fun _ _=>rfl)
 have s1:HT.sIx (w+n) (w+n) (some (w:Int))=w:=by rw [HT.sIx_nat];omega
 have s2:HT.sIx (w+n) 0 none=0:=rfl
 unfold cutV
 rw [A5,s1,s2,List.drop_zero,Nat.sub_zero,←e,List.take_append_of_le_length (by rw [A5];omega),List.take_of_length_le (by rw [A5];omega)]
section
variable (K:W.Frag) (CL CS CW:Addr)
def J9 (K:W.Frag) (CL CS CW:Addr):Sp:=fun vs H Q _=>∃ (v:V) (L r b:Addr) (sv:Option V) (N:Addr->Prop) (n w:Nat) (T P PB:Lat.Mat) (J:Nat->(Nat->Nat)->Lat.Mat × Lat.Mat->Prop),vs=[v,.int w,.ref L]/\Rep K H v (dT n w T)/\LX H CL L r b sv n n (P,PB) N/\n<=60/\w<=60/\Am1 n (w+n) J/\(∀ t,J 0 t (Lat.beside w T P,PB))/\(∀ i t s,J i t s->∀ j,j<i->t j<w+n) ∧
 ∀ (tp D L' r' b':Addr) (as:List Addr) (t:Nat->Nat) (s:Lat.Mat × Lat.Mat) (H':Hp),Same H H'->J n t s->SqT K H' tp [.ref D,.ref L']->TA H' D as n w s.1->LX H' CL L' r' b' none n n (fun x a=>s.1 x (w+a),s.2) N->H D=none->H L'=none->H r'=none->H b'=none->Q (.ref tp) H'
def He:Sp:=fun vs H Q _=>∃ (c:Addr) (W st:Nat) (u:Nat->Int),vs=[.ref c]/\SqL K H c (VI W u)/\Fs W u st/\W<=1000/\Q (.int (st:Int)) H
def D6 (_K:W.Frag) (CL CS CW:Addr):Sp:=fun vs H Q _=>∃ (H0:Hp) (p q:Addr) (M:Addr->Prop) (n W:Nat) (t:Nat->Nat) (cnt:Nat) (s:Lat.Mat × Lat.Mat) (i f:Nat),vs=[.ref p,.int i,.int f]/\SX CS H0 H p q M n W t cnt s/\i<n/\f<=cnt/\(i<f\/cnt<=i)/\Hds W t f cnt s.1/\u8 n W t i f cnt s ∧
 ∀ H',SX CS H0 H' p q M n W t cnt (Lat.shrS t i f s (cnt-f))->Q .non H'
def Lw (_K:W.Frag) (CL CS CW:Addr):Sp:=fun vs H Q _=>∃ (H0:Hp) (p q:Addr) (M:Addr->Prop) (n W:Nat) (t:Nat->Nat) (i:Nat) (s:Lat.Mat × Lat.Mat),vs=[.ref p]/\SX CS H0 H p q M n W t (i+1) s/\Am4 n W t i s ∧
 ∀ H',SX CS H0 H' p q M n W t (i+1) (Lat.downS t i s (i+1))->Q .non H'
def S8 (_K:W.Frag) (CL CS CW:Addr):Sp:=fun vs H Q _=>∃ (H0:Hp) (p q:Addr) (M:Addr->Prop) (n W:Nat) (t:Nat->Nat) (spot i:Nat) (s:Lat.Mat × Lat.Mat) (Nx:Lat.Mat × Lat.Mat->Prop),vs=[.ref p,.int spot,.int i]/\SX CS H0 H p q M n W t i s/\spot<i/\i<n/\At7 n W t spot i s Nx ∧
 ∀ H' s',SX CS H0 H' p q M n W t i s'->Nx s'->Q .non H'
def Lx (_K:W.Frag) (CL CS CW:Addr):Sp:=fun vs H Q _=>∃ (H0:Hp) (p q:Addr) (M:Addr->Prop) (n W:Nat) (t:Nat->Nat) (i:Nat) (s:Lat.Mat × Lat.Mat) (I:Nat->Lat.Mat × Lat.Mat->Prop),vs=[.ref p,.int i]/\SX CS H0 H p q M n W t i s/\i<n/\Puts n W i t s I/\(∀ j,j<i->t j<W) ∧
 ∀ H' spot st s',spot<=i->I spot s'->Fs W (s'.1 i) st->(spot<i->st<t spot)->SX CS H0 H' p q M n W (Lat.insT t spot st) (i+1) (Lat.insS i spot st s')->Q .non H'
def S9 (_K:W.Frag) (CL CS CW:Addr):Sp:=fun vs H Q _=>∃ (p dx:Addr) (r b:V),vs=[.ref p,r,b]/\H p=some (.ins CS dx [])/\∀ q H' fs,H q=none->fs=putF "starts" (.ref q) (putF "backs" b (putF "rows" r []))->SameX p H H'->H' q=some (.lst [])->H' p=some (.ins CS dx fs)->Q .non H'
end
end Hb
namespace L2
open PySem PySem.Spec PyProof.Rows PySem.SeqAt
section
variable {X:Cx}{n:Nat}{K:W.Frag}
theorem Ak4 (hc:X.calm=true):Km X (.builtin "any") (fun xs H Q=>∃ (p:Addr) (bs:List Bool),xs=[.ref p]/\SqL X.K H p (bs.map V.bl)/\Q (.bl (bs.any id)) H):=by
 intro Ac s σ H xs us Q I r h
 obtain⟨p,bs,rfl,hq,q⟩:=h
 obtain⟨u,rfl,ru⟩:=v4 r
 cases ru
 obtain⟨its,rv,pl,hz⟩:=I.list hq
 have hh:X.A.handled=none:=I.ok.hd hc
 have rel:∀ (i:Nat) (v:Value),its.toArray[i]?=some v->∃ b,bs[i]?=some b/\v=.bool b:=fun i v e=>by
  have e':its[i]?=some v:=by simpa using e
  have hlt:i<its.length:=(List.getElem?_eq_some_iff.mp e').1
  have l1:=rv.length
  rw [List.length_map] at l1
  have hb:bs[i]?=some (bs[i]'(by omega)):=by simp<;>omega
  obtain⟨u,hu,ru⟩:=rv.get (i:=i) (x:=V.bl (bs[i]'(by omega))) (by rw [List.getElem?_map,hb];rfl)
  rw [e'] at hu
  cases hu
  exact ⟨_,hb,ru⟩
 refine call_any_walk (wpAny_pyIter_list pl.isList ?_)
 refine⟨s.heap.objs.size,[s.heap.objs.size,p],[s.heap.objs.size],its.toArray.size,_,_,fun i=>(bs[i]?).getD false,rfl,Walks.list (show X.A.in1.handled=none from hh) s.heap.objs.size p ?_ its.toArray,⟨⟨_,Heap.get?_push_size _ rfl,rfl,rfl⟩,?_⟩,?_,fun h' tk k=>?_⟩
 . obtain⟨o,_,ho,_⟩:=pl
   exact Nat.ne_of_lt (Heap.lt_size ho)
 . exact pl.isList.at fun o e=>Heap.get?_push_of_some _ e
 . intro i v s' Q' E' hv hQ
   obtain⟨b,hb,rfl⟩:=rel i v hv
   dsimp only at hQ
   rw [hb] at hQ
   exact wpAny_truthy_bool hQ
 . have e:(List.range its.toArray.size).any (fun i=>(bs[i]?).getD false)=bs.any id:=by
    have l1:=rv.length
    rw [List.length_map] at l1
    rw [List.size_toArray,←l1]
    rw [Bool.eq_iff_iff,List.any_eq_true,List.any_eq_true]
    constructor
    . rintro ⟨i,hi,hx⟩
      have hlt:=List.mem_range.mp hi
      have hb:bs[i]?=some bs[i]:=by simp
      rw [hb] at hx
      exact ⟨_,List.getElem_mem hlt,hx⟩
    . rintro ⟨b,hb,hx⟩
      obtain⟨i,hi⟩:=List.getElem?_of_mem hb
      refine⟨i,List.mem_range.mpr (List.getElem?_eq_some_iff.mp hi).1,?_⟩
      rw [hi]
      exact hx
   rw [e]
   have I1:Inv X Ac σ H { s with heap:=h',toks:=tk }:=I.kept (fun b o e=>k b o (by simp;exact Nat.ne_of_lt (Heap.lt_size e)) (Heap.get?_push_of_some _ e))
   exact ⟨.bl (bs.any id),H,I1,rfl,q⟩
theorem Ak8:bootBuiltins "any"=some (.builtin "any"):=by decide +kernel
theorem l9 (hc:X.calm=true) (hK:X.K=K:=by rfl):Km X (.builtin "any") (fun xs H Q=>∃ (p:Addr) (bs:List Bool),xs=[.ref p]/\SqL K H p (bs.map V.bl)/\Q (.bl (bs.any id)) H):=by subst hK;exact Ak4 hc
end
end L2
namespace Hb
open PySem L2
def A10:List Str:=["straighten","step","put_in_order","share"]
section
variable {K:W.Frag}{H H':Hp}
theorem T8 {nm a:Addr} (h:a≠nm):hide H (fun a=>a=nm) a=H a:=Gm h
theorem Ag4 {nm a:Addr} (h:a=nm):hide H (fun a=>a=nm) a=none:=T7 h
theorem A16 {p C dx:Addr}{fs:List (Str × V)}{a:Addr}{xs:List V} (h:SqL K H a xs) (hp:H p=some (.ins C dx fs)) (sx:SameX p H H'):SqL K H' a xs:=by
 rcases h with (h|⟨o,h⟩) | h
 . exact .inl (.inl (sx _ _ (F6 h hp (by intro z;cases z)) h))
 . exact .inl (.inr ⟨o,sx _ _ (F6 h hp (by intro z;cases z)) h⟩)
 . exact .inr h
theorem An1 {p C dx:Addr}{fs:List (Str × V)}{a:Addr}{xs:List V} (h:SqT K H a xs) (hp:H p=some (.ins C dx fs)) (sx:SameX p H H'):SqT K H' a xs:=by
 rcases h with (h|⟨o,h⟩) | h
 . exact .inl (.inl (sx _ _ (F6 h hp (by intro z;cases z)) h))
 . exact .inl (.inr ⟨o,sx _ _ (F6 h hp (by intro z;cases z)) h⟩)
 . exact .inr h
theorem A74 {nm:Addr}{ys:List V}{o:HO}{a:Addr}{xs:List V} (h:SqT K H a xs) (hn:H nm=some (.lst ys)):SqT K (upd H nm o) a xs:=by
 rcases h with (h|⟨u,h⟩) | h
 . exact .inl (.inl (by rw [Aq (F6 h hn (by intro z;cases z))];exact h))
 . exact .inl (.inr ⟨u,by rw [Aq (F6 h hn (by intro z;cases z))];exact h⟩)
 . exact .inr h
theorem Ar9 {m i:Nat}{f:Nat->Int}{x:Int} (hi:i<m):(VI m f).set i (.int x)=(lsI m fun k=>if k=i then x else f k).map V.int:=by
 show _=VI m _
 apply List.ext_getElem?
 intro j
 rw [List.getElem?_set,A5]
 by_cases hj:i=j
 . subst hj
   rw [if_pos rfl,if_pos hi,Bz hi,if_pos rfl]
 . rw [if_neg hj]
   by_cases h2:j<m
   . rw [Bz h2,Bz h2,if_neg fun z=>hj z.symm]
   . rw [List.getElem?_eq_none (by rw [A5];omega),List.getElem?_eq_none (by rw [A5];omega)]
theorem dT_x {p C dx:Addr}{fs:List (Str × V)}{v:V}{n w:Nat}{f:Nat->Nat->Int} (h:Rep K H v (dT n w f)) (hp:H p=some (.ins C dx fs)) (sx:SameX p H H'):Rep K H' v (dT n w f):=by
 obtain⟨a,us,rfl,hq,hl,hr⟩:=Li h
 refine Ai5 (A16 hq hp sx) hl fun i hi=>?_
 have e:=List.getElem?_eq_getElem (l:=us) (i:=i) (by omega)
 obtain⟨_,b,eb,hb⟩:=hr i _ e
 exact ⟨b,by rw [e,eb],A16 hb hp sx⟩
end
theorem LX.x {H H':Hp}{C p r b:Addr}{sv:Option V}{n W:Nat}{s:Lat.Mat × Lat.Mat}{N:Addr->Prop}{q D dx:Addr}{fs:List (Str × V)} (x:LX H C p r b sv n W s N) (hq:H q=some (.ins D dx fs)) (hqp:q≠p) (sx:SameX q H H') (kp:Kp H H'):LX H' C p r b sv n W s N:=by
 obtain⟨dx,fs,h1,h2⟩:=x.ob
 obtain⟨as,a1,a2⟩:=x.rw
 obtain⟨bs,b1,b2⟩:=x.bk
 exact ⟨⟨dx,fs,sx _ _ hqp.symm h1,h2⟩,⟨as,a1.x hq sx,a2⟩,⟨bs,b1.x hq sx,b2⟩,x.ne,x.nr,x.nb,fun a ha=>kp a (x.nn a ha)⟩
theorem LX.more {H H':Hp}{C p r b:Addr}{sv:Option V}{n W:Nat}{s:Lat.Mat × Lat.Mat}{N N':Addr->Prop} (x:LX H C p r b sv n W s N) (e:Same H H') (h:∀ a,N' a->N a\/H a=none) (hn:∀ a,N' a->H' a≠none):LX H' C p r b sv n W s N':=by
 obtain⟨dx,fs,h1,h2⟩:=x.ob
 obtain⟨as,a1,a2⟩:=x.rw
 obtain⟨bs,b1,b2⟩:=x.bk
 refine⟨⟨dx,fs,e _ _ h1,h2⟩,⟨as,a1.same e,fun a ha=>⟨(a2 a ha).1,(a2 a ha).2.1,fun z=>?_⟩⟩,⟨bs,b1.same e,fun a ha=>⟨(b2 a ha).1,(b2 a ha).2.1,fun z=>?_⟩⟩,x.ne,fun z=>?_,fun z=>?_,hn⟩
 . exact (h a z).elim (a2 a ha).2.2 (a1.there.2 a ha)
 . exact (h a z).elim (b2 a ha).2.2 (b1.there.2 a ha)
 . exact (h r z).elim x.nr a1.there.1
 . exact (h b z).elim x.nb b1.there.1
structure WX (K:W.Frag) (CL CW:Addr) (H0 H:Hp) (p L R nm:Addr) (n w:Nat) (M:Option Lat.Mat) (l r:Lat.Mat × Lat.Mat) (ns:List Int):Prop where
 ob:∃ tv dx fs,H p=some (.ins CW dx fs)/\fs.lookup ("table":Str)=some tv/\fs.lookup ("width":Str)=some (.int (w:Int))/\fs.lookup ("left":Str)=some (.ref L)/\fs.lookup ("right":Str)=some (.ref R)/\fs.lookup ("numbers":Str)=some (.ref nm)/\(∀ m∈A10,fs.lookup m=none)/\fs.length<=10/\∀ M',M=some M'->Rep K (hide H fun a=>a=nm) tv (dT n w M')
 li:∃ r1 b1 r2 b2,LX H CL L r1 b1 none n n l (fun a=>a=nm\/a=r2\/a=b2)/\LX H CL R r2 b2 none w w r (fun a=>a=nm)/\H0 r1=none/\H0 b1=none/\H0 r2=none/\H0 b2=none
 nu:H nm=some (.lst (ns.map V.int))
 same:Same H0 H
 fr:H0 p=none/\H0 L=none/\H0 R=none/\H0 nm=none
 ne:p≠L/\p≠R/\L≠R
 sm:n<=60/\w<=60
def nzs (m:Nat) (M:Lat.Mat):List Int:=((List.range m).map fun i=>M i i).filter fun x=>decide (x≠0)
theorem WX.keep {K:W.Frag}{CL CW:Addr}{H0 H H':Hp}{p L R nm:Addr}{n w:Nat}{M:Option Lat.Mat}{l r:Lat.Mat × Lat.Mat}{ns:List Int} (x:WX K CL CW H0 H p L R nm n w M l r ns) (s:Same H H'):WX K CL CW H0 H' p L R nm n w M l r ns:=by
 obtain⟨tv,dx,fs,hp,l1,l2,l3,l4,l5,l6,l7,hrep⟩:=x.ob
 obtain⟨r1,b1,r2,b2,lx,ly,f⟩:=x.li
 exact ⟨⟨tv,dx,fs,s _ _ hp,l1,l2,l3,l4,l5,l6,l7,fun M' e=>Rep.same (An6 s) (hrep M' e)⟩,⟨r1,b1,r2,b2,lx.keep s,ly.keep s,f⟩,s _ _ x.nu,x.same.trans s,x.fr,x.ne,x.sm⟩
theorem WX.num {K:W.Frag}{CL CW:Addr}{H0 H:Hp}{p L R nm:Addr}{n w:Nat}{M:Option Lat.Mat}{l r:Lat.Mat × Lat.Mat}{ns ns':List Int} (x:WX K CL CW H0 H p L R nm n w M l r ns):WX K CL CW H0 (upd H nm (.lst (ns'.map V.int))) p L R nm n w M l r ns':=by
 obtain⟨tv,dx,fs,hp,l1,l2,l3,l4,l5,l6,l7,hrep⟩:=x.ob
 obtain⟨r1,b1,r2,b2,lx,ly,f⟩:=x.li
 have hpn:p≠nm:=F6 hp x.nu (by intro z;cases z)
 have go:∀{q r b:Addr}{m:Nat}{s:Lat.Mat × Lat.Mat}{N:Addr->Prop},LX H CL q r b none m m s N->N nm->LX (upd H nm (.lst (ns'.map V.int))) CL q r b none m m s N:=fun {q r b m s N} y hN=>by
  obtain⟨d2,f2,e1,e2⟩:=y.ob
  obtain⟨as,a1,a2⟩:=y.rw
  obtain⟨bs,b1,b2⟩:=y.bk
  refine⟨⟨d2,f2,by rw [Aq (F6 e1 x.nu (by intro z;cases z))];exact e1,e2⟩,⟨as,a1.put (fun z=>y.nr (z▸hN)) fun a ha z=>(a2 a ha).2.2 (z▸hN),a2⟩,⟨bs,b1.put (fun z=>y.nb (z▸hN)) fun a ha z=>(b2 a ha).2.2 (z▸hN),b2⟩,y.ne,y.nr,y.nb,fun a ha z=>?_⟩
  by_cases e:a=nm
  . rw [e,Ag] at z;cases z
  . rw [Aq e] at z;exact y.nn a ha z
 refine⟨⟨tv,dx,fs,by rw [Aq hpn];exact hp,l1,l2,l3,l4,l5,l6,l7,fun M' e=>Rep.same (V4 fun a o n e=>by rw [Aq n];exact e) (hrep M' e)⟩,⟨r1,b1,r2,b2,go lx (.inl rfl),go ly rfl,f⟩,Ag,fun a o e=>by rw [Aq (Ar e x.fr.2.2.2)];exact x.same _ _ e,x.fr,x.ne,x.sm⟩
theorem WX.drop {K:W.Frag}{CL CW:Addr}{H0 H:Hp}{p L R nm:Addr}{n w:Nat}{M:Option Lat.Mat}{l r:Lat.Mat × Lat.Mat}{ns:List Int} (x:WX K CL CW H0 H p L R nm n w M l r ns):WX K CL CW H0 H p L R nm n w none l r ns:=by
 obtain⟨tv,dx,fs,hp,l1,l2,l3,l4,l5,l6,l7,_⟩:=x.ob
 exact ⟨⟨tv,dx,fs,hp,l1,l2,l3,l4,l5,l6,l7,fun M' e=>by cases e⟩,x.li,x.nu,x.same,x.fr,x.ne,x.sm⟩
theorem WX.left {K:W.Frag}{CL CW:Addr}{H0 H H1 H':Hp}{p L R nm r1 b1 r2 b2 r' b':Addr}{n w:Nat}{M:Option Lat.Mat}{l r l':Lat.Mat × Lat.Mat}{ns:List Int} (x:WX K CL CW H0 H p L R nm n w M l r ns) (lx:LX H CL L r1 b1 none n n l (fun a=>a=nm\/a=r2\/a=b2)) (ly:LX H CL R r2 b2 none w w r (fun a=>a=nm)) (f3:H0 r2=Option.none) (f4:H0 b2=Option.none)
 (s:Same H H1) (sx:SameX L H1 H') (h1:H1 r'=Option.none) (h2:H1 b'=Option.none) (y:LX H' CL L r' b' Option.none n n l' (fun a=>a=nm\/a=r2\/a=b2)):WX K CL CW H0 H' p L R nm n w Option.none l' r ns/\LX H' CL R r2 b2 Option.none w w r (fun a=>a=nm):=by
 obtain⟨tv,dx,fs,hp,l1,l2,l3,l4,l5,l6,l7,_⟩:=x.ob
 obtain⟨dl,fl,hL,_⟩:=lx.ob
 obtain⟨dl',fl',hL',_⟩:=y.ob
 obtain⟨n1,n2,n3⟩:=x.ne
 have kp:Kp H1 H':=Kp.x sx hL'
 have lz:=(ly.keep s).x (s _ _ hL) n3 sx kp
 have s0:=x.same.trans s
 exact ⟨⟨⟨tv,dx,fs,sx _ _ n1 (s _ _ hp),l1,l2,l3,l4,l5,l6,l7,fun M' e=>by cases e⟩,⟨r',b',r2,b2,y,lz,s0.free h1,s0.free h2,f3,f4⟩,sx _ _ (F6 x.nu hL (by intro z;cases z)) (s _ _ x.nu),sx.same s0 x.fr.2.1,x.fr,x.ne,x.sm⟩,lz⟩
theorem WX.right {K:W.Frag}{CL CW:Addr}{H0 H H':Hp}{p L R nm r1 b1 r2 b2:Addr}{n w:Nat}{M:Option Lat.Mat}{l r r':Lat.Mat × Lat.Mat}{ns:List Int} (x:WX K CL CW H0 H p L R nm n w M l r ns) (lx:LX H CL L r1 b1 Option.none n n l (fun a=>a=nm\/a=r2\/a=b2)) (ly:LX H CL R r2 b2 Option.none w w r (fun a=>a=nm)) (f1:H0 r1=Option.none) (f2:H0 b1=Option.none) (f3:H0 r2=Option.none) (f4:H0 b2=Option.none)
 (fr:Fr2 r2 b2 H H') (kp:Kp H H') (y:LX H' CL R r2 b2 Option.none w w r' (fun a=>a=nm)):WX K CL CW H0 H' p L R nm n w Option.none l r' ns/\LX H' CL L r1 b1 Option.none n n l (fun a=>a=nm\/a=r2\/a=b2):=by
 obtain⟨tv,dx,fs,hp,l1,l2,l3,l4,l5,l6,l7,_⟩:=x.ob
 obtain⟨dl,fl,hL,hL2⟩:=lx.ob
 obtain⟨as,a1,a2⟩:=lx.rw
 obtain⟨bs,b3,b4⟩:=lx.bk
 obtain⟨as2,c1,_⟩:=ly.rw
 obtain⟨bs2,c2,_⟩:=ly.bk
 have no:∀ a C d f,H a=some (.ins C d f)->H' a=some (.ins C d f):=fun a C d f e=>fr _ _ (F6 e c1.2.1 (by intro z;cases z)) (F6 e c2.2.1 (by intro z;cases z)) e
 have lz:LX H' CL L r1 b1 Option.none n n l (fun a=>a=nm\/a=r2\/a=b2):=⟨⟨dl,fl,no _ _ _ _ hL,hL2⟩,⟨as,a1.keep (fun o e=>fr _ _ (fun z=>lx.nr (.inr (.inl z))) (fun z=>lx.nr (.inr (.inr z))) e) fun a ha o e=>fr _ _ (fun z=>(a2 a ha).2.2 (.inr (.inl z))) (fun z=>(a2 a ha).2.2 (.inr (.inr z))) e,a2⟩,
  ⟨bs,b3.keep (fun o e=>fr _ _ (fun z=>lx.nb (.inr (.inl z))) (fun z=>lx.nb (.inr (.inr z))) e) fun a ha o e=>fr _ _ (fun z=>(b4 a ha).2.2 (.inr (.inl z))) (fun z=>(b4 a ha).2.2 (.inr (.inr z))) e,b4⟩,lx.ne,lx.nr,lx.nb,fun a ha=>kp a (lx.nn a ha)⟩
 exact ⟨⟨⟨tv,dx,fs,no _ _ _ _ hp,l1,l2,l3,l4,l5,l6,l7,fun M' e=>by cases e⟩,⟨r1,b1,r2,b2,lz,y,f1,f2,f3,f4⟩,fr _ _ (fun z=>ly.nr z.symm) (fun z=>ly.nb z.symm) x.nu,fun a o e=>fr _ _ (Ar e f3) (Ar e f4) (x.same _ _ e),x.fr,x.ne,x.sm⟩,lz⟩
theorem K5 (i:Nat) (M:Lat.Mat):nzs (i+1) M=if M i i=0 then nzs i M else nzs i M++[M i i]:=by
 unfold nzs
 rw [List.range_succ,List.map_append,List.filter_append]
 by_cases h:M i i=0<;>simp [h]
theorem Ax4 (i:Nat) (M:Lat.Mat):(nzs i M).length<=i:=by
 unfold nzs
 refine Nat.le_trans (List.length_filter_le _ _) ?_
 rw [List.length_map,List.length_range]
 exact Nat.le_refl _
structure Qp (n w:Nat) (M:Lat.Mat) (l r:Lat.Mat × Lat.Mat) (Nx:Lat.Mat->Lat.Mat × Lat.Mat->Lat.Mat × Lat.Mat->Prop):Prop where
 ex:∃ J1,Am1 n (w+n) J1/\(∀ t,J1 0 t (Lat.beside w M l.1,l.2))/\(∀ i t s,J1 i t s->∀ j,j<i->t j<w+n)/\∀ t1 s1,J1 n t1 s1 →
  ∃ J2,Am1 w (n+w) J2/\(∀ t,J2 0 t (Lat.beside n (fun i j=>s1.1 j i) r.1,r.2))/\(∀ i t s,J2 i t s->∀ j,j<i->t j<n+w)/\∀ t2 s2,J2 w t2 s2 →
    Nx (fun i j=>s2.1 j i) (fun x a=>s1.1 x (w+a),s1.2) (fun x a=>s2.1 x (n+a),s2.2)
section
variable (K:W.Frag) (CL CS CW:Addr)
def E8:Sp:=fun vs H Q _=>∃ (v:V) (n w:Nat) (M:Lat.Mat),vs=[v]/\Rep K H v (dT n w M)/\n<=1000/\w<=1000/\(Lat.Straight n w M->∀ H',Same H H'->Q (.bl true) H')/\(¬Lat.Straight n w M->∀ H',Same H H'->Q (.bl false) H')
def Tb (K:W.Frag) (CL CS CW:Addr):Sp:=fun vs H Q _=>∃ (H0:Hp) (p dx:Addr) (v:V) (n w:Nat) (M:Lat.Mat),vs=[.ref p,v,.int (w:Int)]/\Same H0 H/\H0 p=none/\H p=some (.ins CW dx [])/\Rep K H0 v (dT n w M)/\n<=60/\w<=60 ∧
 ∀ L R nm H',WX K CL CW H0 H' p L R nm n w (some M) (Lat.one,Lat.one) (Lat.one,Lat.one) []->Q .non H'
def Ta (K:W.Frag) (CL CS CW:Addr):Sp:=fun vs H Q _=>∃ (H0:Hp) (p L R nm:Addr) (n w:Nat) (M:Lat.Mat) (l r:Lat.Mat × Lat.Mat) (ns:List Int) (Nx:Lat.Mat->Lat.Mat × Lat.Mat->Lat.Mat × Lat.Mat->Prop),vs=[.ref p]/\WX K CL CW H0 H p L R nm n w (some M) l r ns/\Qp n w M l r Nx ∧
 ∀ L' R' M' l' r' H',Nx M' l' r'->WX K CL CW H0 H' p L' R' nm n w (some M') l' r' ns->Q .non H'
def Ft (K:W.Frag) (CL CS CW:Addr):Sp:=fun vs H Q _=>∃ (H0:Hp) (p L R nm:Addr) (n w:Nat) (M:Lat.Mat) (l r:Lat.Mat × Lat.Mat) (U:Nat->Lat.Mat->Lat.Mat × Lat.Mat->Lat.Mat × Lat.Mat->Prop),vs=[.ref p]/\WX K CL CW H0 H p L R nm n w (some M) l r []/\Qp n w M l r (fun M' l' r'=>∃ m,U m M' l' r') ∧
 (∀ m M' l' r',U m M' l' r'->¬Lat.Straight n w M'->Qp n w M' l' r' (fun M2 l2 r2=>∃ m',m'<m/\U m' M2 l2 r2)) ∧
 ∀ L' R' m M' l' r' H',U m M' l' r'->Lat.Straight n w M'->WX K CL CW H0 H' p L' R' nm n w (some M') l' r' (nzs (min n w) M')->Q .non H'
structure Za (n w:Nat) (i j:Nat) (f:Nat->Int) (l r:Lat.Mat × Lat.Mat):Prop where
 p1:0<f i/\(f i).natAbs<L9
 p2:f j≠0/\(f j).natAbs<L9
 bl:BO n n l/\BO n n (Lat.addS i j 1 l)
 br:BO w w r
def shF (i j:Nat) (g:Int) (f:Nat->Int):Nat->Int:=Lat.put2 f i j g (f i / g*f j)
def shL (i j:Nat) (g b:Int) (f:Nat->Int) (l:Lat.Mat × Lat.Mat):Lat.Mat × Lat.Mat:=Lat.addS j i (-(b*f j / g)) (Lat.addS i j 1 l)
def shR (i j:Nat) (g a b:Int) (f:Nat->Int) (r:Lat.Mat × Lat.Mat):Lat.Mat × Lat.Mat:=Lat.blendS i j a b (-(f j / g)) (f i / g) r
def Ow (K:W.Frag) (CL CS CW:Addr):Sp:=fun vs H Q _=>∃ (H0:Hp) (p L R nm:Addr) (n w m i j:Nat) (l r:Lat.Mat × Lat.Mat) (f:Nat->Int),vs=[.ref p,.int (i:Int),.int (j:Int)]/\WX K CL CW H0 H p L R nm n w none l r (lsI m f)/\i<j/\j<m/\m<=n/\m<=w/\Za n w i j f l r ∧
 (f i∣f j->Q .non H)/\∀ g a b H',Lat.Shares (f i) (f j) g a b->WX K CL CW H0 H' p L R nm n w none (shL i j g b f l) (shR i j g a b f r) (lsI m (shF i j g f))->Q .non H'
def Ox (K:W.Frag) (CL CS CW:Addr):Sp:=fun vs H Q _=>∃ (H0:Hp) (p L R nm:Addr) (n w m:Nat) (l r:Lat.Mat × Lat.Mat) (f:Nat->Int) (V:Nat->(Nat->Int)->Lat.Mat × Lat.Mat->Lat.Mat × Lat.Mat->Prop),vs=[.ref p]/\WX K CL CW H0 H p L R nm n w none l r (lsI m f)/\m<=n/\m<=w/\V 0 f l r ∧
 (∀ d i j f l r,V d f l r->d<5*m+m*m->i<j->j<m->Za n w i j f l r/\(f i∣f j->V (d+1) f l r)/\∀ g a b,Lat.Shares (f i) (f j) g a b->V (d+1) (shF i j g f) (shL i j g b f l) (shR i j g a b f r)) ∧
 ∀ d f' l' r' H',V d f' l' r'->Lat.ChainTo m m f'->WX K CL CW H0 H' p L R nm n w none l' r' (lsI m f')->Q .non H'
end
end Hb
namespace Hb
open PySem L2
structure Fr (n w:Nat) (A:Lat.Mat) (Fin:Nat->(Nat->Int)->Lat.Mat × Lat.Mat->Lat.Mat × Lat.Mat->Prop):Prop where
 ex:∃ (U:Nat->Lat.Mat->Lat.Mat × Lat.Mat->Lat.Mat × Lat.Mat->Prop) (Y:Nat->Nat->(Nat->Int)->Lat.Mat × Lat.Mat->Lat.Mat × Lat.Mat->Prop),Qp n w A (Lat.one,Lat.one) (Lat.one,Lat.one) (fun M l r=>∃ m,U m M l r) ∧
  (∀ m M l r,U m M l r->¬Lat.Straight n w M->Qp n w M l r (fun M' l' r'=>∃ m',m'<m/\U m' M' l' r')) ∧
  (∀ m M l r,U m M l r->Lat.Straight n w M->∃ k f,nzs (min n w) M=lsI k f/\k<=n/\k<=w/\Y k 0 f l r) ∧
  (∀ k d i j f l r,Y k d f l r->d<5*k+k*k->i<j->j<k->Za n w i j f l r/\(f i∣f j->Y k (d+1) f l r)/\∀ g a b,Lat.Shares (f i) (f j) g a b->Y k (d+1) (shF i j g f) (shL i j g b f l) (shR i j g a b f r)) ∧
  ∀ k d f l r,Y k d f l r->Fin k f l r
structure Am2 (K:W.Frag) (H H':Hp) (tp nm r1 D1 D2 b2:Addr) (n w k:Nat) (f:Nat->Int) (l r:Lat.Mat × Lat.Mat):Prop where
 same:Same H H'
 tup:SqT K H' tp [.ref nm,.ref r1,.ref D1,.ref D2,.ref b2]
 num:H' nm=some (.lst (VI k f))
 left:Rep K H' (.ref r1) (dT n n l.1)
 lback:Rep K H' (.ref D1) (dT n n fun i j=>l.2 j i)
 right:Rep K H' (.ref D2) (dT w w fun i j=>r.1 j i)
 rback:Rep K H' (.ref b2) (dT w w r.2)
 new:∀ a,a=nm\/a=r1\/a=D1\/a=D2\/a=b2->H a=none/\∃ us,H' a=some (.lst us)/\us.length<=60
section
variable (K:W.Frag)
def Fi:Sp:=fun vs H Q _=>∃ (v:V) (n w:Nat) (A:Lat.Mat) (Fin:Nat->(Nat->Int)->Lat.Mat × Lat.Mat->Lat.Mat × Lat.Mat->Prop),vs=[v,.int (w:Int)]/\Rep K H v (dT n w A)/\n<=40/\w<=60/\Fr n w A Fin ∧
 ∀ (tp nm r1 D1 D2 b2:Addr) (k:Nat) (f:Nat->Int) (l r:Lat.Mat × Lat.Mat) (H':Hp),Fin k f l r->Lat.ChainTo k k f->k<=n->k<=w->Am2 K H H' tp nm r1 D1 D2 b2 n w k f l r->Q (.ref tp) H'
def Tc:Sp:=fun vs H Q _=>∃ (v:V) (n w:Nat) (A:Lat.Mat) (Fin:Nat->(Nat->Int)->Lat.Mat × Lat.Mat->Lat.Mat × Lat.Mat->Prop),vs=[v,.int (w:Int)]/\Rep K H v (dT n w A)/\n<=40/\w<=60/\Fr n w A Fin ∧
 ∀ (k:Nat) (f:Nat->Int) (l r:Lat.Mat × Lat.Mat) (H':Hp),Fin k f l r->Lat.ChainTo k k f->k<=n->k<=w->Same H H'->Q (.int (k:Int)) H'
end
end Hb
namespace Hb
open Lat
section
variable {C:Nat->Prop}{δ:Nat}
theorem BB.bo {n W β:Nat}{s:Mat × Mat} (h:BB n W C δ β s) (hb:β<=big):BO n W s:=⟨(h.mono hb).1,(h.mono hb).2.1⟩
theorem Zd {n W w i:Nat}{G:Nat->Prop}{R0 B0:Mat}{t:Nat->Nat}{π b β:Nat} (H:Jt n W w i G R0 B0 t π b) (hW:W=w+n) (dl:Dual n w R0 B0) (bb:BB n W C δ β (R0,B0)) (hb:β+Em π b i<=big) (hπ:π<=8990) (hpg:∀ j,j<i->G (t j))
 (hG:∀ spot (s:Mat × Mat) st,spot<=i->Cz n W w i G R0 B0 t π b spot s.1 s.2->Fs W (s.1 i) st->G st)
 (hd:∀ t1 Y R1 B1 R2 B2,Ins n W w i G R0 B0 t1 Y R1 B1->Down n W w i R1 B1 t1 0 R2 B2->∀ j,j<=i->(R2 j (t1 j)).natAbs<L9) :
 ∃ I,Puts n W i t (R0,B0) I/\∀ spot st s',spot<=i->I spot s'->Fs W (s'.1 i) st->(spot<i->st<t spot) →
   Am4 n W (insT t spot st) i (insS i spot st s')/\G st/\Ins n W w i G R0 B0 (insT t spot st) (b+i+3+2*π+i*(π+1)) (insS i spot st s').1 (insS i spot st s').2 ∧
   Down n W w i (insS i spot st s').1 (insS i spot st s').2 (insT t spot st) 0 (downS (insT t spot st) i (insS i spot st s') (i+1)).1 (downS (insT t spot st) i (insS i spot st s') (i+1)).2 ∧
   BB n W C δ (β+Em π b i) (downS (insT t spot st) i (insS i spot st s') (i+1)):=by
 have hi:=H.hi
 have cM_le:∀ spot,spot<=i->spot*cM π i<=Em π b i:=fun spot hs=>by
  unfold Em
  exact Nat.le_trans (Nat.mul_le_mul_right _ hs) (Nat.le_add_right _ _)
 refine⟨fun spot s=>Cz n W w i G R0 B0 t π b spot s.1 s.2/\BB n W C δ (β+spot*cM π i) s,⟨⟨Cz.start H,by rw [Nat.zero_mul];exact bb⟩,?_,?_,?_⟩,?_⟩
 . rintro spot s _ ⟨p,_⟩
   obtain⟨c,hc,h0⟩:=(p.good.dual dl).row hi
   exact ⟨w+c,by omega,h0⟩
 . rintro spot s hs ⟨p,q⟩ hz
   refine⟨p.skip hz,q.mono ?_⟩
   rw [Nat.add_mul]
   omega
 . rintro spot s hs ⟨p,q⟩ hz h0
   have hsp:=cM_le (spot+1) hs
   rw [Nat.add_mul,Nat.one_mul] at hsp
   have en:β+(spot+1)*cM π i=β+spot*cM π i+cM π i:=by rw [Nat.add_mul,Nat.one_mul];omega
   have lA:(s.1 spot (t spot)).natAbs<=2 ^ π:=by rw [p.old spot _ (Nat.le_refl _) hs];exact H.hd spot hs
   have lB:=p.pv spot (Nat.le_refl _) hs
   refine⟨BB.bo q (by omega),fun j hj1 hj2=>⟨H.lt j hj2,p.pos j hj2,le9 (π:=π) ?_ (by omega)⟩,⟨h0,le9 lB (by omega)⟩,fun k hk=>?_,fun g a b' sh=>?_⟩
   . rw [p.old j _ hj1 hj2]
     exact H.hd j hj2
   . obtain⟨m1,m2,m3⟩:=p.meetAdd H hs hz hk q
     refine⟨fun d hd=>BB.bo (m3 d (by omega)) (by omega),m1,?_⟩
     rw [en]
     exact m3 _ (by omega)
   . obtain⟨m1,m2,m3,m4⟩:=p.meetBlend H hs hz (sh.blend (p.pos spot hs) lA lB) q
     refine⟨fun d hd=>BB.bo (m3 d (by omega)) (by omega),fun d hd=>BB.bo (m4 d (by omega)) (by omega),m1,?_⟩
     rw [en]
     exact m4 _ (by omega)
 . rintro spot st s' hs ⟨p,q⟩ hB hex
   have hGs:=hG spot s' st hs p hB
   obtain⟨e1,e2,e3,e4,e5⟩:=Av3 H p hs hB.1 hB.2.1 hB.2.2 hGs hpg hex q
   refine⟨fun d hd'=>⟨fun j hj1 hj2=>?_,fun m hm=>BB.bo (e5 d hd' m (by omega)) hb⟩,hGs,e1,e2,e4 _ (Nat.le_refl _)⟩
   obtain⟨dn,_,_⟩:=Uh e1 hi (e3.mono (Nat.add_le_add_left (cM_le i (Nat.le_refl _)) β)) d (by omega)
   have hh:=hd _ _ _ _ _ _ e1 e2 j (by omega)
   rw [e2.hd j (by omega)] at hh
   have hx:=dn.hd j (by omega)
   refine⟨e1.lt j (by omega),(dn.s0).pos j (by omega),?_⟩
   rw [hx]
   exact hh
end
end Hb
namespace Hb
open Lat
abbrev JF (n w:Nat) (M:Mat):Nat->(Nat->Nat)->Mat × Mat->Prop:=fun i t s=>C6 n (w+n) w i (fun c=>c<w+n) M one t s.1 s.2
theorem Px {n w b0 D π b β:Nat}{M:Mat} (hM:∀ r c,r<n->c<w+n->(M r c).natAbs<=2 ^ b0) (dets:Dets n (fun c=>c<w+n) M D) (h1:D<=2 ^ π) (h2:n*D<=2 ^ b) (h3:b0<=π) (h4:b0<=b) (hβ:b<β) (hβ2:n+b0<β) (hbig:∀ i,i<n->β+Em π b i<=big) (hπ:π<=8990) (dl:Dual n w M one) :
 Am1 n (w+n) (JF n w M):=by
 refine⟨fun i t s hi hJ=>?_⟩
 have iD:i*D<=2 ^ b:=Nat.le_trans (Nat.mul_le_mul_right _ (Nat.le_of_lt hi)) h2
 have H:=Ag7 hM dets hJ hi h1 iD h3 h4
 have bb:BB n (w+n) (fun _=>False) 0 β (s.1,s.2):=Mn hM dets (fun k a=>rfl) hJ (Nat.le_of_lt hi) iD h4 hβ hβ2
 obtain⟨I,P,e⟩:=Zd H rfl (hJ.good.dual dl) bb (hbig i hi) hπ hJ.pg (fun _ _ _ _ _ hB=>hB.2.2) fun t1 Y R1 B1 R2 B2 I1 D1 j hj=>by
  have:=(hJ.next I1 D1).headD dets (show i+1<=n from hi) (show j<i+1 by omega)
  exact le9 (Nat.le_trans this h1) (by omega)
 refine⟨I,P,fun spot st s' hs hI hB hex=>?_⟩
 obtain⟨e1,_,e3,e4,_⟩:=e spot st s' hs hI hB hex
 exact ⟨e1,hJ.next e3 e4⟩
theorem JF.lt {n w:Nat}{M:Mat}:∀ i t s,JF n w M i t s->∀ j,j<i->t j<w+n:=fun _ _ _ h j hj=>h.st.lt j hj
def JL (n w r:Nat) (M B0:Mat) (kt:Nat->Nat) (hd:Nat->Int) (π b η β:Nat):Nat->(Nat->Nat)->Mat × Mat->Prop:=fun i t s =>
 (i<=r/\Bp n (w+n) w r i (fun c=>c<w) M B0 kt hd t s.1 s.2/\BB n (w+n) (V7 n r kt) (β-(η+1)) (β+tabC π b i) s) ∨
 (r<=i/\Bp n (w+n) w r i (fun c=>c<w+n) M B0 kt hd t s.1 s.2/\u9 n r i kt (η+1+tabC π b r+(i-r)*(η+1)) s.1/\BB n (w+n) (V7 n r kt) (β-(η+1)) (β+tabC π b r+endC (η+1+tabC π b r) η r (i-r)) s/\∀ j,j<i->(s.1 j (t j)).natAbs<L9)
theorem JL.lt {n w r:Nat}{M B0:Mat}{kt:Nat->Nat}{hd:Nat->Int}{π b η β:Nat}:∀ i t s,JL n w r M B0 kt hd π b η β i t s->∀ j,j<i->t j<w+n:=fun _ _ _ h j hj=>by
 rcases h with ⟨_,h,_⟩|⟨_,h,_⟩<;>exact h.st.st.lt j hj
theorem Po {n w r E π b η β:Nat}{e:Int}{T P PB:Mat}{kt:Nat->Nat}{hd:Nat->Int} (g:Gu n w r E e T) (he0:0<e) (K:Ker n (w+n) w r kt hd (beside w T P)) (dl:Dual n w (beside w T P) PB) (hη:∀ j,r<=j->j<n->hd j<=2 ^ η)
 (hβ:η+1<=β) (hbig:β+Oq π b η r n<=big) (hE:E<=2 ^ π) (he:e.natAbs<=2 ^ π) (hb:n*E<=2 ^ b) (hπb:π<=b) (hπ:π<=8990) (hη9:η<=8990) :
 Am1 n (w+n) (JL n w r (beside w T P) PB kt hd π b η β):=by
 have rn:=g.sq.rn
 have dets:=Ql (P:=P) g.dets
 have heads9:∀{i:Nat}{t:Nat->Nat}{s:Mat × Mat},i<=r->Bp n (w+n) w r i (fun c=>c<w) (beside w T P) PB kt hd t s.1 s.2->∀ j,j<i->(s.1 j (t j)).natAbs<L9:=fun hi h j hj=>le9 (Nat.le_trans (h.st.headD dets hi hj) hE) (by omega)
 have hηN:∀ j,r<=j->j<n->(hd j).natAbs<=2 ^ η:=fun j h1 h2=>by
  have p:=K.pos j h1 h2
  have q:=hη j h1 h2
  have:((hd j).natAbs:Int)<=((2 ^ η:Nat):Int):=by rw [Int.natAbs_of_nonneg (by omega)];exact_mod_cast q
  exact_mod_cast this
 refine⟨fun i t s hi hJ=>?_⟩
 by_cases hir:i<r
 . obtain⟨_,h,bb⟩:i<=r/\Bp n (w+n) w r i (fun c=>c<w) (beside w T P) PB kt hd t s.1 s.2/\BB n (w+n) (V7 n r kt) (β-(η+1)) (β+tabC π b i) s:=by
    rcases hJ with hJ|⟨h,_⟩
    . exact hJ
    . omega
   have H:=Af1 g (Nat.le_add_right w n) h hir hE he (Nat.le_trans (Nat.mul_le_mul_right _ (Nat.le_of_lt hi)) hb) hπb
   have tm:tabC π b (i+1)<=tabC π b r:=x9 π b hir
   have tm':tabC π b (i+1)=tabC π b i+Em π b i:=rfl
   have tn:tabC π b r<=Oq π b η r n:=Nat.le_add_right _ _
   have hG:∀ spot (s':Mat × Mat) st,spot<=i->Cz n (w+n) w i (fun c=>c<w) s.1 s.2 t π b spot s'.1 s'.2->Fs (w+n) (s'.1 i) st->st<w:=fun spot s' st hs p hB=>by
    obtain⟨c,hc,h0⟩:=Au1 he0 g.sq (fun k c _ hc=>beside_lo hc) hir ((h.st.good.mono (Nat.le_succ i)).trans p.good) (Nat.le_refl _) dl
    rcases Nat.lt_or_ge c st with z | z
    . exact absurd (hB.1 c z) h0
    . exact Nat.lt_of_le_of_lt z hc
   obtain⟨I,Pu,ev⟩:=Zd (C:=V7 n r kt) (δ:=β-(η+1)) (β:=β+tabC π b i) H rfl (h.st.good.dual dl) bb (by omega) hπ h.st.pg hG fun t1 Y R1 B1 R2 B2 I1 D1 j hj=>by
    have:=(h.st.next I1 D1).headD dets (show i+1<=r from hir) (show j<i+1 by omega)
    exact le9 (Nat.le_trans this hE) (by omega)
   refine⟨I,Pu,fun spot st s' hs hI hB hex=>?_⟩
   obtain⟨e1,e2,e3,e4,e5⟩:=ev spot st s' hs hI hB hex
   exact ⟨e1,.inl ⟨hir,h.next hir e2 hs e3 e4,by rw [tm',←Nat.add_assoc];exact e5⟩⟩
 . have hri:r<=i:=by omega
   obtain⟨h,ab,bb,h9⟩:Bp n (w+n) w r i (fun c=>c<w+n) (beside w T P) PB kt hd t s.1 s.2/\u9 n r i kt (η+1+tabC π b r+(i-r)*(η+1)) s.1/\BB n (w+n) (V7 n r kt) (β-(η+1)) (β+tabC π b r+endC (η+1+tabC π b r) η r (i-r)) s/\∀ j,j<i->(s.1 j (t j)).natAbs<L9:=by
    rcases hJ with ⟨h1,h,bb⟩|⟨_,h⟩
    . have e:i=r:=by omega
      subst e
      refine⟨h.wide fun c hc=>by omega,?_,?_,heads9 (Nat.le_refl _) h⟩
      . rw [Nat.sub_self,Nat.zero_mul]
        exact A07 bb rn hβ
      . rw [Nat.sub_self]
        exact bb
    . exact h
   have hsd:r+(i-r)=i:=by omega
   have row:∀ c,s.1 i c=beside w T P i c:=fun c=>h.st.good.rest i c (Nat.le_refl _)
   have zero:∀ c,c<kt i->s.1 i c=0:=fun c hc=>by rw [row];exact K.zero i c hri hi hc
   have hd0:0<s.1 i (kt i):=by rw [row,K.head i hri hi];exact K.pos i hri hi
   have ktW:=K.lt i hri hi
   have bg:Fs (w+n) (s.1 i) (kt i):=⟨zero,by omega,ktW⟩
   have em:endC (η+1+tabC π b r) η r (i-r+1)=endC (η+1+tabC π b r) η r (i-r)+(η+1+tabC π b r+(i-r)*(η+1)+(r+(i-r))+3):=rfl
   have emo:endC (η+1+tabC π b r) η r (i-r+1)<=endC (η+1+tabC π b r) η r (n-r):=Ah1 _ _ _ (by omega)
   have tn:Oq π b η r n=tabC π b r+endC (η+1+tabC π b r) η r (n-r):=rfl
   rw [hsd] at em
   refine⟨fun _ s'=>s'=s,⟨rfl,?_,fun _ _ _ hs _=>hs,?_⟩,?_⟩
   . rintro spot _ _ rfl
     exact ⟨kt i,ktW,by omega⟩
   . rintro spot _ hs rfl hz h0
     exact absurd (h.skip K hri hi hs (Nat.le_refl _)) h0
   . rintro spot st s' hs e hB hex
     have e:=e.symm
     subst e
     have est:=hB.one bg
     subst est
     have esp:spot=i:=by
      rcases Nat.lt_or_ge spot i with z | z
      . exact absurd (h.skip K hri hi z (Nat.le_of_lt (hex z))) hB.2.1
      . omega
     subst esp
     have eins:insS spot spot (kt spot) s=s:=by
      have m1:moveS spot spot s=s:=by
       show (moveR s.1 spot spot,moveR s.2 spot spot)=s
       rw [K7,K7]
      rw [insS,m1,if_neg (by omega)]
     rw [eins]
     obtain⟨k1,k2,k3⟩:=h.last K hri hi (fun c hc=>hc) ktW (C:=V7 n r kt) (δ:=β-(η+1)) bb (fun k hk=>ab k spot hk (Nat.le_refl _) hi)
     have hbd:β+tabC π b r+endC (η+1+tabC π b r) η r (spot-r)+(η+1+tabC π b r+(spot-r)*(η+1)+spot+3)<=big:=by omega
     have st':=k1.st.st
     have hh:∀ d,d<=spot+1->∀ j,j<=spot->(downS (insT t spot (kt spot)) spot s d).1 j (insT t spot (kt spot) j)=s.1 j (insT t spot (kt spot) j):=fun d hd j hj=>by
      obtain⟨l1,_⟩:=k2 d hd
      have:=l1.rows j (insT t spot (kt spot) j)
      rw [this]
      split
      . rename_i z
        have tl:insT t spot (kt spot) j<kt spot:=by
         have:=st'.inc j spot z.2 (by omega)
         have e:insT t spot (kt spot) spot=kt spot:=by unfold insT;rw [if_neg (by omega),if_pos rfl]
         omega
        rw [zero _ tl,Int.mul_zero,Int.add_zero]
      . rfl
     have hs9:∀ j,j<=spot->(s.1 j (insT t spot (kt spot) j)).natAbs<L9:=fun j hj=>by
      unfold insT
      rcases Nat.lt_or_ge j spot with z | z
      . rw [if_pos z];exact h9 j z
      . have:j=spot:=by omega
        subst this
        rw [if_neg (by omega),if_pos rfl,row,K.head j hri hi]
        exact le9 (hηN j hri hi) (by omega)
     have hpos:∀ j,j<=spot->0<s.1 j (insT t spot (kt spot) j):=fun j hj=>by
      have:=st'.pos j (by omega)
      rw [hh (spot+1) (Nat.le_refl _) j hj] at this
      exact this
     refine⟨fun d hd=>⟨fun j hj1 hj2=>⟨st'.lt j hj2,by rw [hh d (by omega) j (by omega)];exact hpos j (by omega),by rw [hh d (by omega) j (by omega)];exact hs9 j (by omega)⟩,fun m hm=>?_⟩,.inr ⟨by omega,k1,?_,?_,fun j hj=>by rw [hh (spot+1) (Nat.le_refl _) j (by omega)];exact hs9 j (by omega)⟩⟩
     . rcases Nat.lt_or_ge m d with z | z
       . have:=k3 d (by omega) m z
         rw [this]
         exact BB.bo (k2 d (by omega)).2 hbd
       . have e:m=d:=by omega
         subst e
         exact BB.bo (k2 (m+1) (by omega)).2 hbd
     . have:=h.above K hri hi hηN ab (k2 (spot+1) (Nat.le_refl _)).1
       rw [show spot+1-r=(spot-r)+1 by omega,Nat.add_mul,Nat.one_mul]
       have e:η+1+tabC π b r+((spot-r)*(η+1)+(η+1))=η+1+tabC π b r+(spot-r)*(η+1)+η+1:=by omega
       rw [e]
       exact this
     . rw [show spot+1-r=(spot-r)+1 by omega,em]
       have:=(k2 (spot+1) (Nat.le_refl _)).2
       rw [show β+tabC π b r+(endC (η+1+tabC π b r) η r (spot-r)+(η+1+tabC π b r+(spot-r)*(η+1)+spot+3))=β+tabC π b r+endC (η+1+tabC π b r) η r (spot-r)+(η+1+tabC π b r+(spot-r)*(η+1)+spot+3) by omega]
       exact this
end Hb
namespace Hb
open Lat
theorem Ao7 {M:Mat}{k:Nat} (hp:∀ x,x<k->0<M x x):∀ m,k<=m->(∀ x,k<=x->x<m->M x x=0)->nzs m M=lsI k fun x=>M x x:=by
 have base:∀ j,j<=k->nzs j M=lsI j fun x=>M x x:=fun j=>by
  induction j with
  | zero=>intro _;rfl
  | succ j ih =>
    intro hj
    have:=hp j (by omega)
    rw [K5,if_neg (by omega),ih (by omega),Tz]
 intro m
 induction m with
 | zero=>intro h _;exact base 0 (Nat.zero_le _)▸(by rw [show k=0 by omega])
 | succ m ih =>
   intro h hz
   by_cases e:k=m+1
   . subst e;exact base _ (Nat.le_refl _)
   . rw [K5,if_pos (hz m (by omega) (by omega)),ih (by omega) fun x h1 h2=>hz x h1 (by omega)]
abbrev bigF:Nat:=67000000
def BF (n:Nat) (s:Mat × Mat):Prop:=Bits n n bigF s.1/\Bits n n bigF s.2
structure Ar7 (n w b0 D π b β D2 π2 b2 β2 C1 C2:Nat):Prop where
 dπ:D<=2 ^ π
 nb:n*D<=2 ^ b
 wb:w*D<=2 ^ b
 b0π:b0<=π
 πb:π<=b
 bβ:b<β
 nβ:n+b0<β
 st:∀ i,i<n->β+Em π b i<=big
 π9:π<=8990
 d2:∀ i,i<=w->fac i*(2 ^ b) ^ i<=D2
 dπ2:D2<=2 ^ π2
 wb2:w*D2<=2 ^ b2
 bπ2:b<=π2
 πb2:π2<=b2
 bβ2:b2<β2
 wβ2:w+b<β2
 st2:∀ i,i<w->β2+Em π2 b2 i<=big
 π92:π2<=8990
 c1:∀ r,r<=n->r<=w->Oq π b π r n<=C1
 c2:∀ r,r<=n->r<=w->Oq π b π2 r w<=C2
 f1:β+(min n w*(π+2)+1)*C1+(5*min n w+min n w*min n w+1)*(2*π+4)<=bigF
 f2:β2+(min n w*(π+2)+1)*C2+(5*min n w+min n w*min n w+1)*(π+2)<=bigF
section
variable {n w b0 D π b β D2 π2 b2 β2 C1 C2:Nat}{A:Mat}
def Inv2 (n:Nat) (s:Mat × Mat):Prop:=∀ a b,a<n->b<n->pT n s.2 s.1 a b=if a=b then 1 else 0
theorem Inv2.one (n:Nat):Inv2 n (Lat.one,Lat.one):=fun a b ha hb=>by
 show sumN (fun k=>Lat.one k a*Lat.one k b) n=_
 rw [Ba ha fun k _ hk=>by unfold Lat.one;rw [if_neg hk,Int.zero_mul]]
 unfold Lat.one
 rw [if_pos rfl,Int.one_mul]
theorem Inv2.go {n w:Nat}{T:Mat}{l:Mat × Mat}{R B:Mat} (h:Inv2 n l) (e:∀ a b,pT n B R a b=pT n l.2 (beside w T l.1) a b):Inv2 n (fun x a=>R x (w+a),B):=fun a b ha hb=>by
 have:=e a (w+b)
 rw [←h a b ha hb]
 refine Eq.trans this ?_
 exact Ak fun k _=>by rw [beside_hi]
def UW (n w D π β π2 β2 C1 C2:Nat) (A:Mat) (m:Nat) (M:Mat) (l r:Mat × Mat):Prop:=∃ (k:Nat) (e:Int) (kl kr:Nat->Nat) (hl hr:Nat->Int),Qo n w k D π m e A M l.1 l.2 r.1 r.2 kl kr hl hr/\m<=min n w*(π+2)/\e<=D/\(∀ j,k<=j->j<n->hl j<=2 ^ π)/\(∀ j,k<=j->j<w->hr j<=2 ^ π2) ∧
 Bits n n (β+(min n w*(π+2)-m)*C1) l.1/\Bits n n (β+(min n w*(π+2)-m)*C1) l.2/\Bits w w (β2+(min n w*(π+2)-m)*C2) r.1/\Bits w w (β2+(min n w*(π+2)-m)*C2) r.2/\Inv2 n l/\Inv2 w r
theorem A29 (i j:Nat):(one i j).natAbs<=1:=by
 unfold one
 split<;>decide
theorem Wx {n w W b:Nat}{T P:Mat} (hT:∀ i c,i<n->c<w->(T i c).natAbs<=2 ^ b) (hP:∀ i c,i<n->c<W->(P i c).natAbs<=2 ^ b):∀ i c,i<n->c<w+W->(beside w T P i c).natAbs<=2 ^ b:=fun i c hi hc=>by
 unfold beside
 split
 . rename_i h;exact hT i c hi h
 . exact hP i (c-w) hi (by omega)
theorem Qi {n w W b:Nat}{T P:Mat} (hT:∀ i c,i<n->c<w->(T i c).natAbs<2 ^ b) (hP:Bits n W b P):Bits n (w+W) b (beside w T P):=fun i c hi hc=>by
 unfold beside
 split
 . rename_i h;exact hT i c hi h
 . exact hP i (c-w) hi (by omega)
theorem Gr {n w W b:Nat}{R:Mat} (h:Bits n (w+W) b R):Bits n W b fun x a=>R x (w+a):=fun i c hi hc=>h i (w+c) hi (by omega)
theorem Hq {n W b b':Nat}{R:Mat} (h:Bits n W b R) (hb:b<=b'):Bits n W b' R:=fun i c hi hc=>Nat.lt_of_lt_of_le (h i c hi hc) (Nat.pow_le_pow_right (by decide) hb)
theorem A41 {e:Int}{D π:Nat} (h:e<=D) (hD:D<=2 ^ π) (h0:0<e):e.natAbs.log2<=π/\e.natAbs<=2 ^ π:=by
 have h1:e.natAbs<=2 ^ π:=by
  have:e.natAbs<=D:=by omega
  exact Nat.le_trans this hD
 refine⟨?_,h1⟩
 have:e.natAbs.log2<π+1:=(Nat.log2_lt (by omega)).mpr (Nat.lt_of_le_of_lt h1 (Nat.pow_lt_pow_right (by decide) (by omega)))
 omega
theorem Aq3 (p:Ar7 n w b0 D π b β D2 π2 b2 β2 C1 C2) (hA:∀ i c,i<n->c<w->(A i c).natAbs<=2 ^ b0) (dets:Dets n (fun c=>c<w+n) (beside w A one) D):Qp n w A (one,one) (one,one) (fun M l r=>∃ m,UW n w D π β π2 β2 C1 C2 A m M l r):=by
 have o0:∀ b i j,(one i j).natAbs<=2 ^ b:=fun b i j=>Nat.le_trans (A29 i j) Nat.one_le_two_pow
 have hM:=Wx (W:=n) hA fun i c _ _=>o0 b0 i c
 refine⟨JF n w (beside w A one),Px hM dets p.dπ p.nb p.b0π (Nat.le_trans p.b0π p.πb) p.bβ p.nβ p.st p.π9 (On n w A),fun t=>C6.start _ _ _ _ _ _ t,JF.lt,fun t1 s1 h1=>?_⟩
 have hR:∀ i c,i<w->c<n->((fun i j=>s1.1 j i) i c:Int).natAbs<=2 ^ b:=fun i c hi hc=>Nat.le_trans (h1.rowD dets (Nat.le_refl _) (fun c h=>h) hc (show i<w+n by omega)) p.nb
 have hM2:=Wx (W:=w) hR fun i c _ _=>o0 b i c
 have dets2:Dets w (fun c=>c<n+w) (beside n (tr s1.1) one) D2:=c0 hM2 p.d2
 refine⟨JF w n (beside n (fun i j=>s1.1 j i) one),Px hM2 dets2 p.dπ2 p.wb2 p.bπ2 (Nat.le_trans p.bπ2 p.πb2) p.bβ2 p.wβ2 p.st2 p.π92 (On w n _),fun t=>C6.start _ _ _ _ _ _ t,JF.lt,fun t2 s2 h2=>?_⟩
 have bb1:=Mn hM dets (fun k a=>rfl) h1 (Nat.le_refl _) p.nb (Nat.le_trans p.b0π p.πb) p.bβ p.nβ
 have bb2:=Mn hM2 dets2 (fun k a=>rfl) h2 (Nat.le_refl _) p.wb2 (Nat.le_trans p.bπ2 p.πb2) p.bβ2 p.wβ2
 obtain⟨k,e,kn,kw,he,wk,hl,hr⟩:=Z8 (L:=π) dets dets2 h1 h2
 have up:∀{x:Int}{a q:Nat},x<=a->a<=2 ^ q->x<=2 ^ q:=fun {x a q} h1 h2=>by
  exact Int.le_trans h1 (by exact_mod_cast h2)
 have km:k*(π+2)<=min n w*(π+2):=Nat.mul_le_mul_right _ (by omega)
 exact ⟨k*(π+2),k,e,_,_,_,_,wk,km,he,fun j _ h=>up (hl j h) p.dπ,fun j _ h=>up (hr j h) p.dπ2,Hq (Gr bb1.1) (Nat.le_add_right _ _),Hq bb1.2.1 (Nat.le_add_right _ _),Hq (Gr bb2.1) (Nat.le_add_right _ _),Hq bb2.2.1 (Nat.le_add_right _ _),(Inv2.one n).go h1.good.pt,(Inv2.one w).go h2.good.pt⟩
theorem JL.done {n w r π b η β c:Nat}{M B0:Mat}{kt:Nat->Nat}{hd:Nat->Int}{t:Nat->Nat}{s:Mat × Mat} (rn:r<=n) (h:JL n w r M B0 kt hd π b η β n t s) (hc:Oq π b η r n<=c):(∃ G,Bp n (w+n) w r n G M B0 kt hd t s.1 s.2)/\Bits n (w+n) (β+c) s.1/\Bits n n (β+c) s.2:=by
 have e:Oq π b η r n=tabC π b r+endC (η+1+tabC π b r) η r (n-r):=rfl
 rcases h with ⟨h0,h,bb⟩|⟨h0,h,_,bb,_⟩
 . have en:n=r:=by omega
   subst en
   have:=bb.mono (show β+tabC π b n<=β+c by omega)
   exact ⟨⟨_,h⟩,this.1,this.2.1⟩
 . have:=bb.mono (show _<=β+c by omega)
   exact ⟨⟨_,h⟩,this.1,this.2.1⟩
theorem Ap4 (p:Ar7 n w b0 D π b β D2 π2 b2 β2 C1 C2) {m:Nat}{M:Mat}{l r:Mat × Mat} (h:UW n w D π β π2 β2 C1 C2 A m M l r) (ns:¬Straight n w M):Qp n w M l r (fun M' l' r'=>∃ m',m'<m/\UW n w D π β π2 β2 C1 C2 A m' M' l' r'):=by
 obtain⟨k,e,kl,kr,hl,hr,wk,hm,he,ηl,ηr,q1,q2,q3,q4,v1,v2⟩:=h
 obtain⟨lg,le⟩:=A41 he p.dπ wk.e0
 have rn:=wk.going.sq.rn
 have rw':=wk.going.sq.rw
 have c1:=p.c1 k rn rw'
 have c2:=p.c2 k rn rw'
 have f1:=p.f1
 have f2:=p.f2
 have hbF:bigF<=big:=by decide
 have sC:∀ C,(min n w*(π+2)-m)*C+C<=(min n w*(π+2)+1)*C:=fun C=>by
  rw [Nat.add_mul,Nat.one_mul]
  exact Nat.add_le_add_right (Nat.mul_le_mul_right _ (Nat.sub_le _ _)) _
 have s1:=sC C1
 have s2:=sC C2
 have b1:β+(min n w*(π+2)-m)*C1+Oq π b π k n<=big:=by omega
 have b2':β2+(min n w*(π+2)-m)*C2+Oq π b π2 k w<=big:=by omega
 have β1:π+1<=β+(min n w*(π+2)-m)*C1:=by have:=p.πb;have:=p.bβ;omega
 have β1':π2+1<=β2+(min n w*(π+2)-m)*C2:=by have:=p.πb2;have:=p.bβ2;omega
 have tb:∀{n' w':Nat}{T:Mat}{x:Nat},π+1<=x->Gu n' w' k D e T->∀ i c,i<n'->c<w'->(T i c).natAbs<2 ^ x:=fun {n' w' T x} hx g i c hi hc=>by
  obtain⟨g1,g2⟩:=g.le i c hi hc
  have:(T i c).natAbs<=2 ^ π:=by omega
  exact Nat.lt_of_le_of_lt this (Nat.pow_lt_pow_right (by decide) (by omega))
 have bl:=Qi (tb β1 wk.going) q1
 refine⟨JL n w k (beside w M l.1) l.2 kl hl π b π (β+(min n w*(π+2)-m)*C1),Po wk.going wk.e0 wk.kl wk.dl ηl β1 b1 p.dπ le p.nb p.πb p.π9 p.π9,fun t=>.inl ⟨Nat.zero_le _,Bp.start _ _ _ _ _ _ _ _ _ _,wk.kl.bits ηl bl q2 β1⟩,JL.lt,fun t1 u1 j1=>?_⟩
 obtain⟨⟨G1,K1⟩,z1,z2⟩:=JL.done rn j1 c1
 obtain⟨d1,d2,d3,d4⟩:=Me wk.e0 wk.going wk.kl K1 wk.told
 have ker:Ker w (n+w) n k kr hr (beside n (fun i j=>u1.1 j i) r.1):=wk.kr.table fun i c h1 h2 h3=>d2.sq.row0 i c h1 h2 h3
 have dr:Dual w n (beside n (fun i j=>u1.1 j i) r.1) r.2:=D5 wk.dr
 have hπ2:π+1<=β2+(min n w*(π+2)-m)*C2:=by have:=p.πb;have:=p.bπ2;omega
 have br:=Qi (tb hπ2 d2) q3
 refine⟨JL w n k (beside n (fun i j=>u1.1 j i) r.1) r.2 kr hr π b π2 (β2+(min n w*(π+2)-m)*C2),Po d2 wk.e0 ker dr ηr β1' b2' p.dπ le p.wb p.πb p.π9 p.π92,fun t=>.inl ⟨Nat.zero_le _,Bp.start _ _ _ _ _ _ _ _ _ _,ker.bits ηr br q4 β1'⟩,JL.lt,fun t2 u2 j2=>?_⟩
 obtain⟨⟨G2,K2⟩,y1,y2⟩:=JL.done rw' j2 c2
 obtain⟨_,nx⟩:=wk.next lg K1 K2
 obtain⟨m0,wk'⟩:=nx ns
 have en:∀ C,(min n w*(π+2)-(m-1))*C=(min n w*(π+2)-m)*C+C:=fun C=>by
  rw [show min n w*(π+2)-(m-1)=min n w*(π+2)-m+1 by omega,Nat.add_mul,Nat.one_mul]
 refine⟨m-1,by omega,k,e,kl,kr,hl,hr,wk',by omega,he,ηl,ηr,?_,?_,?_,?_,v1.go K1.st.good.pt,v2.go K2.st.good.pt⟩
 . rw [en,←Nat.add_assoc];exact Gr z1
 . rw [en,←Nat.add_assoc];exact z2
 . rw [en,←Nat.add_assoc];exact Gr y1
 . rw [en,←Nat.add_assoc];exact y2
def YS (n w D π β π2 β2 C1 C2:Nat) (A:Mat) (k d:Nat) (f:Nat->Int) (l r:Mat × Mat):Prop:=DiagAt n w k D A l.1 l.2 r.1 r.2 f/\d<=5*k+k*k/\BB n n (fun _=>False) 0 (β+(min n w*(π+2))*C1+d*(2*π+4)) l/\BB w w (fun _=>False) 0 (β2+(min n w*(π+2))*C2+d*(π+2)) r/\Inv2 n l/\Inv2 w r
theorem Sl (p:Ar7 n w b0 D π b β D2 π2 b2 β2 C1 C2) (hA:∀ i c,i<n->c<w->(A i c).natAbs<=2 ^ b0) (dets:Dets n (fun c=>c<w+n) (beside w A one) D):Fr n w A (fun k f l r=>DiagAt n w k D A l.1 l.2 r.1 r.2 f/\Inv2 n l/\Inv2 w r/\BF n l/\BF w r):=by
 refine⟨UW n w D π β π2 β2 C1 C2 A,YS n w D π β π2 β2 C1 C2 A,Aq3 p hA dets,fun m M l r h ns=>Ap4 p h ns,?_,?_,?_⟩
 . rintro m M l r ⟨k,e,kl,kr,hl,hr,wk,hm,he,ηl,ηr,q1,q2,q3,q4,v1,v2⟩ hS
   have dg:=wk.diag hS
   have sC:∀ C,(min n w*(π+2)-m)*C<=(min n w*(π+2))*C:=fun C=>Nat.mul_le_mul_right _ (Nat.sub_le _ _)
   have s1:=sC C1
   have s2:=sC C2
   refine⟨k,fun x=>M x x,Ao7 dg.pos _ (by have:=dg.mn;have:=dg.mw;omega) fun x h1 h2=>dg.zero x h1 (by omega) (by omega),dg.mn,dg.mw,dg,Nat.zero_le _,⟨Hq q1 (by omega),Hq q2 (by omega),fun r c _ z=>z.elim⟩,⟨Hq q3 (by omega),Hq q4 (by omega),fun r c _ z=>z.elim⟩,v1,v2⟩
 . rintro k d i j f l r ⟨dg,hd,bl,br,v1,v2⟩ hdk hij hj
   have mn:=dg.mn
   have mw:=dg.mw
   have lf:∀ x,x<k->(f x).natAbs<=2 ^ π:=fun x hx=>by
    have h1:=dg.le hx
    have h2:=dg.pos x hx
    exact Nat.le_trans (by omega) p.dπ
   have kk:5*k+k*k<=5*min n w+min n w*min n w:=by
    have h:k<=min n w:=by omega
    have:=Nat.mul_le_mul h h
    omega
   have f1:=p.f1
   have f2:=p.f2
   have hbF:bigF<=big:=by decide
   have dm:∀ X,d*X+X<=(5*min n w+min n w*min n w+1)*X:=fun X=>by
    have:=Nat.mul_le_mul_right X (show d+1<=5*min n w+min n w*min n w+1 by omega)
    rw [Nat.add_mul,Nat.one_mul] at this
    exact this
   have d1:=dm (2*π+4)
   have d2:=dm (π+2)
   have cm:∀ C,(min n w*(π+2))*C<=(min n w*(π+2)+1)*C:=fun C=>Nat.mul_le_mul_right _ (Nat.le_succ _)
   have e1:=cm C1
   have e2:=cm C2
   have b1:BB n n (fun _=>False) 0 (β+min n w*(π+2)*C1+d*(2*π+4)+(1+1)) (addS i j 1 l):=bl.add (by omega) (by omega) (k:=1) (c:=1) (by decide)
   have lt1:∀{x:Nat},x<=2 ^ π->x<2 ^ (π+1):=fun h=>Nat.lt_of_le_of_lt h (Nat.pow_lt_pow_right (by decide) (by omega))
   refine⟨⟨⟨dg.pos i (by omega),le9 (lf i (by omega)) (by have:=p.π9;omega)⟩,⟨by have:=dg.pos j hj;omega,le9 (lf j hj) (by have:=p.π9;omega)⟩,⟨BB.bo bl (by omega),BB.bo b1 (by omega)⟩,BB.bo br (by omega)⟩,fun hdv=>⟨dg,by omega,bl.mono (by rw [Nat.add_mul];omega),br.mono (by rw [Nat.add_mul];omega),v1,v2⟩,fun g a b' sh=>⟨?_,by omega,?_,?_,?_,?_⟩⟩
   . have:=dg.share hij hj sh
     unfold shL shR shF addS blendS
     simp only [Int.neg_neg]
     exact this
   . have lb:(b'*f j / g).natAbs<2 ^ (2*π+1):=by
      refine Nat.lt_of_le_of_lt (Int.natAbs_ediv_le_natAbs _ _) ?_
      rw [Int.natAbs_mul]
      refine Nat.lt_of_le_of_lt (Nat.mul_le_mul (Nat.le_trans sh.lb (lf i (by omega))) (lf j hj)) ?_
      rw [←Nat.pow_add]
      exact Nat.pow_lt_pow_right (by decide) (by omega)
     have b2':=b1.add (p:=j) (q:=i) (by omega) (by omega) (k:=-(b'*f j / g)) (c:=2*π+1) (by rw [Int.natAbs_neg];exact lb)
     refine b2'.mono ?_
     rw [Nat.add_mul,Nat.one_mul]
     omega
   . have:=br.blend (p:=i) (q:=j) (by omega) (by omega) (by omega) (x:=a) (y:=b') (z:=-(f j / g)) (u:=f i / g) (c:=π+1) (lt1 (Nat.le_trans sh.la (lf j hj))) (lt1 (Nat.le_trans sh.lb (lf i (by omega)))) (lt1 (by rw [Int.natAbs_neg];exact Nat.le_trans (Int.natAbs_ediv_le_natAbs _ _) (lf j hj))) (lt1 (Nat.le_trans (Int.natAbs_ediv_le_natAbs _ _) (lf i (by omega))))
     refine this.mono ?_
     rw [Nat.add_mul,Nat.one_mul]
     omega
   . intro x y hx hy
     rw [←v1 x y hx hy]
     exact (Ac2 _ _ (show j<n by omega) (show i<n by omega) (by omega) _ x y).trans (Ac2 _ _ (show i<n by omega) (show j<n by omega) (by omega) _ x y)
   . intro x y hx hy
     rw [←v2 x y hx hy]
     exact Zo _ _ (show i<w by omega) (show j<w by omega) (by omega) (sh.blend (π:=π) (dg.pos i (by omega)) (lf i (by omega)) (lf j hj)).one x y
 . rintro k d f l r ⟨dg,hd,bl,br,v1,v2⟩
   have h:k<=min n w:=by have:=dg.mn;have:=dg.mw;omega
   have kk:=Nat.mul_le_mul h h
   have f1:=p.f1
   have f2:=p.f2
   have hbF:bigF<=big:=by decide
   have dm:∀ X,d*X<=(5*min n w+min n w*min n w+1)*X:=fun X=>Nat.mul_le_mul_right X (by omega)
   have cm:∀ C,(min n w*(π+2))*C<=(min n w*(π+2)+1)*C:=fun C=>Nat.mul_le_mul_right _ (Nat.le_succ _)
   have d1:=dm (2*π+4)
   have d2:=dm (π+2)
   have e1:=cm C1
   have e2:=cm C2
   exact ⟨dg,v1,v2,⟨(bl.mono (show _<=bigF by omega)).1,(bl.mono (show _<=bigF by omega)).2.1⟩,⟨(br.mono (show _<=bigF by omega)).1,(br.mono (show _<=bigF by omega)).2.1⟩⟩
end
end Hb
namespace Hb
open Lat
def Y9 (n:Nat) (f:Nat->Bool):Bool:=(List.range n).all f
theorem Ex {n:Nat}{f:Nat->Bool} (h:Y9 n f=true):∀ i,i<n->f i=true:=fun i hi=>List.all_eq_true.mp h i (List.mem_range.mpr hi)
def Aw4 (n w b0 π b β π2 b2 β2 C1 C2:Nat):Bool :=
 (decide (n*2 ^ π<=2 ^ b/\w*2 ^ π<=2 ^ b/\b0<=π/\π<=b/\b<β/\n+b0<β)&&(Y9 n (fun i=>decide (β+Em π b i<=big))&&(decide (π<=8990) &&
 (Y9 (w+1) (fun i=>decide (fac i*(2 ^ b) ^ i<=2 ^ π2))&&(decide (w*2 ^ π2<=2 ^ b2/\b<=π2/\π2<=b2/\b2<β2/\w+b<β2)&&(Y9 w (fun i=>decide (β2+Em π2 b2 i<=big))&&(decide (π2<=8990) &&
 (Y9 (min n w+1) (fun r=>decide (Oq π b π r n<=C1/\Oq π b π2 r w<=C2)) &&
 decide (β+(min n w*(π+2)+1)*C1+(5*min n w+min n w*min n w+1)*(2*π+4)<=bigF/\β2+(min n w*(π+2)+1)*C2+(5*min n w+min n w*min n w+1)*(π+2)<=bigF)))))))))
theorem Zn {n w b0 π b β π2 b2 β2 C1 C2:Nat} (h:Aw4 n w b0 π b β π2 b2 β2 C1 C2=true):Ar7 n w b0 (2 ^ π) π b β (2 ^ π2) π2 b2 β2 C1 C2:=by
 unfold Aw4 at h
 simp only [Bool.and_eq_true,decide_eq_true_eq] at h
 obtain⟨⟨h2,h3,h4,h5,h6,h7⟩,h8,h9,k1,⟨k2,k3,k4,k5,k6⟩,k7,k8,k9,m1,m2⟩:=h
 exact ⟨Nat.le_refl _,h2,h3,h4,h5,h6,h7,fun i hi=>of_decide_eq_true (Ex h8 i hi),h9,fun i hi=>of_decide_eq_true (Ex k1 i (by omega)),Nat.le_refl _,k2,k3,k4,k5,k6,fun i hi=>of_decide_eq_true (Ex k7 i hi),k8,
  fun r hr hw=>(of_decide_eq_true (Ex k9 r (by omega)):_/\_).1,fun r hr hw=>(of_decide_eq_true (Ex k9 r (by omega)):_/\_).2,m1,m2⟩
end Hb
namespace Lat
open Hb
theorem Zl:∀ (k:Nat) (s:Nat->Nat),(∀ x y,x<=k->y<=k->s x=s y->x=y)->∃ x,x<=k/\k<=s x
 | 0,s,_=>⟨0,Nat.le_refl _,Nat.zero_le _⟩
 | k+1,s,h=>by
   apply Classical.byContradiction
   intro no
   have lt:∀ x,x<=k+1->s x<=k:=fun x hx=>by
    rcases Nat.lt_or_ge k (s x) with z | z
    . exact absurd ⟨x,hx,z⟩ no
    . exact z
   obtain⟨x,hx,hk⟩:=Zl k (fun x=>if s x=k then s (k+1) else s x) fun x y hx hy e=>by
    by_cases h1:s x=k
    . by_cases h2:s y=k
      . exact h x y (by omega) (by omega) (h1.trans h2.symm)
      . rw [if_pos h1,if_neg h2] at e
        have:=h (k+1) y (Nat.le_refl _) (by omega) e
        omega
    . by_cases h2:s y=k
      . rw [if_neg h1,if_pos h2] at e
        have:=h x (k+1) (by omega) (Nat.le_refl _) e
        omega
      . rw [if_neg h1,if_neg h2] at e
        exact h x y (by omega) (by omega) e
   have l1:=lt x (by omega)
   have l2:=lt (k+1) (Nat.le_refl _)
   by_cases h1:s x=k
   . rw [if_pos h1] at hk
     have:=h x (k+1) (by omega) (Nat.le_refl _) (by omega)
     omega
   . rw [if_neg h1] at hk
     omega
theorem Zu {f:Nat->Int}{m:Nat} (ch:∀ a b,a<=b->b<m->f a∣f b):∀ (k:Nat) (s:Nat->Nat),(∀ x y,x<k->y<k->s x=s y->x=y)->(∀ x,x<k->s x<m)->prodN f k∣prodN (fun x=>f (s x)) k
 | 0,_,_,_=>Int.dvd_refl _
 | k+1,s,h,hm=>by
   obtain⟨x0,hx,hk⟩:=Zl k s fun x y hx hy e=>h x y (by omega) (by omega) e
   have hd:f k∣f (s x0):=ch _ _ hk (hm x0 (by omega))
   have ih:=Zu ch k (fun x=>if x=x0 then s k else s x) (fun x y hx hy e=>by
    by_cases h1:x=x0
    . by_cases h2:y=x0
      . omega
      . rw [if_pos h1,if_neg h2] at e
        have:=h k y (by omega) (by omega) e
        omega
    . by_cases h2:y=x0
      . rw [if_neg h1,if_pos h2] at e
        have:=h x k (by omega) (by omega) e
        omega
      . rw [if_neg h1,if_neg h2] at e
        exact h x y (by omega) (by omega) e) (fun x hx=>by
    split
    . exact hm k (by omega)
    . exact hm x (by omega))
   show prodN f k*f k∣prodN (fun x=>f (s x)) k*f (s k)
   have e:prodN (fun x=>f (s x)) k*f (s k)=prodN (fun x=>f (if x=x0 then s k else s x)) k*f (s x0):=by
    by_cases z:x0=k
    . subst z
      congr 1
      exact prodN_congr' fun x hx=>by rw [if_neg (by omega)]
    . have:=Kw (f:=fun x=>f (s x)) (f':=fun x=>f (if x=x0 then s k else s x)) (i:=x0) (m:=k) (by omega) fun x _ hne=>by rw [if_neg hne]
      simp only [if_pos] at this
      exact this.symm
   rw [e]
   exact Int.mul_dvd_mul ih hd
where
 prodN_congr' {f g:Nat->Int}:∀{n:Nat},(∀ x,x<n->f x=g x)->prodN f n=prodN g n
  | 0,_=>rfl
  | n+1,h=>by
    show prodN f n*f n=prodN g n*g n
    rw [prodN_congr' fun x hx=>h x (by omega),h n (by omega)]
theorem To {f g:Nat->Int}:∀{n:Nat},(∀ x,x<n->f x=g x)->prodN f n=prodN g n
 | 0,_=>rfl
 | n+1,h=>by
   show prodN f n*f n=prodN g n*g n
   rw [To fun x hx=>h x (by omega),h n (by omega)]
theorem Ze {d:Int}{g:Nat->Int}:∀{n:Nat},(∀ k,k<n->d∣g k)->d∣sumN g n
 | 0,_=>Int.dvd_zero d
 | n+1,h=>Int.dvd_add (Ze fun k hk=>h k (by omega)) (h n (by omega))
def mixS (U:Mat) (f:Nat->Int) (W:Mat) (m:Nat) (s:Nat->Nat) (j:Nat):Mat:=fun x y=>if x<j then W (s x) y else sumN (fun u=>(U x u*f u)*W u y) m
theorem Aa1 {m k:Nat}{f:Nat->Int}{U W:Mat}{g:Int} (hg:∀ s:Nat->Nat,(∀ x y,x<k->y<k->s x=s y->x=y)->(∀ x,x<k->s x<m)->g∣prodN (fun x=>f (s x)) k) :
 ∀ (d j:Nat),j+d=k->∀ s:Nat->Nat,(∀ x,x<j->s x<m)->g∣prodN (fun x=>f (s x)) j*det k (mixS U f W m s j)
 | 0,j,e,s,hs=>by
   have e':j=k:=e
   subst e'
   by_cases h:∀ x y,x<j->y<j->s x=s y->x=y
   . exact Int.dvd_mul_of_dvd_left (hg s h hs)
   . have:∃ x y,x<j/\y<j/\s x=s y/\x≠y:=by
      apply Classical.byContradiction
      intro no
      exact h fun x y hx hy e=>Classical.byContradiction fun ne=>no ⟨x,y,hx,hy,e,ne⟩
     obtain⟨x,y,hx,hy,e,ne⟩:=this
     rw [C4 hx hy ne fun c _=>by unfold mixS;rw [if_pos hx,if_pos hy,e],Int.mul_zero]
     exact Int.dvd_zero _
 | d+1,j,e,s,hs=>by
   have hj:j<k:=by omega
   have e1:mixS U f W m s j=setR (mixS U f W m s j) j fun c=>sumN (fun u=>(U j u*f u)*W u c) m:=by
    funext x y
    unfold setR
    by_cases z:x=j
    . rw [if_pos z];unfold mixS;rw [if_neg (by omega),z]
    . rw [if_neg z]
   rw [e1,Uk _ hj,←Au]
   refine Ze fun u hu=>?_
   have ih:=Aa1 (U:=U) (W:=W) hg d (j+1) (by omega) (fun x=>if x=j then u else s x) fun x hx=>by
    split
    . exact hu
    . exact hs x (by omega)
   have e2:det k (setR (mixS U f W m s j) j (W u))=det k (mixS U f W m (fun x=>if x=j then u else s x) (j+1)):=Bc fun x c hx hc=>by
    unfold setR mixS
    by_cases z:x=j
    . rw [if_pos z,if_pos (by omega)];show W u c=W (if x=j then u else s x) c;rw [if_pos z]
    . rw [if_neg z]
      by_cases z2:x<j
      . rw [if_pos z2,if_pos (by omega)];show W (s x) c=W (if x=j then u else s x) c;rw [if_neg z]
      . rw [if_neg z2,if_neg (by omega)]
   have e3:prodN (fun x=>f (if x=j then u else s x)) (j+1)=prodN (fun x=>f (s x)) j*f u:=by
    show prodN (fun x=>f (if x=j then u else s x)) j*f (if j=j then u else s j)=_
    rw [if_pos rfl,To fun x hx=>by rw [if_neg (show x≠j by omega)]]
   rw [e3] at ih
   rw [e2]
   obtain⟨c,hc⟩:=ih
   refine⟨U j u*c,?_⟩
   have:prodN (fun x=>f (s x)) j*(U j u*f u*det k (mixS U f W m (fun x=>if x=j then u else s x) (j+1)))=U j u*(prodN (fun x=>f (s x)) j*f u*det k (mixS U f W m (fun x=>if x=j then u else s x) (j+1))):=by
    simp only [Int.mul_assoc,Int.mul_left_comm,Int.mul_comm]
   rw [this,hc]
   simp only [Int.mul_left_comm]
theorem x8 {n:Nat}{P PB P':Mat} (h:∀ a b,a<n->b<n->pT n PB P a b=if a=b then 1 else 0) (x:Nat):∀ c,c<n->P' x c=sumN (fun u=>sumN (fun a=>P' x a*PB u a) n*P u c) n:=fun c hc=>by
 have e:sumN (fun u=>sumN (fun a=>P' x a*PB u a) n*P u c) n=sumN (fun a=>P' x a*pT n PB P a c) n:=by
  rw [Ak fun u _=>(Kn _ _ _).symm,Eb]
  refine Ak fun a _=>?_
  show _=P' x a*sumN (fun k=>PB k a*P k c) n
  rw [←Au]
  exact Ak fun k _=>by rw [Int.mul_assoc]
 rw [e,Ba hc fun a ha ne=>by rw [h a c ha hc,if_neg ne,Int.mul_zero],h c c hc hc,if_pos rfl,Int.mul_one]
theorem DiagAt.dvd {n w m m' E E':Nat}{A P PB Q QB P' PB' Q' QB':Mat}{f f':Nat->Int} (h:DiagAt n w m E A P PB Q QB f) (hl:∀ a b,a<n->b<n->pT n PB P a b=if a=b then 1 else 0) (hr:∀ a b,a<w->b<w->pT w QB Q a b=if a=b then 1 else 0) (h':DiagAt n w m' E' A P' PB' Q' QB' f')
 {k:Nat} (hk:k<=m') {g:Int} (hg:∀ s:Nat->Nat,(∀ x y,x<k->y<k->s x=s y->x=y)->(∀ x,x<k->s x<m)->g∣prodN (fun x=>f (s x)) k):g∣prodN f' k:=by
 have mn:=h.mn
 have mw:=h.mw
 have mn':=h'.mn
 have mw':=h'.mw
 have U:=fun x u=>sumN (fun a=>P' x a*PB u a) n
 have key:=Aa1 (U:=fun x u=>sumN (fun a=>P' x a*PB u a) n) (W:=fun u y=>sumN (fun b=>Q' y b*QB u b) w) hg k 0 (by omega) (fun _=>0) fun x hx=>by omega
 rw [show prodN (fun x=>f ((fun _=>0) x)) 0=1 from rfl,Int.one_mul] at key
 have e:det k (mixS (fun x u=>sumN (fun a=>P' x a*PB u a) n) f (fun u y=>sumN (fun b=>Q' y b*QB u b) w) m (fun _=>0) 0)=prodN f' k:=by
  have e1:det k (mixS (fun x u=>sumN (fun a=>P' x a*PB u a) n) f (fun u y=>sumN (fun b=>Q' y b*QB u b) w) m (fun _=>0) 0)=det k fun x y=>if x=y then f' x else 0:=Bc fun x y hx hy=>by
   rw [←h'.diag x y (by omega) (by omega)]
   unfold mixS
   rw [if_neg (by omega)]
   rw [Qj (p':=fun c=>sumN (fun u=>sumN (fun a=>P' x a*PB u a) n*P u c) n) (q':=fun c=>sumN (fun v=>sumN (fun b=>Q' y b*QB v b) w*Q v c) w) (fun a ha=>x8 hl x a ha) (fun b hb=>x8 hr y b hb),Ut]
   have in1:∀ u,u<n->bil n w A (P u) (fun c=>sumN (fun v=>sumN (fun b=>Q' y b*QB v b) w*Q v c) w)=if u<m then f u*sumN (fun b=>Q' y b*QB u b) w else 0:=fun u hu=>by
    rw [Ij,Ut]
    have e2:∀ v,v<w->sumN (fun b=>Q' y b*QB v b) w*bil w n (tr A) (Q v) (P u)=if v=u then f u*sumN (fun b=>Q' y b*QB u b) w else 0:=fun v hv=>by
     rw [←Ij,h.diag u v hu hv]
     by_cases z:v=u
     . subst z;rw [if_pos rfl,if_pos rfl,Int.mul_comm]
     . rw [if_neg fun q=>z q.symm,if_neg z,Int.mul_zero]
    rw [Ak e2]
    by_cases z:u<w
    . rw [Ba z fun v _ ne=>if_neg ne,if_pos rfl]
      by_cases z2:u<m
      . rw [if_pos z2]
      . rw [if_neg z2,h.zero u (by omega) hu z,Int.zero_mul]
    . rw [Ay fun v hv=>if_neg (by omega),if_neg (by omega)]
   have in2:sumN (fun u=>sumN (fun a=>P' x a*PB u a) n*bil n w A (P u) fun c=>sumN (fun v=>sumN (fun b=>Q' y b*QB v b) w*Q v c) w) n=sumN (fun u=>sumN (fun a=>P' x a*PB u a) n*if u<m then f u*sumN (fun b=>Q' y b*QB u b) w else 0) n:=Ak fun u hu=>by rw [in1 u hu]
   rw [in2]
   have e3:sumN (fun u=>sumN (fun a=>P' x a*PB u a) n*if u<m then f u*sumN (fun b=>Q' y b*QB u b) w else 0) n=sumN (fun u=>sumN (fun a=>P' x a*PB u a) n*if u<m then f u*sumN (fun b=>Q' y b*QB u b) w else 0) m:=S5 mn fun u hu _=>by rw [if_neg (by omega),Int.mul_zero]
   rw [e3]
   exact Ak fun u hu=>by rw [if_pos hu,Int.mul_assoc]
  rw [e1,P4 fun x y hx hy=>if_neg (by omega)]
  exact To fun x _=>if_pos rfl
 rw [e] at key
 exact key
theorem DiagAt.uniq {n w m m' E E':Nat}{A P PB Q QB P' PB' Q' QB':Mat}{f f':Nat->Int} (h:DiagAt n w m E A P PB Q QB f) (hl:∀ a b,a<n->b<n->pT n PB P a b=if a=b then 1 else 0) (hr:∀ a b,a<w->b<w->pT w QB Q a b=if a=b then 1 else 0) (hc:ChainTo m m f)
 (h':DiagAt n w m' E' A P' PB' Q' QB' f') (hl':∀ a b,a<n->b<n->pT n PB' P' a b=if a=b then 1 else 0) (hr':∀ a b,a<w->b<w->pT w QB' Q' a b=if a=b then 1 else 0) (hc':ChainTo m' m' f'):m=m'/\∀ x,x<m->f x=f' x:=by
 have ge:∀{m m' E E':Nat}{P PB Q QB P' PB' Q' QB':Mat}{f f':Nat->Int},DiagAt n w m E A P PB Q QB f->(∀ a b,a<n->b<n->pT n PB P a b=if a=b then 1 else 0)->(∀ a b,a<w->b<w->pT w QB Q a b=if a=b then 1 else 0)->DiagAt n w m' E' A P' PB' Q' QB' f'->m'<=m:=fun {m m' E E' P PB Q QB P' PB' Q' QB' f f'} h hl hr h'=>by
  rcases Nat.lt_or_ge m m' with z | z
  . have:=h.dvd hl hr h' (k:=m+1) z (g:=0) fun s hi hs=>by
     obtain⟨x,hx,hk⟩:=Zl m s fun x y hx hy e=>hi x y (by omega) (by omega) e
     have:=hs x (by omega)
     omega
    have p:0<prodN f' (m+1):=Bf fun j hj=>h'.pos j (by omega)
    have:=Int.zero_dvd.mp this
    omega
  . exact z
 have e:m=m':=Nat.le_antisymm (ge h' hl' hr' h) (ge h hl hr h')
 subst e
 have dv:∀{E E':Nat}{P PB Q QB P' PB' Q' QB':Mat}{f f':Nat->Int},DiagAt n w m E A P PB Q QB f->(∀ a b,a<n->b<n->pT n PB P a b=if a=b then 1 else 0)->(∀ a b,a<w->b<w->pT w QB Q a b=if a=b then 1 else 0)->ChainTo m m f->DiagAt n w m E' A P' PB' Q' QB' f'->∀ k,k<=m->prodN f k∣prodN f' k:=fun {E E' P PB Q QB P' PB' Q' QB' f f'} h hl hr hc h' k hk =>
  h.dvd hl hr h' hk fun s hi hs=>Zu (m:=m) (fun a b hab hb=>by
   rcases Nat.lt_or_ge a b with z | z
   . exact hc a b (by omega) z hb
   . rw [show a=b by omega];exact Int.dvd_refl _) k s hi hs
 have pe:∀ k,k<=m->prodN f k=prodN f' k:=fun k hk=>by
  have p1:0<prodN f k:=Bf fun j hj=>h.pos j (by omega)
  have p2:0<prodN f' k:=Bf fun j hj=>h'.pos j (by omega)
  exact Int.le_antisymm (Int.le_of_dvd p2 (dv h hl hr hc h' k hk)) (Int.le_of_dvd p1 (dv h' hl' hr' hc' h k hk))
 refine⟨rfl,fun x hx=>?_⟩
 have e1:=pe x (by omega)
 have e2:prodN f x*f x=prodN f' x*f' x:=pe (x+1) hx
 have p1:0<prodN f x:=Bf fun j hj=>h.pos j (by omega)
 rw [←e1] at e2
 exact Int.eq_of_mul_eq_mul_left (by omega) e2
end Lat
namespace Hb
open PySem L2
def Drawn (h w b0:Nat):Prop:=(h<=7/\w<=8/\b0=4)\/(h<=4/\w<=5/\b0=22)\/(h<=2/\w<=3/\b0=69)
def FinD (n w:Nat) (A:Lat.Mat) (k:Nat) (f:Nat->Int) (l r:Lat.Mat × Lat.Mat):Prop:=∃ E,Lat.DiagAt n w k E A l.1 l.2 r.1 r.2 f/\Inv2 n l/\Inv2 w r/\BF n l/\BF w r
theorem Fr.mono {n w:Nat}{A:Lat.Mat}{F F':Nat->(Nat->Int)->Lat.Mat × Lat.Mat->Lat.Mat × Lat.Mat->Prop} (h:Fr n w A F) (k:∀ a f l r,F a f l r->F' a f l r):Fr n w A F':=by
 obtain⟨U,Y,a1,a2,a3,a4,a5⟩:=h.ex
 exact ⟨U,Y,a1,a2,a3,a4,fun k' d f l r y=>k _ _ _ _ (a5 k' d f l r y)⟩
structure A65 (K:W.Frag) (H:Hp) (tp nm r1 D1 D2 b2:Addr) (n w k:Nat) (f:Nat->Int) (l r:Lat.Mat × Lat.Mat):Prop where
 tup:SqT K H tp [.ref nm,.ref r1,.ref D1,.ref D2,.ref b2]
 num:SqL K H nm (VI k f)
 left:Rep K H (.ref r1) (dT n n l.1)
 lback:Rep K H (.ref D1) (dT n n fun i j=>l.2 j i)
 right:Rep K H (.ref D2) (dT w w fun i j=>r.1 j i)
 rback:Rep K H (.ref b2) (dT w w r.2)
theorem Am2.r {K:W.Frag}{H H':Hp}{tp nm r1 D1 D2 b2:Addr}{n w k:Nat}{f:Nat->Int}{l r:Lat.Mat × Lat.Mat} (x:Am2 K H H' tp nm r1 D1 D2 b2 n w k f l r):A65 K H' tp nm r1 D1 D2 b2 n w k f l r:=⟨x.tup,.of x.num,x.left,x.lback,x.right,x.rback⟩
section
variable (K:W.Frag)
def Kb:Sp:=fun vs H Q _=>∃ (tp nm r1 D1 D2 b2:Addr) (n w k:Nat) (f:Nat->Int) (l r:Lat.Mat × Lat.Mat),vs=[.ref tp]/\A65 K H tp nm r1 D1 D2 b2 n w k f l r/\(∀ x,x<k->0<f x)/\Lat.ChainTo k k f/\Q (.ref nm) H
end
end Hb
namespace Hb
open PySem L2
structure Sta where
 T:Nat->Nat->Int
 f:Nat->Nat->Int
 l:Nat->Nat->Int
 lb:Nat->Nat->Int
 r:Nat->Nat->Int
 rb:Nat->Nat->Int
def Sta.row (S:Sta) (t:Tn):Sta:={ S with f:=tnF t S.f,l:=tnF t S.l,lb:=tnF (tnA t) S.lb }
def Sta.col (S:Sta) (t:Tn):Sta:={ S with f:=tnC t S.f,r:=tnF t S.r,rb:=tnF (tnA t) S.rb }
def dot (x y:Nat->Int) (n:Nat):Int:=sumN (fun k=>x k*y k) n
theorem Lf (x y:Nat->Int) (n:Nat):dot (fun k=>-(x k)) y n=-dot x y n:=by
 unfold dot
 have:sumN (fun k=>-x k*y k) n=sumN (fun k=>(-1)*(x k*y k)) n:=Ak fun k _=>by grind
 rw [this,Au];omega
theorem Ii (x y:Nat->Int) (n:Nat):dot x y n=dot y x n:=Ak fun k _=>Int.mul_comm _ _
theorem Ui (x y:Nat->Int) (n:Nat):dot x (fun k=>-(y k)) n=-dot x y n:=by rw [Ii,Lf,Ii]
theorem Lg (x y z:Nat->Int) (c:Int) (n:Nat):dot (fun k=>1*x k+c*y k) z n=dot x z n+c*dot y z n:=by
 unfold dot
 have:sumN (fun k=>(1*x k+c*y k)*z k) n=sumN (fun k=>x k*z k+c*(y k*z k)) n:=Ak fun k _=>by grind
 rw [this,Bw,Au]
theorem Oo (x y z:Nat->Int) (c:Int) (n:Nat):dot z (fun k=>1*x k+c*y k) n=dot z x n+c*dot z y n:=by
 rw [Ii,Lg,Ii z x,Ii z y]
def dl (a b:Nat):Int:=if b=a then 1 else 0
theorem Uj (a:Nat):dl a a=1:=if_pos rfl
theorem Wb {a b:Nat} (h:a≠b):dl a b=0:=if_neg fun z=>h z.symm
theorem S0 (i:Nat) (g:Nat->Nat->Int) (r:Nat):tnF (.mi i) g r=if r=i then (fun k=>-(g i k)) else g r:=by
 funext c
 show (if r=i then -(g i c) else g r c)=_
 by_cases z:r=i
 . rw [if_pos z,if_pos z]
 . rw [if_neg z,if_neg z]
theorem Uy (i j:Nat) (g:Nat->Nat->Int) (r:Nat):tnF (.sw i j) g r=g (if r=j then i else if r=i then j else r):=by
 funext c
 show (if r=j then g i c else if r=i then g j c else g r c)=_
 by_cases z:r=j
 . rw [if_pos z,if_pos z]
 . rw [if_neg z,if_neg z]
   by_cases y:r=i
   . rw [if_pos y,if_pos y]
   . rw [if_neg y,if_neg y]
theorem S3 (i j:Nat) (n:Int) (g:Nat->Nat->Int) (r:Nat):tnF (.ad i j n) g r=if r=i then (fun k=>1*g i k+n*g j k) else g r:=by
 funext c
 show (if r=i then 1*g i c+n*g j c else g r c)=_
 by_cases z:r=i
 . rw [if_pos z,if_pos z]
 . rw [if_neg z,if_neg z]
theorem Vg {m:Nat}{t:Tn} (ht:okTn m t) {g b:Nat->Nat->Int} (h:∀ r s,r<m->s<m->dot (g r) (b s) m=dl r s) {r s:Nat} (hr:r<m) (hs:s<m):dot (tnF t g r) (tnF (tnA t) b s) m=dl r s:=by
 cases t with
 | mi i =>
   show dot (tnF (.mi i) g r) (tnF (.mi i) b s) m=_
   rw [S0,S0]
   have hi:i<m:=ht
   by_cases h1:r=i
   . by_cases h2:s=i
     . rw [if_pos h1,if_pos h2,Lf,Ui,h i i hi hi,h1,h2];omega
     . rw [if_pos h1,if_neg h2,Lf,h i s hi hs,h1,Wb (Ne.symm h2)];rfl
   . by_cases h2:s=i
     . rw [if_neg h1,if_pos h2,Ui,h r i hr hi,h2,Wb h1];rfl
     . rw [if_neg h1,if_neg h2,h r s hr hs]
 | sw i j =>
   obtain⟨hi,hj,hij⟩:=ht
   show dot (tnF (.sw i j) g r) (tnF (.sw i j) b s) m=_
   rw [Uy,Uy,h _ _ (by split<;>(try split)<;>omega) (by split<;>(try split)<;>omega)]
   unfold dl
   (repeat' split)<;>first | rfl | omega
 | ad i j n =>
   obtain⟨hi,hj,hij⟩:=ht
   show dot (tnF (.ad i j n) g r) (tnF (.ad j i (-n)) b s) m=_
   rw [S3,S3]
   by_cases h1:r=i
   . by_cases h2:s=j
     . rw [if_pos h1,if_pos h2,Lg,Oo,Oo,h i j hi hj,h i i hi hi,h j j hj hj,h j i hj hi,h1,h2,Uj,Uj,Wb hij,Wb (Ne.symm hij)]
       grind
     . rw [if_pos h1,if_neg h2,Lg,h i s hi hs,h j s hj hs,h1,Wb (Ne.symm h2)];omega
   . by_cases h2:s=j
     . rw [if_neg h1,if_pos h2,Oo,h r j hr hj,h r i hr hi,h2,Wb h1];omega
     . rw [if_neg h1,if_neg h2,h r s hr hs]
theorem y3 (F:Nat->Int) {n i j:Nat} (hi:i<n) (hj:j<n) (c d:Int):sumN (fun k=>F k+((if k=i then 1 else 0)*c+(if k=j then 1 else 0)*d)) n=sumN F n+(c+d):=by
 rw [Bw,Bw,Bo (fun _=>c),Bo (fun _=>d),if_pos hi,if_pos hj]
theorem Vh {m:Nat}{t:Tn} (ht:okTn m t) (g b:Nat->Nat->Int) (x y:Nat):sumN (fun k=>tnF (tnA t) b k x*tnF t g k y) m=sumN (fun k=>b k x*g k y) m:=by
 cases t with
 | mi i =>
   refine Ak fun k _=>?_
   show tnF (.mi i) b k x*tnF (.mi i) g k y=_
   rw [S0,S0]
   by_cases z:k=i
   . rw [if_pos z,if_pos z,z];grind
   . rw [if_neg z,if_neg z]
 | sw i j =>
   obtain⟨hi,hj,hij⟩:=ht
   have:sumN (fun k=>tnF (tnA (.sw i j)) b k x*tnF (.sw i j) g k y) m=sumN (fun k=>b k x*g k y+((if k=i then 1 else 0)*(b j x*g j y-b i x*g i y)+(if k=j then 1 else 0)*(b i x*g i y-b j x*g j y))) m:=Ak fun k _=>by
    show tnF (.sw i j) b k x*tnF (.sw i j) g k y=_
    rw [Uy,Uy]
    by_cases h1:k=j
    . by_cases h2:k=i
      . exact absurd (h2.symm.trans h1) hij
      . simp only [if_pos h1,if_neg h2];rw [h1];omega
    . by_cases h2:k=i
      . simp only [if_neg h1,if_pos h2];rw [h2];omega
      . simp only [if_neg h1,if_neg h2];omega
   rw [this,y3 _ hi hj]
   omega
 | ad i j n =>
   obtain⟨hi,hj,hij⟩:=ht
   have:sumN (fun k=>tnF (tnA (.ad i j n)) b k x*tnF (.ad i j n) g k y) m=sumN (fun k=>b k x*g k y+((if k=i then 1 else 0)*(n*(b i x*g j y))+(if k=j then 1 else 0)*(-(n*(b i x*g j y))))) m:=Ak fun k _=>by
    show tnF (.ad j i (-n)) b k x*tnF (.ad i j n) g k y=_
    rw [S3,S3]
    by_cases h1:k=j
    . by_cases h2:k=i
      . exact absurd (h2.symm.trans h1) hij
      . simp only [if_pos h1,if_neg h2];rw [h1];grind
    . by_cases h2:k=i
      . simp only [if_neg h1,if_pos h2];rw [h2];grind
      . simp only [if_neg h1,if_neg h2];omega
   rw [this,y3 _ hi hj]
   omega
theorem Zt {Φ:(Nat->Int)->Int} (hneg:∀ x,Φ (fun k=>-(x k))=-Φ x) (hadd:∀ x y c,Φ (fun k=>1*x k+c*y k)=Φ x+c*Φ y) (t:Tn) (g F:Nat->Nat->Int) {c m:Nat} (ht:okTn m t) (h:∀ r,r<m->F r c=Φ (g r)) {r:Nat} (hr:r<m):tnF t F r c=Φ (tnF t g r):=by
 cases t with
 | mi i =>
   rw [S0,S0]
   by_cases z:r=i
   . rw [if_pos z,if_pos z,hneg,←h i ht]
   . rw [if_neg z,if_neg z];exact h r hr
 | sw i j =>
   obtain⟨hi,hj,hij⟩:=ht
   rw [Uy,Uy]
   exact h _ (by split<;>(try split)<;>omega)
 | ad i j n =>
   obtain⟨hi,hj,hij⟩:=ht
   rw [S3,S3]
   by_cases z:r=i
   . rw [if_pos z,if_pos z,hadd,←h i hi,←h j hj]
     show 1*F i c+n*F j c=_
     omega
   . rw [if_neg z,if_neg z];exact h r hr
structure Good (h w:Nat) (S:Sta):Prop where
 l1:∀ r s,r<h->s<h->dot (S.l r) (S.lb s) h=dl r s
 l2:∀ a b,a<h->b<h->sumN (fun k=>S.lb k a*S.l k b) h=dl a b
 r1:∀ r s,r<w->s<w->dot (S.r r) (S.rb s) w=dl r s
 r2:∀ a b,a<w->b<w->sumN (fun k=>S.rb k a*S.r k b) w=dl a b
 now:∀ i j,i<h->j<w->S.f i j=dot (fun b=>dot (S.l i) (fun a=>S.T a b) h) (S.r j) w
theorem Good.row {h w:Nat}{S:Sta}{t:Tn} (x:Good h w S) (ht:okTn h t):Good h w (S.row t):=by
 refine⟨fun r s hr hs=>Vg ht x.l1 hr hs,fun a b ha hb=>(Vh ht S.l S.lb a b).trans (x.l2 a b ha hb),x.r1,x.r2,fun i j hi hj=>?_⟩
 refine Zt (Φ:=fun v=>dot (fun b=>dot v (fun a=>S.T a b) h) (S.r j) w) (fun v=>?_) (fun v u c=>?_) t S.l S.f ht (fun r hr=>x.now r j hr hj) hi
 . have:(fun b=>dot (fun k=>-(v k)) (fun a=>S.T a b) h)=fun b=>-(dot v (fun a=>S.T a b) h):=by funext b;exact Lf _ _ _
   rw [this,Lf]
 . have:(fun b=>dot (fun k=>1*v k+c*u k) (fun a=>S.T a b) h)=fun b=>1*dot v (fun a=>S.T a b) h+c*dot u (fun a=>S.T a b) h:=by funext b;rw [Lg];omega
   rw [this,Lg]
theorem Good.col {h w:Nat}{S:Sta}{t:Tn} (x:Good h w S) (ht:okTn w t):Good h w (S.col t):=by
 refine⟨x.l1,x.l2,fun r s hr hs=>Vg ht x.r1 hr hs,fun a b ha hb=>(Vh ht S.r S.rb a b).trans (x.r2 a b ha hb),fun i j hi hj=>?_⟩
 exact Zt (Φ:=fun v=>dot (fun b=>dot (S.l i) (fun a=>S.T a b) h) v w) (fun v=>Ui _ _ _) (fun v u c=>Oo _ _ _ _ _) t S.r (fun a b=>S.f b a) ht (fun r hr=>x.now i r hi hr) hj
def unit:Nat->Nat->Int:=fun i j=>if j=i then 1 else 0
def Sta.first (f:Nat->Nat->Int):Sta:=⟨f,f,unit,unit,unit,unit⟩
theorem P3 (y:Nat->Int) {i n:Nat} (h:i<n):dot (unit i) y n=y i:=by
 unfold dot unit
 rw [Bo y i n,if_pos h]
theorem Good.first (h w:Nat) (f:Nat->Nat->Int):Good h w (Sta.first f):=by
 have sq:∀ m a b,a<m->b<m->dot (unit a) (unit b) m=dl a b:=fun m a b ha hb=>by
  rw [P3 _ ha]
  unfold unit dl
  by_cases z:a=b
  . rw [if_pos z,if_pos z.symm]
  . rw [if_neg z,if_neg (Ne.symm z)]
 have sq2:∀ m a b,a<m->b<m->sumN (fun k=>unit k a*unit k b) m=dl a b:=fun m a b ha hb=>by
  have:sumN (fun k=>unit k a*unit k b) m=sumN (fun k=>(if k=a then 1 else 0)*unit k b) m:=Ak fun k _=>by
   unfold unit
   by_cases z:a=k
   . rw [if_pos z,if_pos z.symm]
   . rw [if_neg z,if_neg (Ne.symm z)]
  rw [this,Bo (fun k=>unit k b) a m,if_pos ha]
  rfl
 refine⟨sq h,sq2 h,sq w,sq2 w,fun i j hi hj=>?_⟩
 show f i j=dot (fun b=>dot (unit i) (fun a=>f a b) h) (unit j) w
 have:(fun b=>dot (unit i) (fun a=>f a b) h)=fun b=>f i b:=by funext b;exact P3 _ hi
 rw [this,Ii,P3 _ hj]
theorem bT.turn3 {B:Nat}{f:Nat->Nat->Int}{t:Tn} (h:bT B f) (ht:tB 3 t):bT (B+4) (tnF t f):=by
 intro r c
 cases t with
 | mi i=>rw [S0];split<;>first | exact Hr (A57 (h _ _)) (by omega) | exact Hr (h _ _) (by omega)
 | sw i j=>rw [Uy];exact Hr (h _ _) (by omega)
 | ad i j n =>
   rw [S3]
   split
   . have h1:(1*f i c).natAbs<2 ^ (B+3):=by rw [Int.one_mul];exact Hr (h _ _) (by omega)
     have h2:(n*f j c).natAbs<2 ^ (3+B):=A58 ht (h _ _)
     rw [Nat.add_comm] at h2
     exact A59 h1 h2
   . exact Hr (h _ _) (by omega)
theorem bT.cols3 {B:Nat}{f:Nat->Nat->Int}{t:Tn} (h:bT B f) (ht:tB 3 t):bT (B+4) (tnC t f):=fun r c=>bT.turn3 (f:=fun a b=>f b a) (fun a b=>h b a) ht c r
end Hb
namespace Lat
open Hb
theorem S4 (g:Nat->Int):∀ n,sumN g (n+1)=g 0+sumN (fun j=>g (j+1)) n
 | 0=>by show sumN g 0+g 0=_;show 0+g 0=g 0+0;omega
 | n+1=>by
   show sumN g (n+1)+g (n+1)=g 0+(sumN (fun j=>g (j+1)) n+g (n+1))
   rw [S4 g n,Int.add_assoc]
def minc (A:Mat) (j:Nat):Mat:=fun r c=>A (r+1) (if c<j then c else c+1)
theorem Ah2:∀ (n:Nat) (A:Mat),det (n+1) A=sumN (fun j=>sgi j*A 0 j*det n (minc A j)) (n+1)
 | 0,A=>rfl
 | n+1,A=>by
   have e:∀ i j,i<n+1->j<n+1->det n (minc (minr A (i+1)) j)=det n (minr (minc A (j+1)) i):=fun i j _ _=>Bc fun r c _ _=>by
    show A (if r+1<i+1 then r+1 else r+1+1) ((if c<j then c else c+1)+1)=A ((if r<i then r else r+1)+1) (if c+1<j+1 then c+1 else c+1+1)
    congr 1
    . split<;>split<;>omega
    . split<;>split<;>omega
   show sumN (fun i=>sgi i*A i 0*det (n+1) (minr A i)) (n+1+1)=_
   rw [S4,S4 (fun j=>sgi j*A 0 j*det (n+1) (minc A j))]
   have e0:det (n+1) (minr A 0)=det (n+1) (minc A 0):=rfl
   rw [e0]
   congr 1
   have l:sumN (fun i=>sgi (i+1)*A (i+1) 0*det (n+1) (minr A (i+1))) (n+1)=sumN (fun i=>sumN (fun j=>sgi (i+1)*A (i+1) 0*(sgi j*A 0 (j+1)*det n (minc (minr A (i+1)) j))) (n+1)) (n+1):=Ak fun i _=>by
    rw [Ah2 n,Au]
    rfl
   have r:sumN (fun j=>sgi (j+1)*A 0 (j+1)*det (n+1) (minc A (j+1))) (n+1)=sumN (fun j=>sumN (fun i=>sgi (j+1)*A 0 (j+1)*(sgi i*A (i+1) 0*det n (minr (minc A (j+1)) i))) (n+1)) (n+1):=Ak fun j _=>by
    rw [Au]
    rfl
   rw [l,r,Eb]
   refine Ak fun j hj=>Ak fun i hi=>?_
   rw [e i j hi hj,Ti,Ti]
   grind
theorem Op:∀ (n:Nat) (A:Mat),det n (fun r c=>A c r)=det n A
 | 0,_=>rfl
 | n+1,A=>by
   rw [Ah2 n A]
   refine Ak fun i hi=>?_
   rw [←Op n (minc A i)]
   rfl
def Mins (n w:Nat) (A:Mat) (D:Nat):Prop:=∀ (k:Nat) (r c:Nat->Nat),(∀ x,x<k->r x<n)->(∀ y,y<k->c y<w)->(det k fun x y=>A (r x) (c y)).natAbs<=D
theorem Mins.flip {n w D:Nat}{A:Mat} (h:Mins n w A D):Mins w n (tr A) D:=fun k r c hr hc=>by
 have:=h k c r hc hr
 rw [←Op] at this
 exact this
theorem Ag3 (k:Nat) (r:Nat->Nat):(∃ x y,x<k/\y<k/\x≠y/\r x=r y)\/∀ x y,x<k->y<k->r x=r y->x=y:=by
 by_cases h:∃ x y,x<k/\y<k/\x≠y/\r x=r y
 . exact .inl h
 . exact .inr fun x y hx hy e=>Classical.byContradiction fun z=>h ⟨x,y,hx,hy,z,e⟩
theorem Mins.turn {n w D:Nat}{A:Mat}{t:Tn} (h:Mins n w A D) (ht:okTn n t) (h3:tB 2 t):Mins n w (tnF t A) (4*D):=fun k r c hr hc=>by
 have hD:=h k r c hr hc
 rcases Ag3 k r with ⟨x,y,hx,hy,ne,e⟩ | inj
 . rw [C4 hx hy ne fun z _=>by rw [e]]
   exact Nat.zero_le _
 cases t with
 | sw i j =>
   have:=h k (fun x=>if r x=j then i else if r x=i then j else r x) c (fun x hx=>by
    have:=hr x hx
    have:=ht.1
    have:=ht.2.1
    show (if r x=j then i else if r x=i then j else r x)<n
    split
    . omega
    . split<;>omega) hc
   rw [show (fun x y=>tnF (.sw i j) A (r x) (c y))=fun x y=>A (if r x=j then i else if r x=i then j else r x) (c y) from funext fun x=>by rw [Uy]]
   omega
 | mi i =>
   by_cases z:∃ x0,x0<k/\r x0=i
   . obtain⟨x0,h0,e0⟩:=z
     have e:det k (fun x y=>tnF (.mi i) A (r x) (c y))=det k (setR (fun x y=>A (r x) (c y)) x0 fun y=>- A (r x0) (c y)):=Bc fun x y hx hy=>by
      rw [S0]
      by_cases q:x=x0
      . rw [q,At,if_pos e0,e0]
      . rw [A1 q,if_neg fun w=>q (inj x x0 hx h0 (w.trans e0.symm))]
     rw [e,Ah3 (fun x y=>A (r x) (c y)) h0,Int.natAbs_neg]
     omega
   . have e:det k (fun x y=>tnF (.mi i) A (r x) (c y))=det k (fun x y=>A (r x) (c y)):=Bc fun x y hx hy=>by
      rw [S0,if_neg fun w=>z ⟨x,hx,w⟩]
     rw [e]
     omega
 | ad i j m =>
   by_cases z:∃ x0,x0<k/\r x0=i
   . obtain⟨x0,h0,e0⟩:=z
     have e:det k (fun x y=>tnF (.ad i j m) A (r x) (c y))=det k (setR (fun x y=>A (r x) (c y)) x0 fun y=>1*A (r x0) (c y)+m*A j (c y)):=Bc fun x y hx hy=>by
      rw [S3]
      by_cases q:x=x0
      . rw [q,At,if_pos e0,e0]
      . rw [A1 q,if_neg fun w=>q (inj x x0 hx h0 (w.trans e0.symm))]
     have e1:det k (setR (fun x y=>A (r x) (c y)) x0 fun y=>A (r x0) (c y))=det k fun x y=>A (r x) (c y):=by
      rw [show (setR (fun x y=>A (r x) (c y)) x0 fun y=>A (r x0) (c y))=fun x y=>A (r x) (c y) from Eh (fun x y=>A (r x) (c y)) x0]
     have e2:det k (setR (fun x y=>A (r x) (c y)) x0 fun y=>A j (c y))=det k fun x y=>A (if x=x0 then j else r x) (c y):=Bc fun x y _ _=>by
      by_cases q:x=x0
      . rw [q,At,if_pos rfl]
      . rw [A1 q,if_neg q]
     have h2:=h k (fun x=>if x=x0 then j else r x) c (fun x hx=>by
      have:=hr x hx
      have:=ht.2.1
      show (if x=x0 then j else r x)<n
      split<;>omega) hc
     rw [e,Cy (fun x y=>A (r x) (c y)) (fun y=>A (r x0) (c y)) (fun y=>A j (c y)) 1 m h0,e1,e2]
     have m2:m.natAbs<=3:=Nat.le_of_lt_succ h3
     have a:=Int.natAbs_add_le (1*det k fun x y=>A (r x) (c y)) (m*det k fun x y=>A (if x=x0 then j else r x) (c y))
     rw [Int.natAbs_mul,Int.natAbs_mul] at a
     have b:m.natAbs*(det k fun x y=>A (if x=x0 then j else r x) (c y)).natAbs<=3*D:=Nat.mul_le_mul m2 h2
     have c1:(1:Int).natAbs*(det k fun x y=>A (r x) (c y)).natAbs=(det k fun x y=>A (r x) (c y)).natAbs:=Nat.one_mul _
     omega
   . have e:det k (fun x y=>tnF (.ad i j m) A (r x) (c y))=det k (fun x y=>A (r x) (c y)):=Bc fun x y hx hy=>by
      rw [S3,if_neg fun w=>z ⟨x,hx,w⟩]
     rw [e]
     omega
theorem Mins.cols {n w D:Nat}{A:Mat}{t:Tn} (h:Mins n w A D) (ht:okTn w t) (h3:tB 2 t):Mins n w (tnC t A) (4*D):=(h.flip.turn ht h3).flip
def lay (k:Nat) (d:Nat->Int):Mat:=fun i j=>if i=j/\i<k then d i else 0
theorem As9 {m B:Nat}{d:Nat->Int} (hd:∀ i,i<m->(d i).natAbs<=B):∀ (k:Nat) (r c:Nat->Nat),(∀ x y,x<k->y<k->r x=r y->x=y)->(det k fun x y=>lay m d (r x) (c y)).natAbs<=B ^ k
 | 0,_,_,_=>by show (1:Int).natAbs<=1;decide
 | k+1,r,c,inj=>by
   show (sumN (fun i=>sgi i*lay m d (r i) (c 0)*det k (minr (fun x y=>lay m d (r x) (c y)) i)) (k+1)).natAbs<=_
   have ih:∀ i,i<k+1->(det k (minr (fun x y=>lay m d (r x) (c y)) i)).natAbs<=B ^ k:=fun i hi=>As9 hd k (fun x=>r (if x<i then x else x+1)) (fun y=>c (y+1)) fun x y hx hy e=>by
    have:=inj _ _ (by split<;>omega) (by split<;>omega) e
    split at this<;>split at this<;>omega
   by_cases z:∃ i,i<k+1/\r i=c 0/\r i<m
   . obtain⟨i,hi,e,hm⟩:=z
     rw [Ba hi fun x hx ne=>by
      rw [show lay m d (r x) (c 0)=0 from if_neg fun q=>ne (inj x i hx hi (q.1.trans e.symm))]
      simp]
     rw [Int.natAbs_mul,Int.natAbs_mul,O0,Nat.one_mul,show lay m d (r i) (c 0)=d (r i) from if_pos ⟨e,hm⟩,Nat.pow_succ,Nat.mul_comm (B ^ k)]
     exact Nat.mul_le_mul (hd _ hm) (ih i hi)
   . rw [Ay fun x hx=>by
      rw [show lay m d (r x) (c 0)=0 from if_neg fun q=>z ⟨x,hx,q.1,q.2⟩]
      simp]
     exact Nat.zero_le _
theorem lay_mins {n w m B:Nat}{d:Nat->Int} (hd:∀ i,i<m->(d i).natAbs<=B) (h1:1<=B) (hm:m<=3):Mins n w (lay m d) (B ^ 3):=fun k r c hr hc=>by
 rcases Ag3 k r with ⟨x,y,hx,hy,ne,e⟩ | inj
 . rw [C4 hx hy ne fun z _=>by rw [e]]
   exact Nat.zero_le _
 by_cases z:∃ x,x<k/\m<=r x
 . obtain⟨x,hx,q⟩:=z
   rw [Hm hx fun y _=>if_neg fun w=>by omega]
   exact Nat.zero_le _
 have hk:k<=m:=Nat.le_of_not_lt fun q=>by
  obtain⟨x,h1,h2⟩:=Zl m r fun x y hx hy e=>inj x y (by omega) (by omega) e
  exact z ⟨x,by omega,h2⟩
 exact Nat.le_trans (As9 hd k r c inj) (Nat.pow_le_pow_right h1 (by omega))
theorem Aq4 {k:Nat} (M:Mat) (s:Nat->Nat) {y0:Nat} (h0:y0<k):(det k fun x y=>M x (s (if y=0 then y0 else if y=y0 then 0 else y))).natAbs=(det k fun x y=>M x (s y)).natAbs:=by
 by_cases z:y0=0
 . subst z
   congr 1
   exact Bc fun x y _ _=>by
    by_cases q:y=0
    . rw [if_pos q,q]
    . rw [if_neg q,if_neg q]
 rw [←Op k fun x y=>M x (s y),←Op k fun x y=>M x (s (if y=0 then y0 else if y=y0 then 0 else y))]
 have e:=Zx (A:=fun y x=>M x (s y)) (show 0<k by omega) h0 (fun q=>z q.symm) (fun x=>M x (s 0)) (fun x=>M x (s y0))
 have e1:setR (setR (fun y x=>M x (s y)) 0 fun x=>M x (s 0)) y0 (fun x=>M x (s y0))=fun y x=>M x (s y):=by
  rw [show setR (fun y x=>M x (s y)) 0 (fun x=>M x (s 0))=fun y x=>M x (s y) from Eh (fun y x=>M x (s y)) 0]
  exact Eh (fun y x=>M x (s y)) y0
 have e2:setR (setR (fun y x=>M x (s y)) 0 fun x=>M x (s y0)) y0 (fun x=>M x (s 0))=fun y x=>M x (s (if y=0 then y0 else if y=y0 then 0 else y)):=by
  funext y x
  unfold setR
  by_cases q:y=y0
  . rw [if_pos q,if_neg (by omega),if_pos q]
  . rw [if_neg q]
    by_cases q2:y=0
    . rw [if_pos q2,if_pos q2]
    . rw [if_neg q2,if_neg q2,if_neg q]
 rw [e1,e2] at e
 show (det k fun y x=>M x (s (if y=0 then y0 else if y=y0 then 0 else y))).natAbs=(det k fun y x=>M x (s y)).natAbs
 rw [e,Int.natAbs_neg]
theorem Qk {n w D:Nat}{A:Mat} (h:Mins n w A D):∀ (k:Nat) (r s:Nat->Nat),(∀ x,x<k->r x<n)->(∀ y,y<k->s y<w+n)->(det k fun x y=>beside w A one (r x) (s y)).natAbs<=D
 | 0,r,s,hr,hs=>h 0 r s hr fun y hy=>by omega
 | k+1,r,s,hr,hs=>by
   rcases Ag3 (k+1) r with ⟨x,y,hx,hy,ne,e⟩ | inj
   . rw [C4 hx hy ne fun z _=>by rw [e]]
     exact Nat.zero_le _
   by_cases z:∃ y,y<k+1/\w<=s y
   . obtain⟨y0,hy,q⟩:=z
     rw [←Aq4 (fun x y=>beside w A one (r x) y) s hy]
     have first:∀ s':Nat->Nat,w<=s' 0->(∀ y,y<k+1->s' y<w+n)->(det (k+1) fun x y=>beside w A one (r x) (s' y)).natAbs<=D:=fun s' h0 hs'=>by
      show (sumN (fun i=>sgi i*beside w A one (r i) (s' 0)*det k (minr (fun x y=>beside w A one (r x) (s' y)) i)) (k+1)).natAbs<=D
      have ih:∀ i,i<k+1->(det k (minr (fun x y=>beside w A one (r x) (s' y)) i)).natAbs<=D:=fun i hi=>Qk h k (fun x=>r (if x<i then x else x+1)) (fun y=>s' (y+1)) (fun x hx=>hr _ (by split<;>omega)) fun y hy=>hs' _ (by omega)
      have cell:∀ x,beside w A one (r x) (s' 0)=if r x=s' 0-w then 1 else 0:=fun x=>by
       unfold beside one
       rw [if_neg (by omega)]
      by_cases z:∃ i,i<k+1/\r i=s' 0-w
      . obtain⟨i,hi,e⟩:=z
        rw [Ba hi fun x hx ne=>by
         rw [cell,if_neg fun q=>ne (inj x i hx hi (q.trans e.symm))]
         simp]
        rw [Int.natAbs_mul,Int.natAbs_mul,O0,Nat.one_mul,cell,if_pos e]
        show 1*_<=D
        rw [Nat.one_mul]
        exact ih i hi
      . rw [Ay fun x hx=>by
         rw [cell,if_neg fun q=>z ⟨x,hx,q⟩]
         simp]
        exact Nat.zero_le _
     exact first (fun y=>s (if y=0 then y0 else if y=y0 then 0 else y)) q fun y hy'=>hs _ (by split;omega;split<;>omega)
   . have e:det (k+1) (fun x y=>beside w A one (r x) (s y))=det (k+1) fun x y=>A (r x) (s y):=Bc fun x y _ hy=>beside_lo (Nat.lt_of_not_le fun q=>z ⟨y,hy,q⟩)
     rw [e]
     exact h (k+1) r s hr fun y hy=>Nat.lt_of_not_le fun q=>z ⟨y,hy,q⟩
theorem Mins.dets {n w D:Nat}{A:Mat} (h:Mins n w A D):Dets n (fun c=>c<w+n) (beside w A one) D:=fun i hi s hs=>Qk h i (fun x=>x) s (fun x hx=>by omega) hs
theorem diag_of {n w m:Nat}{d:Nat->Int}{S:Sta} (g:Hb.Good n w S) (hT:S.T=lay m d) (mn:m<=n) (mw:m<=w) (pos:∀ x,x<m->0<d x) :
 DiagAt n w m (prodN (fun x=>if x<m then d x else 0) m).toNat S.f (fun x a=>S.lb a x) (fun x a=>S.l a x) (fun y b=>S.rb b y) (fun y b=>S.r b y) (fun x=>if x<m then d x else 0)/\Inv2 n ((fun x a=>S.lb a x),fun x a=>S.l a x)/\Inv2 w ((fun y b=>S.rb b y),fun y b=>S.r b y):=by
 have i1:∀ a b:Nat,dl a b=if a=b then (1:Int) else 0:=fun a b=>by
  unfold dl
  by_cases z:a=b
  . rw [if_pos z,if_pos z.symm]
  . rw [if_neg z,if_neg fun q=>z q.symm]
 refine⟨⟨mn,mw,fun x y hx hy=>?_,fun x hx=>by rw [if_pos hx];exact pos x hx,fun x h1 _ _=>if_neg (by omega),by omega,fun i j hi hj=>?_,fun i j hi hj=>?_⟩,fun a b ha hb=>?_,fun a b ha hb=>?_⟩
 . have e:∀ a b,a<n->b<w->S.f a b=sumN (fun j=>sumN (fun i=>S.l a i*S.T i j) n*S.r b j) w:=fun a b ha hb=>g.now a b ha hb
   have e1:∀ a,a<n->sumN (fun b=>S.f a b*S.rb b y) w=sumN (fun i=>S.l a i*S.T i y) n:=fun a ha=>by
    have:sumN (fun b=>S.f a b*S.rb b y) w=sumN (fun b=>sumN (fun j=>sumN (fun i=>S.l a i*S.T i j) n*(S.rb b y*S.r b j)) w) w:=Ak fun b hb=>by
     rw [e a b ha hb,←Kn]
     exact Ak fun j _=>by grind
    rw [this,Eb]
    have:∀ j,j<w->sumN (fun b=>sumN (fun i=>S.l a i*S.T i j) n*(S.rb b y*S.r b j)) w=sumN (fun i=>S.l a i*S.T i j) n*dl y j:=fun j hj=>by rw [Au,g.r2 y j hy hj]
    rw [Ak this,Ba hy fun j hj ne=>by rw [Wb fun q=>ne q.symm,Int.mul_zero],Uj,Int.mul_one]
   have e2:bil n w S.f (fun a=>S.lb a x) (fun b=>S.rb b y)=sumN (fun a=>S.lb a x*sumN (fun i=>S.l a i*S.T i y) n) n:=Ak fun a ha=>by rw [e1 a ha]
   have e3:sumN (fun a=>S.lb a x*sumN (fun i=>S.l a i*S.T i y) n) n=sumN (fun a=>sumN (fun i=>S.lb a x*S.l a i*S.T i y) n) n:=Ak fun a _=>by
    rw [←Au]
    exact Ak fun i _=>by grind
   have e4:∀ i,i<n->sumN (fun a=>S.lb a x*S.l a i*S.T i y) n=dl x i*S.T i y:=fun i hi=>by rw [Kn,g.l2 x i hx hi]
   show bil n w S.f (fun a=>S.lb a x) (fun b=>S.rb b y)=_
   rw [e2,e3,Eb,Ak e4,Ba hx fun i hi ne=>by rw [Wb fun q=>ne q.symm,Int.zero_mul],Uj,Int.one_mul,hT]
   show (if x=y/\x<m then d x else 0)=if x=y then (if x<m then d x else 0) else 0
   by_cases z:x=y
   . by_cases q:x<m
     . rw [if_pos ⟨z,q⟩,if_pos z,if_pos q]
     . rw [if_neg fun k=>q k.2,if_pos z,if_neg q]
   . rw [if_neg fun k=>z k.1,if_neg z]
 . show sumN (fun c=>S.lb (0+c) i*S.l c j) n=_
   rw [←i1,←g.l2 i j hi hj]
   exact Ak fun c _=>by rw [Nat.zero_add]
 . show sumN (fun c=>S.rb (0+c) i*S.r c j) w=_
   rw [←i1,←g.r2 i j hi hj]
   exact Ak fun c _=>by rw [Nat.zero_add]
 . show sumN (fun k=>S.l a k*S.lb b k) n=_
   rw [←i1,←g.l1 a b ha hb]
   rfl
 . show sumN (fun k=>S.r a k*S.rb b k) w=_
   rw [←i1,←g.r1 a b ha hb]
   rfl
theorem DiagAt.flip {n w m E:Nat}{A P PB Q QB:Mat}{f:Nat->Int} (h:DiagAt n w m E A P PB Q QB f):DiagAt w n m E (tr A) Q QB P PB f:=by
 refine⟨h.mw,h.mn,fun x y hx hy=>?_,h.pos,fun x h1 h2 h3=>h.zero x h1 h3 h2,h.prod,h.dr,h.dl⟩
 rw [←Ij,h.diag y x hy hx]
 by_cases z:x=y
 . rw [if_pos z,if_pos z.symm,z]
 . rw [if_neg z,if_neg fun q=>z q.symm]
end Lat
namespace Hb
open PySem L2
def U0 (c:Int) (k:Nat):Int:=if c / 6%3=1 then 1+c / 18*((k:Int)+7)%1000 else 1+c%6
def Jp (c:Int):Nat->Int
 | 0=>c
 | k+1=>Jp c k / 6
def Gj (c:Int):Nat->Int
 | 0=>1
 | k+1=>Gj c k*U0 (Jp c k) k
theorem Zg (c:Int) (k:Nat):1<=U0 c k/\U0 c k<=1000:=by
 unfold U0
 split<;>omega
theorem T3 (c:Int):∀ k,0<Gj c k/\Gj c k<=1000 ^ k
 | 0=>by show (0:Int)<1/\(1:Int)<=1;decide
 | k+1=>by
   obtain⟨h1,h2⟩:=T3 c k
   obtain⟨h3,h4⟩:=Zg (Jp c k) k
   refine⟨Int.mul_pos h1 (by omega),?_⟩
   show Gj c k*U0 (Jp c k) k<=1000 ^ (k+1)
   rw [Int.pow_succ]
   exact Int.mul_le_mul h2 h4 (by omega) (by omega)
theorem Vz (c:Int) (a:Nat):∀ d,Gj c a∣Gj c (a+d)
 | 0=>Int.dvd_refl _
 | d+1=>Int.dvd_trans (Vz c a d) (Int.dvd_mul_right _ _)
theorem Ap6 {c:Int}{k:Nat} (h:k<=3):(Gj c k).natAbs<=2 ^ 30:=by
 obtain⟨h1,h2⟩:=T3 c k
 have h3:(1000:Int) ^ k<=1000 ^ 3:=by
  match k,h with
  | 0,_=>decide
  | 1,_=>decide
  | 2,_=>decide
  | 3,_=>decide
 have e:(1000:Int) ^ 3=1000000000:=by decide
 have e2:(2:Nat) ^ 30=1073741824:=by decide
 omega
structure Gv (n w m:Nat) (d:Nat->Int) (i:Nat) (A:Lat.Mat):Prop where
 ex:∃ S:Sta,Good n w S/\S.T=Lat.lay m d/\S.f=A
 mins:Lat.Mins n w A (2 ^ (90+2*i))
 bits:bT (31+4*i) A
section
variable {n w m i:Nat}{d:Nat->Int}{A:Lat.Mat}
theorem Gv.first (hm:m<=3) (hd:∀ x,x<m->(d x).natAbs<=2 ^ 30):Gv n w m d 0 (Lat.lay m d) :=
 ⟨⟨_,Good.first n w _,rfl,rfl⟩,(Lat.lay_mins hd (by decide) hm:_),fun r c=>by
   unfold Lat.lay
   by_cases z:r=c/\r<m
   . rw [if_pos z];exact Nat.lt_of_le_of_lt (hd r z.2) (by decide)
   . rw [if_neg z];decide⟩
theorem Gv.up (h:Gv n w m d i A):Gv n w m d (i+1) A:=⟨h.ex,fun k r c hr hc=>Nat.le_trans (h.mins k r c hr hc) (Nat.pow_le_pow_right (by decide) (by omega)),h.bits.mono (by omega)⟩
theorem pow2 (i:Nat):4*2 ^ (90+2*i)=2 ^ (90+2*(i+1)):=by
 rw [show 90+2*(i+1)=2+(90+2*i) by omega,Nat.pow_add 2 2 (90+2*i)]
theorem Gv.row {t:Tn} (h:Gv n w m d i A) (ht:okTn n t) (hb:tB 2 t):Gv n w m d (i+1) (tnF t A):=by
 obtain⟨S,g,e1,e2⟩:=h.ex
 exact ⟨⟨S.row t,g.row ht,e1,by rw [←e2];rfl⟩,pow2 i▸h.mins.turn ht hb,(h.bits.turn3 (hb.mono (by omega))).mono (by omega)⟩
theorem Gv.col {t:Tn} (h:Gv n w m d i A) (ht:okTn w t) (hb:tB 2 t):Gv n w m d (i+1) (tnC t A):=by
 obtain⟨S,g,e1,e2⟩:=h.ex
 exact ⟨⟨S.col t,g.col ht,e1,by rw [←e2];rfl⟩,pow2 i▸h.mins.cols ht hb,(h.bits.cols3 (hb.mono (by omega))).mono (by omega)⟩
theorem p25:(Y9 6 fun n=>Y9 6 fun w=>Aw4 n w 96 122 125 126 632 635 636 58135 58135)=true:=by decide +kernel
theorem Gv.plan (h:Gv n w m d i A) (hi:i<=16) (hn:n<=5) (hw:w<=5):Fr n w A (FinD n w A)/\Fr w n (Lat.tr A) (FinD w n (Lat.tr A)):=by
 have up:∀{n' w':Nat}{B:Lat.Mat},Lat.Mins n' w' B (2 ^ (90+2*i))->Lat.Mins n' w' B (2 ^ 122):=fun h k r c hr hc=>Nat.le_trans (h k r c hr hc) (Nat.pow_le_pow_right (by decide) (by omega))
 have bd:∀ x y,(A x y).natAbs<=2 ^ 96:=fun x y=>Nat.le_of_lt (Hr (h.bits x y) (by omega))
 exact ⟨(Sl (Zn (Ex (Ex p25 n (by omega)) w (by omega))) (fun x y _ _=>bd x y) (up h.mins).dets).mono fun _ _ _ _ z=>⟨_,z⟩,(Sl (Zn (Ex (Ex p25 w (by omega)) n (by omega))) (fun x y _ _=>bd y x) (up h.mins.flip).dets).mono fun _ _ _ _ z=>⟨_,z⟩⟩
theorem Gv.one (h:Gv n w m d i A) (mn:m<=n) (mw:m<=w) (pos:∀ x,x<m->0<d x) (ch:∀ a b,a<b->b<m->d a∣d b) :
 (∀ k f l r,FinD n w A k f l r->Lat.ChainTo k k f->k=m/\∀ x,x<k->f x=d x)/\∀ k f l r,FinD w n (Lat.tr A) k f l r->Lat.ChainTo k k f->k=m/\∀ x,x<k->f x=d x:=by
 obtain⟨S,g,e1,rfl⟩:=h.ex
 obtain⟨dg,i1,i2⟩:=Lat.diag_of g e1 mn mw pos
 have hc:Lat.ChainTo m m fun x=>if x<m then d x else 0:=fun a b ha hab hb=>by
  show (if a<m then d a else 0)∣if b<m then d b else 0
  rw [if_pos ha,if_pos hb]
  exact ch a b hab hb
 have fin:∀{k:Nat}{f:Nat->Int},(k=m/\∀ x,x<k->f x=if x<m then d x else 0)->k=m/\∀ x,x<k->f x=d x:=fun ⟨a,b⟩=>⟨a,fun x hx=>by rw [b x hx,if_pos (by omega)]⟩
 refine⟨fun k f l r hF hC=>?_,fun k f l r hF hC=>?_⟩
 . obtain⟨E,d1,j1,j2,_⟩:=hF
   exact fin (d1.uniq j1 j2 hC dg i1 i2 hc)
 . obtain⟨E,d1,j1,j2,_⟩:=hF
   exact fin (d1.uniq j1 j2 hC dg.flip i2 i1 hc)
end
section
variable (K:W.Frag)
def Lz (_K:W.Frag):Sp:=fun vs H Q _=>∃ (c:Int) (m:Nat),vs=[.int c,.int (m:Int)]/\m<=3/\∀ (L:Addr) (H':Hp),Same H H'->H' L=some (.lst (VI m fun x=>Gj c (x+1)))->Q (.ref L) H'
def Td:Sp:=fun vs H Q _=>∃ (a:Addr) (m h w:Nat) (d:Nat->Int),vs=[.ref a,.int (h:Int),.int (w:Int)]/\SqL K H a (VI m d)/\m<=w/\h<=60/\w<=60/\newT H h w (Lat.lay m d) Q
end
end Hb
namespace Hb
open PySem L2
def top (i:Nat):Stmt:=PySem.Challenge.pw_holebook_k25_whole_built_diagonal.main.body.getD i (.Pass ⟨0,0,0,0⟩)
structure Txt (K:W.Frag) (mg:Str->Option Value) (Ad Ab Ae:Addr):Prop where
 m_Lines:mg "Lines"=some (.ref Ad)
 cl_Lines:Cls K Ad
 na_Lines_rows:NoAttr K Ad "rows"
 na_Lines_backs:NoAttr K Ad "backs"
 m_Stairs:mg "Stairs"=some (.ref Ab)
 cl_Stairs:Cls K Ab
 na_Stairs_rows:NoAttr K Ab "rows"
 na_Stairs_backs:NoAttr K Ab "backs"
 na_Stairs_starts:NoAttr K Ab "starts"
 m_Work:mg "Work"=some (.ref Ae)
 cl_Work:Cls K Ae
 na_Work_table:NoAttr K Ae "table"
 na_Work_width:NoAttr K Ae "width"
 na_Work_left:NoAttr K Ae "left"
 na_Work_right:NoAttr K Ae "right"
 na_Work_numbers:NoAttr K Ae "numbers"
 x_GAPS:∃ a,mg "GAPS"=some (.ref a)/\∀ H,SqT K H a (([32,16,8,4,2]:List Int).map V.int)
 x_MOST_ROWS:∃ t,mg "MOST_ROWS"=some (.int 40 t)
 n_isinstance:mg "isinstance"=none
 n_int:mg "int"=none
 n_bool:mg "bool"=none
 n_tuple:mg "tuple"=none
 n_zip:mg "zip"=none
 n_all:mg "all"=none
 n_list:mg "list"=none
 n_len:mg "len"=none
 n_range:mg "range"=none
 n_min:mg "min"=none
 n_enumerate:mg "enumerate"=none
 n_any:mg "any"=none
def cutI (ns:List Int) (lo hi:Option Int):List Int:=(ns.drop (HT.sIx ns.length 0 lo)).take (HT.sIx ns.length ns.length hi-HT.sIx ns.length 0 lo)
theorem Aq6 (ns:List Int) (lo hi:Option Int):cutV (ns.map V.int) lo hi=(cutI ns lo hi).map V.int:=by
 unfold cutV cutI
 rw [List.length_map,List.map_take,List.map_drop]
theorem Aq7 {ns:List Int}{lo hi:Option Int}{x:Int} (h:x∈cutI ns lo hi):x∈ns:=List.mem_of_mem_drop (List.mem_of_mem_take h)
theorem A94 (ns:List Int):(cutI ns (some 4) (some 20)).length<=16:=by
 unfold cutI
 have e1:HT.sIx ns.length 0 (some 4)=min 4 ns.length:=HT.sIx_nat _ _ 4
 have e2:HT.sIx ns.length ns.length (some 20)=min 20 ns.length:=HT.sIx_nat _ _ 20
 rw [e1,e2,List.length_take,List.length_drop]
 omega
theorem Ax8:(["number"]:List Str).Nodup:=by decide +kernel
theorem A39:(["old","new","quotient"]:List Str).Nodup:=by decide +kernel
theorem Ax7:(["row","width"]:List Str).Nodup:=by decide +kernel
theorem A82:(["j","table"]:List Str).Nodup:=by decide +kernel
theorem A81:(["row","j"]:List Str).Nodup:=by decide +kernel
theorem A80:(["i","size"]:List Str).Nodup:=by decide +kernel
theorem A79:(["j","i"]:List Str).Nodup:=by decide +kernel
theorem A35:(["left","right","a","b"]:List Str).Nodup:=by decide +kernel
theorem A34:(["row","paper"]:List Str).Nodup:=by decide +kernel
theorem A33:(["j","number","i"]:List Str).Nodup:=by decide +kernel
theorem A38:(["_law_row"]:List Str).Nodup:=by decide +kernel
theorem A37:(["_law_row","_law_j"]:List Str).Nodup:=by decide +kernel
theorem A36:(["_law_number"]:List Str).Nodup:=by decide +kernel
theorem As6:(["_law_number","_law_more","_law_turn"]:List Str).Nodup:=by decide +kernel
section
variable {P:Program}{w:World}{K:W.Frag}{mg:Str->Option Value}{base:Heap}{Ad Ab Ae:Addr}
abbrev E3:Stmt:=top 4
theorem Xg:FnScope ["thing"] ["thing"] (Aj E3):=⟨rfl,rfl,rfl,by decide +kernel,rfl,by decide +kernel,by decide +kernel⟩
theorem Xt {f:Addr}{fd:FuncData} (F:Fun K "is_whole" "is_whole" E3 f fd) (T:Txt K mg Ad Ab Ae) :FnOk P w K mg base CX0 1 f fd ["thing"] (Gd K):=by
 refine F.ok Xg (fun vs H Q E h=>?_) (fun C5 A outer s H vs Q E hr h=>?_)
 . obtain⟨x,d,rfl,hx,k⟩:=h
   rfl
 . obtain⟨x,d,rfl,hx,k⟩:=h
   refine⟨_,(Al (Bd (Vf (A6 (Ca (K:=K)) (by rfl) T.n_isinstance Bh (Aa (pv 0) (Aa (Hh (v:=.ty "int") rfl T.n_int boot_intT rfl) Ai))) (Zm (As3 (A6 (Ca (K:=K)) (by rfl) T.n_isinstance Bh (Aa (pv 0) (Aa (Hh (v:=.ty "bool") rfl T.n_bool Sr rfl) Ai)))))))),?_⟩
   refine⟨_,rfl,_,_,d,rfl,.inl rfl,hx,_,rfl,?_⟩
   refine ite2 (fun e=>?_) (fun e=>?_)
   . refine⟨_,rfl,_,_,d,rfl,.inr (.inl rfl),hx,_,rfl,?_⟩
     have e2:Ju d=!isD "bool" d:=by unfold Ju;rw [e];rfl
     rw [e2] at k
     exact k
   . have e2:Ju d=false:=by unfold Ju;simp [e]
     rw [e2] at k
     exact k
abbrev Bv:Stmt:=top 5
theorem L4:FnScope ["one","other","last","now","quotient","rest"] ["one","other"] (Aj Bv):=⟨rfl,rfl,rfl,by decide +kernel,rfl,by decide +kernel,by decide +kernel⟩
theorem Bt:(["one","other","last","now","quotient","rest"]:List Str).Nodup:=by decide +kernel
theorem Ma {f:Addr}{fd:FuncData} (F:Fun K "shared_divisor" "shared_divisor" Bv f fd) (T:Txt K mg Ad Ab Ae) :FnOk P w K mg base CX0 1 f fd ["one","other"] (Ka K):=by
 refine F.ok L4 (fun vs H Q E h=>?_) (fun C5 A outer s H vs Q E hr h=>?_)
 . obtain⟨n,p,rfl,hA,hB,lA,lB,k⟩:=h
   rfl
 . obtain⟨n,p,rfl,hA,hB,lA,lB,k⟩:=h
   refine⟨_,(Af (Av (i:=2) Bt (by rfl) (by first | exact Or.inl rfl | exact Or.inr rfl) (F5 (Aa (pv 0) (Aa Am (Aa Am Ai)))))
    (Af (Av (i:=3) Bt (by rfl) (by first | exact Or.inl rfl | exact Or.inr rfl) (F5 (Aa (pv 1) (Aa Am (Aa Am Ai)))))
    (Af (Oj PassesOwn.never (A7 Vj (A2 (A4 (K:=K)) (pv 3) Am (fun _ _=>rfl)) Am (Bg _)) (Af (Av (i:=4) Bt (by rfl) (by first | exact Or.inl rfl | exact Or.inr rfl) (Bb Gh (A2 (A4 (K:=K)) (pv 2) Am (fun _ _=>rfl)) (A2 (A4 (K:=K)) (pv 3) Am (fun _ _=>rfl))))
    (Af (Av (i:=5) Bt (by rfl) (by first | exact Or.inl rfl | exact Or.inr rfl) (Fb (Jy (K:=K)) (by rfl) T.n_tuple Kk (Aa (Cj (N':=["old","new","quotient"]) (cap:=[none,none,some 4]) (by rfl) (by kernel_rfl) (Av7 (K:=K) (by rfl) T.n_zip (Aa (pv 2) (Aa (pv 3) Ai))) (fun _ _ _ _=>(Mf (K:=K) (n:=2) (by rfl) (C7 (A3 (i:=0) A39 (by rfl) (by first | exact Or.inl rfl | exact Or.inr rfl)) (C7 (A3 (i:=1) A39 (by rfl) (by first | exact Or.inl rfl | exact Or.inr rfl)) L8)))) (fun _ _ _ _=>Cl) (fun _ _ _ _=>(Bb Pd (pv 0) (Bb op_mulX (pv 2) (pv 1))))) Ai)))
    (Af (Av (i:=2) Bt (by rfl) (by first | exact Or.inl rfl | exact Or.inr rfl) (pv 3))
    (Al (Av (i:=3) Bt (by rfl) (by first | exact Or.inl rfl | exact Or.inr rfl) (pv 5)))))))
    (Af (Dt (A7 g9 (A2 (A4 (K:=K)) (pv 2) Am (fun _ _=>rfl)) Am (Bg _)) (Al (Bd (Fb (Jy (K:=K)) (by rfl) T.n_tuple Kk (Aa (Cj (N':=["number"]) (cap:=[none]) (by rfl) (by kernel_rfl) (Af2 (K:=K) (pv 2)) (fun _ _ _ _=>(A3 (i:=0) Ax8 (by rfl) (by first | exact Or.inl rfl | exact Or.inr rfl))) (fun _ _ _ _=>Cl) (fun _ _ _ _=>(Nk Gw (pv 0)))) Ai)))) Bu)
    (Al (Bd (pv 2))))))),?_⟩
   refine⟨_,rfl,Ec (by simp),fun L0 hL0=>?_⟩
   have s0:Same H (upd H L0 (.tup [.int n,.int 1,.int 0])):=Same.new hL0
   refine⟨_,rfl,Ec (by simp),fun N0 hN0=>?_⟩
   have s1:Same (upd H L0 (.tup [.int n,.int 1,.int 0])) (upd (upd H L0 (.tup [.int n,.int 1,.int 0])) N0 (.tup [.int p,.int 0,.int 1])):=Same.new hN0
   refine B4 (fun σ' H'=>σ'=[some (.int n),some (.int p),some (.ref L0),some (.ref N0),none,none]/\H'=upd (upd H L0 (.tup [.int n,.int 1,.int 0])) N0 (.tup [.int p,.int 0,.int 1])) ?_ fun key0=>key0 _ _ ⟨rfl,rfl⟩
   rintro _ _ ⟨rfl,rfl⟩
   refine An (fun σ' H'=>∃ (L N:Addr) (a x y u v:Int) (o4 o5:Option V),σ'=[some (.int n),some (.int p),some (.ref L),some (.ref N),o4,o5]/\Same H H'/\SqT K H' L [.int a,.int x,.int y]/\Lat.EuI n p a x y 0 u v) ?_ fun key=>?_
   rotate_left
   . refine⟨fun m σ G=>∃ (L N:Addr) (a x y b u v:Int) (o4 o5:Option V),σ=[some (.int n),some (.int p),some (.ref L),some (.ref N),o4,o5]/\Same H G/\SqT K G L [.int a,.int x,.int y]/\SqT K G N [.int b,.int u,.int v]/\Lat.EuI n p a x y b u v/\a.natAbs<L9/\b.natAbs<L9/\m=b.natAbs,⟨_,L0,N0,n,1,0,p,0,1,none,none,rfl,s0.trans s1,.of (s1 _ _ Ag),.of Ag,Lat.EuI.start hA hB,lA,lB,rfl⟩,?_⟩
     rintro m σ G ⟨L,N,a,x,y,b,u,v,o4,o5,rfl,s2,hL,hN,hE,la,lb,rfl⟩
     refine⟨_,rfl,N,_,_,_,rfl,rfl,hN,rfl,rfl,_,rfl,?_⟩
     refine ite2 (fun h1=>?_) (fun h1=>?_)
     . have hb0:¬b=0:=by simpa using h1
       obtain⟨hE2,hlt⟩:=hE.step hA hb0
       obtain⟨_,_,_,_,lu,lv⟩:=hE.all hA hB
       have lq:(a.fdiv b).natAbs<L9:=by
        refine Nat.lt_of_le_of_lt ?_ la
        have h3:(a.fdiv b*b).natAbs<=a.natAbs+(a-a.fdiv b*b).natAbs:=by omega
        rw [Int.natAbs_mul] at h3
        have h4:0<b.natAbs:=Int.natAbs_pos.mpr hb0
        refine Nat.le_of_not_lt fun h5=>?_
        have h6:=Nat.mul_le_mul_right b.natAbs (show a.natAbs+1<=(a.fdiv b).natAbs from h5)
        rw [Nat.add_mul,Nat.one_mul] at h6
        have h7:=Nat.mul_le_mul_left a.natAbs h4
        omega
       have ok:∀ z:Int,z.natAbs<L9->IntMulOk (a.fdiv b) z:=fun z hz=>Ya lq hz
       refine⟨fun σ' G'=>∃ (L N:Addr) (a' x y b' u v:Int) (o4 o5:Option V),σ'=[some (.int n),some (.int p),some (.ref L),some (.ref N),o4,o5]/\Same H G'/\SqT K G' L [.int a',.int x,.int y]/\SqT K G' N [.int b',.int u,.int v]/\Lat.EuI n p a' x y b' u v/\a'.natAbs<L9/\b'.natAbs<L9/\b'.natAbs<b.natAbs,?_,?_⟩
       . rintro σ' G' ⟨L',N',a',x',y',b',u',v',o4',o5',rfl,q1,q2,q3,q4,q5,q6,q7⟩
         exact ⟨b'.natAbs,q7,L',N',a',x',y',b',u',v',o4',o5',rfl,q1,q2,q3,q4,q5,q6,rfl⟩
       refine⟨_,rfl,L,_,_,_,rfl,rfl,hL,rfl,_,rfl,N,_,_,_,rfl,rfl,hN,rfl,_,_,rfl,rfl,CBig.of9 hb0 lb,?_⟩
       refine⟨_,rfl,_,rfl,L,N,rfl,⟨_,hL⟩,⟨_,hN⟩,fun D hD=>?_⟩
       have gv:∀ (i:Nat) (e f:V),([.int a,.int x,.int y]:List V)[i]?=some e->([.int b,.int u,.int v]:List V)[i]?=some f->∃ e' f':Int,e=.int e'/\f=.int f'/\IntMulOk (a.fdiv b) f'/\i<3 ∧
        ([.int (a-a.fdiv b*b),.int (x-a.fdiv b*u),.int (y-a.fdiv b*v)]:List V)[i]?=some (.int (e'-a.fdiv b*f')):=by
        intro i e f he hf
        match i,he,hf with
        | 0,he,hf=>cases he;cases hf;exact ⟨a,b,rfl,rfl,ok _ lb,by decide,rfl⟩
        | 1,he,hf=>cases he;cases hf;exact ⟨x,u,rfl,rfl,ok _ (by omega),by decide,rfl⟩
        | 2,he,hf=>cases he;cases hf;exact ⟨y,v,rfl,rfl,ok _ (by omega),by decide,rfl⟩
        | i+3,he,hf=>simp at he
       refine t4 (K:=K) (a:=L) (b:=N) (xs:=[.int a,.int x,.int y]) (ys:=[.int b,.int u,.int v]) (n:=3) ⟨rfl,rfl⟩ (fun i zs τ G1=>Same G G1/\G1 D=some (.lst zs)/\zs=([.int (a-a.fdiv b*b),.int (x-a.fdiv b*u),.int (y-a.fdiv b*v)]:List V).take i/\∃ o1 o2,τ=[o1,o2,some (.int (a.fdiv b))])
        ⟨Same.new hD,Ag,rfl,none,none,rfl⟩ (fun i zs τ G1 _ ⟨s3,_⟩=>⟨s3.seqT hL,s3.seqT hN⟩) ?_ ?_
       . rintro i e f zs τ G1 pr he hf ⟨s3,hD3,hzs,o1,o2,rfl⟩ hpr
         obtain⟨e',f',rfl,rfl,hok,hi3,hnext⟩:=gv i e f he hf
         have sp:Same G1 (upd G1 pr (.tup [.int e',.int f'])):=Same.new hpr
         refine⟨pr,_,rfl,.of Ag,rfl,_,_,rfl,_,_,rfl,rfl,?_⟩
         refine⟨_,rfl,_,rfl,_,rfl,_,_,rfl,rfl,hok,_,_,rfl,rfl,?_⟩
         refine⟨sp _ _ hD3,small (by rw [hzs,List.length_take];omega),(s3.trans sp).turn hD,Ag,?_,_,_,rfl⟩
         rw [List.take_succ,hnext,hzs]
         rfl
       . rintro zs τ G1 ⟨s3,hD3,hzs,_⟩
         refine⟨D,_,rfl,.inl ⟨.of hD3,fun T1 hT1=>?_⟩⟩
         have s4:Same G1 (upd G1 T1 (.tup zs)):=Same.new hT1
         have hzs':zs=[.int (a-a.fdiv b*b),.int (x-a.fdiv b*u),.int (y-a.fdiv b*v)]:=hzs
         have hT2:SqT K (upd G1 T1 (.tup zs)) T1 [.int (a-a.fdiv b*b),.int (x-a.fdiv b*u),.int (y-a.fdiv b*v)]:=by rw [←hzs'];exact .of Ag
         exact ⟨_,rfl,_,rfl,N,T1,b,u,v,a-a.fdiv b*b,x-a.fdiv b*u,y-a.fdiv b*v,_,_,rfl,(s2.trans s3).trans s4,(s3.trans s4).seqT hN,hT2,hE2,lb,Nat.lt_trans hlt lb,hlt⟩
     . have hb0:b=0:=by simpa using h1
       subst hb0
       exact key _ _ ⟨L,N,a,x,y,u,v,o4,o5,rfl,s2,hL,hE⟩
   rintro _ G ⟨L,N,a,x,y,u,v,o4,o5,rfl,s2,hL,hE⟩
   obtain⟨e1,e2,e3⟩:=hE.last hA hB
   refine⟨_,rfl,L,_,_,_,rfl,rfl,hL,rfl,_,_,rfl,rfl,_,rfl,?_⟩
   refine ite2 (fun h1=>?_) (fun h1=>?_)
   . have ha:a<0:=by simpa using h1
     refine⟨_,rfl,L,rfl,⟨_,hL⟩,fun D hD=>?_⟩
     refine Aj3 (K:=K) (a:=L) (xs:=[.int a,.int x,.int y]) (fun i zs τ G1=>Same G G1/\G1 D=some (.lst zs)/\zs=([.int (-a),.int (-x),.int (-y)]:List V).take i/\∃ o1,τ=[o1])
      ⟨Same.new hD,Ag,rfl,none,rfl⟩ (fun i zs τ G1 _ ⟨s3,_⟩=>s3.seqT hL) ?_ ?_
     . rintro i e zs τ G1 he ⟨s3,hD3,hzs,o1,rfl⟩
       have gv:∃ e':Int,e=.int e'/\i<3/\([.int (-a),.int (-x),.int (-y)]:List V)[i]?=some (.int (-e')):=by
        match i,he with
        | 0,he=>cases he;exact ⟨a,rfl,by decide,rfl⟩
        | 1,he=>cases he;exact ⟨x,rfl,by decide,rfl⟩
        | 2,he=>cases he;exact ⟨y,rfl,by decide,rfl⟩
        | i+3,he=>simp at he
       obtain⟨e',rfl,hi3,hnext⟩:=gv
       refine⟨_,rfl,_,rfl,hD3,small (by rw [hzs,List.length_take];omega),s3.turn hD,Ag,?_,_,rfl⟩
       rw [List.take_succ,hnext,hzs]
       rfl
     . rintro zs τ G1 ⟨s3,hD3,hzs,_⟩
       refine⟨D,_,rfl,.inl ⟨.of hD3,fun T1 hT1=>?_⟩⟩
       have s4:Same G1 (upd G1 T1 (.tup zs)):=Same.new hT1
       have hzs':zs=[.int (-a),.int (-x),.int (-y)]:=hzs
       exact k T1 (-a) (-x) (-y) _ ((s2.trans s3).trans s4) (by rw [←hzs'];exact .of Ag) (e2 ha)
   . have ha:¬a<0:=by simpa using h1
     exact ⟨_,rfl,k L a x y G s2 hL (e1 (by omega))⟩
abbrev Hz:Stmt:=top 11
theorem Aa4:FnScope ["table","j"] ["table","j"] (Aj Hz):=⟨rfl,rfl,rfl,by decide +kernel,rfl,by decide +kernel,by decide +kernel⟩
theorem Ac4 {f:Addr}{fd:FuncData} (F:Fun K "column" "column" Hz f fd) (T:Txt K mg Ad Ab Ae) :FnOk P w K mg base CX0 1 f fd ["table","j"] (Ou K):=by
 refine F.ok Aa4 (fun vs H Q E h=>?_) (fun C5 A outer s H vs Q E hr h=>?_)
 . obtain⟨v,h,w,j,f,rfl,hv,hh,hj,k⟩:=h
   rfl
 . obtain⟨v,h,w,j,f,rfl,hv,hh,hj,k⟩:=h
   refine⟨_,(Al (Bd (Cj (N':=["row","j"]) (cap:=[none,some 1]) (by rfl) (by kernel_rfl) (Df (K:=K) (pv 0)) (fun _ _ _ _=>(A3 (i:=0) A81 (by rfl) (by first | exact Or.inl rfl | exact Or.inr rfl))) (fun _ _ _ _=>Cl) (fun _ _ _ _=>(A2 (As (K:=K)) (pv 0) (pv 1) (fun _ _=>rfl)))))),?_⟩
   obtain⟨a,us,rfl,hq,hul,hrow⟩:=Li hv
   refine⟨_,rfl,a,rfl,⟨_,hq⟩,fun D hD=>?_⟩
   refine Ct (K:=K) (a:=a) (xs:=us) (fun i ys τ H1=>Same H H1/\H1 D=some (.lst ys)/\ys=VI i (fun i=>f i j)/\∃ o,τ=[o,some (.int j)])
    ⟨Same.new hD,Ag,rfl,none,rfl⟩ (fun i ys τ H1 _ ⟨s1,_⟩=>s1.seq hq) ?_ ?_
   . rintro i x ys τ H1 hx ⟨s1,hD1,rfl,o,rfl⟩
     obtain⟨hi,b,rfl,hb⟩:=hrow i _ hx
     refine⟨_,rfl,_,rfl,b,_,_,_,rfl,rfl,s1.seq hb,A63 hj,?_⟩
     refine⟨hD1,small (by rw [A5];omega),s1.turn hD,Ag,?_,_,rfl⟩
     rw [Gs]
   . rintro ys τ H1 ⟨s1,hD1,rfl,_⟩
     rw [hul] at hD1
     exact k D H1 hD s1 hD1
abbrev F2:Stmt:=top 13
theorem e9:FnScope ["size","i"] ["size","i"] (Aj F2):=⟨rfl,rfl,rfl,by decide +kernel,rfl,by decide +kernel,by decide +kernel⟩
theorem i4 {f:Addr}{fd:FuncData} (F:Fun K "one_row" "one_row" F2 f fd) (T:Txt K mg Ad Ab Ae) :FnOk P w K mg base CX0 1 f fd ["size","i"] (Lu K):=by
 refine F.ok e9 (fun vs H Q E h=>?_) (fun C5 A outer s H vs Q E hr h=>?_)
 . obtain⟨n,i,rfl,hn,k⟩:=h
   rfl
 . obtain⟨n,i,rfl,hn,k⟩:=h
   refine⟨_,(Al (Bd (Cj (N':=["j","i"]) (cap:=[none,some 1]) (by rfl) (by kernel_rfl) (C0 (by rfl) T.n_range (Aa (pv 0) Ai)) (fun _ _ _ _=>(A3 (i:=0) A79 (by rfl) (by first | exact Or.inl rfl | exact Or.inr rfl))) (fun _ _ _ _=>Cl) (fun _ _ _ _=>(Ao1 (A7 Ha (pv 0) (pv 1) (Bg _)) Am Am))))),?_⟩
   refine⟨_,rfl,_,rfl,by omega,by omega,fun D hD=>?_⟩
   refine Kj (fun j ys τ H1=>Same H H1/\H1 D=some (.lst ys)/\ys=VI j (fun j=>if j=i then 1 else 0)/\∃ o,τ=[o,some (.int i)])
    ⟨Same.new hD,Ag,rfl,none,rfl⟩ ?_ ?_
   . rintro j ys τ H1 hj ⟨s1,hD1,rfl,o,rfl⟩
     refine⟨_,rfl,_,rfl,rfl,_,rfl,?_⟩
     have sz:(VI j fun j=>if j=i then 1 else 0).length<sizeLine:=small (by rw [A5];omega)
     refine ite2 (fun h1=>?_) (fun h1=>?_)
     . have e0:(0:Int)+(j:Int)=(i:Int):=by simpa using h1
       have e:j=i:=by omega
       refine⟨hD1,sz,s1.turn hD,Ag,?_,_,rfl⟩
       rw [Gs,if_pos e]
     . have e0:¬(0:Int)+(j:Int)=(i:Int):=by simpa using h1
       have e:¬j=i:=by omega
       refine⟨hD1,sz,s1.turn hD,Ag,?_,_,rfl⟩
       rw [Gs,if_neg e]
   . rintro ys τ H1 ⟨s1,hD1,rfl,_⟩
     rw [Int.toNat_natCast] at hD1
     exact k D H1 hD s1 hD1
abbrev L5:Stmt:=top 14
theorem An5:FnScope ["a","one","b","other"] ["a","one","b","other"] (Aj L5):=⟨rfl,rfl,rfl,by decide +kernel,rfl,by decide +kernel,by decide +kernel⟩
theorem Ao4 {f:Addr}{fd:FuncData} (F:Fun K "mixed" "mixed" L5 f fd) (T:Txt K mg Ad Ab Ae) :FnOk P w K mg base CX0 1 f fd ["a","one","b","other"] (Oi K):=by
 refine F.ok An5 (fun vs H Q E h=>?_) (fun C5 A outer s H vs Q E hr h=>?_)
 . obtain⟨a,b,x,y,n,p,q,rfl,hx,hy,hn,hm,k⟩:=h
   rfl
 . obtain⟨a,b,x,y,n,p,q,rfl,hx,hy,hn,hm,k⟩:=h
   refine⟨_,(Al (Bd (Cj (N':=["left","right","a","b"]) (cap:=[none,none,some 0,some 2]) (by rfl) (by kernel_rfl) (Ab8 (K:=K) (by rfl) T.n_zip (Aa (pv 1) (Aa (pv 3) Ai))) (fun _ _ _ _=>(Mf (K:=K) (n:=2) (by rfl) (C7 (A3 (i:=0) A35 (by rfl) (by first | exact Or.inl rfl | exact Or.inr rfl)) (C7 (A3 (i:=1) A35 (by rfl) (by first | exact Or.inl rfl | exact Or.inr rfl)) L8)))) (fun _ _ _ _=>Cl) (fun _ _ _ _=>(Bb En (Bb op_mulX (pv 2) (pv 0)) (Bb op_mulX (pv 3) (pv 1))))))),?_⟩
   refine⟨_,rfl,_,rfl,x,y,rfl,⟨_,hx⟩,⟨_,hy⟩,fun D hD=>?_⟩
   refine Qa (K:=K) (a:=x) (b:=y) (xs:=VI n p) (ys:=VI n q) (n:=n) (by rw [A5,A5,Nat.min_self]) (fun i zs τ H1=>Same H H1/\H1 D=some (.lst zs)/\zs=VI i (fun j=>a*p j+b*q j)/\∃ o1 o2,τ=[o1,o2,some (.int a),some (.int b)])
    ⟨Same.new hD,Ag,rfl,none,none,rfl⟩ (fun i zs τ H1 _ ⟨s1,_⟩=>⟨s1.seq hx,s1.seq hy⟩) ?_ ?_
   . rintro i u v zs τ H1 pr hu hv ⟨s1,hD1,rfl,o1,o2,rfl⟩ hp
     obtain⟨hi,rfl⟩:=Lo hu
     obtain⟨_,rfl⟩:=Lo hv
     have sp:Same H1 (upd H1 pr (.tup [.int (p i),.int (q i)])):=Same.new hp
     refine⟨pr,_,rfl,.of Ag,rfl,_,_,rfl,_,_,rfl,rfl,?_⟩
     refine⟨_,rfl,_,rfl,_,_,rfl,rfl,(hm i hi).1,_,rfl,_,rfl,_,_,rfl,rfl,(hm i hi).2,_,_,rfl,rfl,?_⟩
     refine⟨sp _ _ hD1,small (by rw [A5];omega),(s1.trans sp).turn hD,Ag,?_,_,_,rfl⟩
     rw [Gs]
   . rintro zs τ H1 ⟨s1,hD1,rfl,_⟩
     exact k D H1 hD s1 hD1
abbrev Ia:Stmt:=top 17
theorem Aa5:FnScope ["turn"] ["turn"] (Aj Ia):=⟨rfl,rfl,rfl,by decide +kernel,rfl,by decide +kernel,by decide +kernel⟩
theorem Ac5 {f:Addr}{fd:FuncData} (F:Fun K "across" "across" Ia f fd) (T:Txt K mg Ad Ab Ae) :FnOk P w K mg base CX0 1 f fd ["turn"] (Ov K):=by
 refine F.ok Aa5 (fun vs H Q E h=>?_) (fun C5 A outer s H vs Q E hr h=>?_)
 . obtain⟨u,t,rfl,hu,k⟩:=h
   rfl
 . obtain⟨u,t,rfl,hu,k⟩:=h
   refine⟨_,(Af (Dt (A7 Ha (A2 (A4 (K:=K)) (pv 0) Am (fun _ _=>rfl)) Fk (Bg _)) (Al (Bd (F5 (Aa Fk (Aa (A2 (A4 (K:=K)) (pv 0) Am (fun _ _=>rfl)) (Aa (A2 (A4 (K:=K)) (pv 0) Am (fun _ _=>rfl)) (Aa (Nk Gw (A2 (A4 (K:=K)) (pv 0) Am (fun _ _=>rfl))) Ai))))))) Bu)
    (Al (Bd (pv 0)))),?_⟩
   cases t with
   | ad i j n =>
     obtain⟨ta,vs,rfl,hT,rT⟩:=hu
     obtain⟨_,_,rfl,rfl,_,_,rfl,rfl,_,_,rfl,rfl,_,_,rfl,rfl,rfl⟩:=rT
     refine⟨_,rfl,ta,_,_,_,rfl,rfl,hT,rfl,rfl,_,rfl,?_⟩
     refine ifP (by decide +kernel) ?_
     refine⟨_,rfl,ta,_,_,_,rfl,rfl,hT,rfl,_,rfl,ta,_,_,_,rfl,rfl,hT,rfl,_,rfl,ta,_,_,_,rfl,rfl,hT,rfl,_,rfl,Ec (by simp),fun T1 hT1=>?_⟩
     exact k _ _ (Same.new hT1) ⟨T1,_,rfl,.of Ag,⟨_,_,rfl,rfl,_,_,rfl,rfl,_,_,rfl,rfl,_,_,rfl,rfl,rfl⟩⟩
   | mi i =>
     obtain⟨ta,vs,rfl,hT,rT⟩:=id hu
     obtain⟨_,_,rfl,rfl,_,_,rfl,rfl,rfl⟩:=rT
     refine⟨_,rfl,ta,_,_,_,rfl,rfl,hT,rfl,rfl,_,rfl,?_⟩
     refine ifN (by decide +kernel) ?_
     exact ⟨_,rfl,k _ _ (Same.refl H) hu⟩
   | sw i j =>
     obtain⟨ta,vs,rfl,hT,rT⟩:=id hu
     obtain⟨_,_,rfl,rfl,_,_,rfl,rfl,_,_,rfl,rfl,rfl⟩:=rT
     refine⟨_,rfl,ta,_,_,_,rfl,rfl,hT,rfl,rfl,_,rfl,?_⟩
     refine ifN (by decide +kernel) ?_
     exact ⟨_,rfl,k _ _ (Same.refl H) hu⟩
abbrev Ch:Stmt:=Dx (top 18) 0
theorem O5:FnScope ["self","rows","backs"] ["self","rows","backs"] (Aj Ch):=⟨rfl,rfl,rfl,by decide +kernel,rfl,by decide +kernel,by decide +kernel⟩
theorem Hi {f:Addr}{fd:FuncData} (F:Fun K "__init__" "Lines.__init__" Ch f fd) (T:Txt K mg Ad Ab Ae) :FnOk P w K mg base CX0 1 f fd ["self","rows","backs"] (Hw K Ad Ab Ae):=by
 refine F.ok O5 (fun vs H Q E h=>?_) (fun C5 A outer s H vs Q E hr h=>?_)
 . obtain⟨p,dx,C,r,b,rfl,hC,hp,k⟩:=h
   rfl
 . obtain⟨p,dx,C,r,b,rfl,hC,hp,k⟩:=h
   refine⟨_,(Af (Dw (K:=K) (pv 0) (pv 1))
    (Al (Dw (K:=K) (pv 0) (pv 2)))),?_⟩
   have hc:Cls K C/\NoAttr K C "rows"/\NoAttr K C "backs":=by
    rcases hC with rfl | rfl
    . exact ⟨T.cl_Lines,T.na_Lines_rows,T.na_Lines_backs⟩
    . exact ⟨T.cl_Stairs,T.na_Stairs_rows,T.na_Stairs_backs⟩
   refine⟨_,rfl,_,rfl,p,C,dx,_,rfl,hp,hc.1,hc.2.1,by simp,?_⟩
   refine⟨_,rfl,_,rfl,p,C,dx,_,rfl,Ag,hc.1,hc.2.2,by simp [putF],?_⟩
   exact k _ _ rfl rfl
abbrev E2:Stmt:=top 22
theorem Xf:FnScope ["row","at"] ["row"] (Aj E2):=⟨rfl,rfl,rfl,by decide +kernel,rfl,by decide +kernel,by decide +kernel⟩
theorem Pj:(["row","at"]:List Str).Nodup:=by decide +kernel
theorem Xs {f:Addr}{fd:FuncData} (F:Fun K "start_of" "start_of" E2 f fd) (T:Txt K mg Ad Ab Ae) :FnOk P w K mg base CX0 1 f fd ["row"] (He K):=by
 refine F.ok Xf (fun vs H Q E h=>?_) (fun C5 A outer s H vs Q E hr h=>?_)
 . obtain⟨c,W,st,u,rfl,hq,hb,hW,k⟩:=h
   rfl
 . obtain⟨c,W,st,u,rfl,hq,hb,hW,k⟩:=h
   refine⟨_,(Af (Av (i:=1) Pj (by rfl) (by first | exact Or.inl rfl | exact Or.inr rfl) Am)
    (Af (Oj PassesOwn.never (A7 Ha (A2 (As (K:=K)) (pv 0) (pv 1) (fun _ _=>rfl)) Am (Bg _)) (Al (Av (i:=1) Pj (by rfl) (by first | exact Or.inl rfl | exact Or.inr rfl) (Bb En (pv 1) Am))))
    (Al (Bd (pv 1))))),?_⟩
   obtain⟨b1,b2,b3⟩:=hb
   refine B4 (fun σ' H'=>σ'=[some (.ref c),some (.int (0:Nat))]/\H=H') ?_ fun key0=>key0 _ _ ⟨rfl,rfl⟩
   rintro _ _ ⟨rfl,rfl⟩
   refine An (fun σ' H'=>σ'=[some (.ref c),some (.int (st:Int))]/\H=H') ?_ fun key=>?_
   rotate_left
   . refine⟨fun m σ G=>∃ j:Nat,σ=[some (.ref c),some (.int (j:Int))]/\H=G/\j<=st/\m=st-j,⟨_,0,rfl,rfl,Nat.zero_le _,rfl⟩,?_⟩
     rintro m σ _ ⟨j,rfl,rfl,hj,rfl⟩
     refine⟨_,rfl,_,rfl,c,_,_,_,rfl,rfl,hq,Az (Bz (by omega)),rfl,_,rfl,?_⟩
     refine ite2 (fun h1=>?_) (fun h1=>?_)
     . have h0:u j=0:=by simpa using h1
       have hlt:j<st:=Nat.lt_of_le_of_ne hj fun z=>b2 (z▸h0)
       refine⟨fun σ' G'=>∃ j':Nat,σ'=[some (.ref c),some (.int (j':Int))]/\H=G'/\j'=j+1,?_,?_⟩
       . rintro σ' G' ⟨j',rfl,rfl,rfl⟩
         exact ⟨st-(j+1),by omega,j+1,rfl,rfl,hlt,rfl⟩
       . exact ⟨_,rfl,_,_,rfl,rfl,j+1,rfl,rfl,rfl⟩
     . have h0:¬u j=0:=by simpa using h1
       have hlt:j=st:=by
        rcases Nat.lt_or_ge j st with h | h
        . exact absurd (b1 j h) h0
        . omega
       subst hlt
       exact key _ _ ⟨rfl,rfl⟩
   rintro _ _ ⟨rfl,rfl⟩
   exact ⟨_,rfl,k⟩
abbrev Co:Stmt:=top 28
theorem Qy:FnScope ["table","i","row"] ["table"] (Aj Co):=⟨rfl,rfl,rfl,by decide +kernel,rfl,by decide +kernel,by decide +kernel⟩
theorem Jx:(["table","i","row"]:List Str).Nodup:=by decide +kernel
theorem Q7 {f:Addr}{fd:FuncData} (F:Fun K "is_straight" "is_straight" Co f fd) (T:Txt K mg Ad Ab Ae) :FnOk P w K mg base CX0 1 f fd ["table"] (E8 K):=by
 refine F.ok Qy (fun vs H Q E h=>?_) (fun C5 A outer s H vs Q E hr h=>?_)
 . obtain⟨v,n,w,M,rfl,hv,hn,hw,k1,k2⟩:=h
   rfl
 . obtain⟨v,n,w,M,rfl,hv,hn,hw,k1,k2⟩:=h
   refine⟨_,(Af (Fj PassesOwn.never rfl (Ab9 (K:=K) (by rfl) T.n_enumerate (Aa (pv 0) Ai)) (Mf (K:=K) (n:=2) (by rfl) (C7 (A3 (i:=1) Jx (by rfl) (by first | exact Or.inl rfl | exact Or.inr rfl)) (C7 (A3 (i:=2) Jx (by rfl) (by first | exact Or.inl rfl | exact Or.inr rfl)) L8))) (Al (Dt (Kv (A6 (l9 (K:=K) (by rfl)) (by rfl) T.n_any Ak8 (Aa (Cj (N':=["j","number","i"]) (cap:=[none,none,some 1]) (by rfl) (by kernel_rfl) (Ab9 (K:=K) (by rfl) T.n_enumerate (Aa (pv 2) Ai)) (fun _ _ _ _=>(Mf (K:=K) (n:=2) (by rfl) (C7 (A3 (i:=0) A33 (by rfl) (by first | exact Or.inl rfl | exact Or.inr rfl)) (C7 (A3 (i:=1) A33 (by rfl) (by first | exact Or.inl rfl | exact Or.inr rfl)) L8)))) (fun _ _ _ _=>(Av4 (A7 Vj (pv 0) (pv 2) (Bg _)))) (fun _ _ _ _=>(Pc Vj (pv 1) Am (Bg _)))) Ai))) (Al (Bd Ao2)) Bu)))
    (Al (Bd Ao2))),?_⟩
   obtain⟨ta,us,rfl,hq,hul,hrow⟩:=Li hv
   refine An (fun σ' H'=>∃ o1 o2,σ'=[some (.ref ta),o1,o2]/\Same H H'/\Lat.Straight n w M) ?_ fun key=>?_
   rotate_left
   . refine⟨_,rfl,ta,rfl,⟨us,hq⟩,?_⟩
     refine Aq1 (K:=K) (a:=ta) (xs:=us) (fun i σ G=>∃ o1 o2,σ=[some (.ref ta),o1,o2]/\Same H G/\Lat.Straight i w M)
      ⟨none,none,rfl,Same.refl H,fun i j hi=>by omega⟩ (fun i σ G _ ⟨_,_,_,s1,_⟩=>s1.seq hq) ?_ ?_
     . rintro i v σ G p hv ⟨o1,o2,rfl,s1,hS⟩ hp
       obtain⟨hi,b,rfl,hb⟩:=hrow i v hv
       have sp:Same G (upd G p (.tup [.int i,.ref b])):=Same.new hp
       refine⟨p,_,rfl,.of Ag,rfl,_,_,rfl,_,_,rfl,rfl,?_⟩
       generalize upd G p (.tup [.int i,.ref b])=G1 at sp
       have s2:=s1.trans sp
       refine⟨_,rfl,b,rfl,⟨_,s2.seq hb⟩,fun D hD=>?_⟩
       refine Aj6 (K:=K) (a:=b) (xs:=VI w (M i)) (fun j zs τ G2=>∃ bs:List Bool,zs=bs.map V.bl/\bs.length<=j/\(bs.any id=true↔∃ c,c<j/\c≠i/\M i c≠0)/\Same G1 G2/\G2 D=some (.lst zs)/\j<=w/\∃ o1 o2,τ=[o1,o2,some (.int (i:Int))])
        ⟨[],rfl,Nat.le_refl _,⟨fun z=>by simp at z,fun ⟨c,hc,_⟩=>by omega⟩,Same.new hD,Ag,Nat.zero_le _,none,none,rfl⟩ (fun j zs τ G2 _ ⟨_,_,_,_,g,_⟩=>g.seq (s2.seq hb)) ?_ ?_
       . rintro j y zs τ G2 pr hy ⟨bs,rfl,hbl,hiff,g,hDG,hj,q1,q2,rfl⟩ hpr
         obtain⟨hjw,rfl⟩:=Lo hy
         have gp:Same G2 (upd G2 pr (.tup [.int j,.int (M i j)])):=Same.new hpr
         refine⟨pr,_,rfl,.of Ag,rfl,_,_,rfl,_,_,rfl,rfl,?_⟩
         generalize upd G2 pr (.tup [.int j,.int (M i j)])=G3 at gp
         refine⟨_,rfl,_,rfl,rfl,_,rfl,?_⟩
         refine ite2 (fun h1=>?_) (fun h1=>?_)
         . have hji:j≠i:=by
            have:¬((j:Nat):Int)=(i:Int):=by simpa using h1
            omega
           refine⟨_,rfl,rfl,gp _ _ hDG,small (by rw [List.length_map];omega),bs++[!(decide (M i j=0))],?_,by simp;omega,?_,(g.trans gp).turn hD,Ag,hjw,_,_,rfl⟩
           . rw [List.map_append]
             congr 1
             by_cases z:M i j=0<;>simp [z]
           . rw [List.any_append,Bool.or_eq_true,hiff]
             constructor
             . rintro (⟨c,h1,h2,h3⟩ | h)
               . exact ⟨c,by omega,h2,h3⟩
               . exact ⟨j,by omega,hji,by simpa using h⟩
             . rintro ⟨c,h1,h2,h3⟩
               rcases Nat.lt_or_ge c j with h | h
               . exact .inl ⟨c,h,h2,h3⟩
               . have:c=j:=by omega
                 subst this
                 exact .inr (by simpa using h3)
         . have hji:j=i:=by
            have:((j:Nat):Int)=(i:Int):=by simpa using h1
            omega
           refine⟨bs,rfl,by omega,hiff.trans ⟨fun ⟨c,h1,h2⟩=>⟨c,by omega,h2⟩,fun ⟨c,h1,h2,h3⟩=>⟨c,by omega,h2,h3⟩⟩,g.trans gp,gp _ _ hDG,hjw,_,_,rfl⟩
       . rintro zs τ G2 ⟨bs,rfl,_,hiff,g,hDG,_⟩
         rw [A5] at hiff
         refine⟨D,bs,rfl,.of hDG,_,rfl,?_⟩
         refine ite2 (fun h1=>?_) (fun h1=>?_)
         . have h2:bs.any id=true:=by simpa using h1
           obtain⟨c,c1,c2,c3⟩:=hiff.mp h2
           exact k2 (fun z=>c3 (z i c hi c1 fun e=>c2 e.symm)) _ (s2.trans g)
         . have h2:¬bs.any id=true:=by simpa using h1
           refine⟨_,_,rfl,s2.trans g,fun x c hx hc hne=>?_⟩
           rcases Nat.lt_or_ge x i with h | h
           . exact hS x c h hc hne
           . have:x=i:=by omega
             subst this
             exact Decidable.byContradiction fun z=>h2 (hiff.mpr ⟨c,hc,fun e=>hne e.symm,z⟩)
     . rintro σ G ⟨o1,o2,rfl,s1,hS⟩
       rw [hul] at hS
       exact key _ _ ⟨_,_,rfl,s1,hS⟩
   rintro _ G ⟨o1,o2,rfl,s1,hS⟩
   exact k1 hS _ s1
abbrev F4:Stmt:=top 30
theorem f7:FnScope ["_law_found"] ["_law_found"] (Aj F4):=⟨rfl,rfl,rfl,by decide +kernel,rfl,by decide +kernel,by decide +kernel⟩
theorem i6 {f:Addr}{fd:FuncData} (F:Fun K "_law_whole" "_law_whole" F4 f fd) (T:Txt K mg Ad Ab Ae) :FnOk P w K mg base CX0 1 f fd ["_law_found"] (Lv K):=by
 refine F.ok f7 (fun vs H Q E h=>?_) (fun C5 A outer s H vs Q E hr h=>?_)
 . obtain⟨x,d,rfl,hx,k⟩:=h
   rfl
 . obtain⟨x,d,rfl,hx,k⟩:=h
   refine⟨_,(Al (Bd (Vf (A6 (Ca (K:=K)) (by rfl) T.n_isinstance Bh (Aa (pv 0) (Aa (Hh (v:=.ty "int") rfl T.n_int boot_intT rfl) Ai))) (Zm (As3 (A6 (Ca (K:=K)) (by rfl) T.n_isinstance Bh (Aa (pv 0) (Aa (Hh (v:=.ty "bool") rfl T.n_bool Sr rfl) Ai)))))))),?_⟩
   refine⟨_,rfl,_,_,d,rfl,.inl rfl,hx,_,rfl,?_⟩
   refine ite2 (fun e=>?_) (fun e=>?_)
   . refine⟨_,rfl,_,_,d,rfl,.inr (.inl rfl),hx,_,rfl,?_⟩
     have e2:Ju d=!isD "bool" d:=by unfold Ju;rw [e];rfl
     rw [e2] at k
     exact k
   . have e2:Ju d=false:=by unfold Ju;simp [e]
     rw [e2] at k
     exact k
abbrev Ds:Stmt:=top 31
theorem U8:FnScope ["_law_script","_law_k"] ["_law_script","_law_k"] (Aj Ds):=⟨rfl,rfl,rfl,by decide +kernel,rfl,by decide +kernel,by decide +kernel⟩
theorem Vm {f:Addr}{fd:FuncData} (F:Fun K "_law_cell_at" "_law_cell_at" Ds f fd) (T:Txt K mg Ad Ab Ae) :FnOk P w K mg base CX0 1 f fd ["_law_script","_law_k"] (Hd K):=by
 refine F.ok U8 (fun vs H Q E h=>?_) (fun C5 A outer s H vs Q E hr h=>?_)
 . obtain⟨a,ns,k,rfl,hS,h0,hl,kq⟩:=h
   rfl
 . obtain⟨a,ns,k,rfl,hS,h0,hl,kq⟩:=h
   refine⟨_,(Af (Dt (A7 g9 (pv 1) (A6 (A0 (K:=K)) (by rfl) T.n_len PySem.boot_len (Aa (pv 0) Ai)) (Bg _)) (Al (Bd (A2 (As (K:=K)) (pv 0) (pv 1) (fun _ _=>rfl)))) Bu)
    (Al (Bd Am))),?_⟩
   refine⟨_,rfl,_,rfl,a,_,rfl,.inl hS,_,_,rfl,rfl,_,rfl,?_⟩
   refine ite2 (fun h1=>?_) (fun h1=>?_)
   . have h2:k<(ns.length:Int):=by simpa using h1
     have e:atI (ns.map V.int) k=some (.int (Do ns k)):=by
      obtain⟨j,rfl⟩:=Int.eq_ofNat_of_zero_le h0
      refine Az ?_
      have hj:j<ns.length:=by omega
      rw [List.getElem?_map,List.getElem?_eq_getElem hj]
      simp [Do,hj]
     exact ⟨_,rfl,_,rfl,a,_,k,_,rfl,rfl,hS,e,kq⟩
   . have h2:¬k<(ns.length:Int):=by simpa using h1
     have e:Do ns k=0:=by
      unfold Do
      have:ns.length<=k.toNat:=by omega
      simp [this]
     rw [e] at kq
     exact kq
abbrev Id:Stmt:=top 32
theorem Aa8:FnScope ["_law_table"] ["_law_table"] (Aj Id):=⟨rfl,rfl,rfl,by decide +kernel,rfl,by decide +kernel,by decide +kernel⟩
theorem Ac8 {f:Addr}{fd:FuncData} (F:Fun K "_law_copy" "_law_copy" Id f fd) (T:Txt K mg Ad Ab Ae) :FnOk P w K mg base CX0 1 f fd ["_law_table"] (Kq K):=by
 refine F.ok Aa8 (fun vs H Q E h=>?_) (fun C5 A outer s H vs Q E hr h=>?_)
 . obtain⟨v,h,w,f,rfl,hv,hh,k⟩:=h
   rfl
 . obtain⟨v,h,w,f,rfl,hv,hh,k⟩:=h
   refine⟨_,(Al (Bd (Cj (N':=["_law_row"]) (cap:=[none]) (by rfl) (by kernel_rfl) (Df (K:=K) (pv 0)) (fun _ _ _ _=>(A3 (i:=0) A38 (by rfl) (by first | exact Or.inl rfl | exact Or.inr rfl))) (fun _ _ _ _=>Cl) (fun _ _ _ _=>(Fb (Dg (K:=K)) (by rfl) T.n_list De (Aa (pv 0) Ai)))))),?_⟩
   obtain⟨a,us,rfl,hq,hul,hrow⟩:=Li hv
   refine⟨_,rfl,a,rfl,⟨_,hq⟩,fun D hD=>?_⟩
   refine Ct (K:=K) (a:=a) (xs:=us) (fun i ys τ H1=>∃ as,as.length=i/\ys=as.map V.ref/\Rows H H1 D as w f/\∃ o,τ=[o])
    ⟨[],rfl,rfl,Rows.nil hD,none,rfl⟩ (fun i ys τ H1 _ ⟨as,_,_,R,_⟩=>R.same.seq hq) ?_ ?_
   . rintro i x ys τ H1 hx ⟨as,hal,rfl,R,o,rfl⟩
     obtain⟨hi,b,rfl,hb⟩:=hrow i _ hx
     refine⟨_,rfl,b,_,rfl,.inl (R.same.seq hb),fun L hL=>?_⟩
     have sL:Same H1 (upd H1 L (.lst (VI w (f i)))):=Same.new hL
     exact ⟨sL _ _ R.at,small (by rw [List.length_map];omega),as++[L],by simp [hal],by rw [List.map_append];rfl,R.push hL sL (by rw [hal];exact Ag),_,rfl⟩
   . rintro ys τ H1 ⟨as,hal,rfl,R,_⟩
     exact k D as H1 (by omega) R
abbrev Dr:Stmt:=top 33
theorem U7:FnScope ["_law_cell","_law_lines","_law_number","_law_at","_law_other"] ["_law_cell","_law_lines","_law_number"] (Aj Dr):=⟨rfl,rfl,rfl,by decide +kernel,rfl,by decide +kernel,by decide +kernel⟩
theorem M0:(["_law_cell","_law_lines","_law_number","_law_at","_law_other"]:List Str).Nodup:=by decide +kernel
theorem Vl {f:Addr}{fd:FuncData} (F:Fun K "_law_turn_by" "_law_turn_by" Dr f fd) (T:Txt K mg Ad Ab Ae) :FnOk P w K mg base CX0 1 f fd ["_law_cell","_law_lines","_law_number"] (Hc K):=by
 refine F.ok U7 (fun vs H Q E h=>?_) (fun C5 A outer s H vs Q E hr h=>?_)
 . obtain⟨c,n,m,rfl,hm,k0,k1⟩:=h
   rfl
 . obtain⟨c,n,m,rfl,hm,k0,k1⟩:=h
   refine⟨_,(Af (Dt (A7 Ha (pv 1) Am (Bg _)) (Al (Bd Sg)) Bu)
    (Af (Av (i:=3) M0 (by rfl) (by first | exact Or.inl rfl | exact Or.inr rfl) (Bb Ed (Bb Kc (pv 0) Am) (pv 1)))
    (Af (Dt (PW.pt (Tl (A7 Ha (pv 1) Am (Bg _)) (U9 (A7 Ha (Bb Ed (pv 0) Am) Am (Bg _))))) (Al (Bd (F5 (Aa Fk (Aa (pv 3) Ai))))) Bu)
    (Af (Av (i:=4) M0 (by rfl) (by first | exact Or.inl rfl | exact Or.inr rfl) (Bb Ed (Bb En (Bb En (pv 3) Am) (Bb Ed (Bb Kc (Bb Kc (pv 0) Am) (pv 1)) (Bb Pd (pv 1) Am))) (pv 1)))
    (Af (Dt (A7 Ha (Bb Ed (pv 0) Am) Am (Bg _)) (Al (Bd (F5 (Aa Fk (Aa (pv 3) (Aa (pv 4) Ai)))))) Bu)
    (Al (Bd (F5 (Aa Fk (Aa (pv 3) (Aa (pv 4) (Aa (pv 2) Ai)))))))))))),?_⟩
   refine⟨_,rfl,rfl,_,rfl,?_⟩
   refine ite2 (fun h1=>?_) (fun h1=>?_)
   . have e:(m:Int)=0:=by simpa using h1
     exact k0 (by omega)
   have m0:¬(m:Int)=0:=by simpa using h1
   have mp:0<m:=by omega
   have mpI:(0:Int)<(m:Int):=by omega
   have kk:=k1 mp
   refine⟨_,rfl,_,_,rfl,rfl,⟨by decide,by decide⟩,_,rfl,_,_,rfl,rfl,mpI,?_⟩
   have a0:0<=c / 3%(m:Int):=Int.emod_nonneg _ (by omega)
   have a1:c / 3%(m:Int)<(m:Int):=Int.emod_lt_of_pos _ mpI
   obtain⟨ai,ha⟩:=Int.eq_ofNat_of_zero_le a0
   have hai:ai<m:=by omega
   have mk2:∀ p,H p=none->Q (.ref p) (upd H p (.tup [.str "minus",.int (c / 3%(m:Int))])):=fun p hp=>kk (.mi ai) _ _ hai (fun _ _=>trivial) (Same.new hp) ⟨p,_,rfl,.of Ag,⟨_,_,rfl,rfl,_,_,rfl,by rw [ha]<;>rfl,rfl⟩⟩
   refine⟨_,rfl,rfl,_,rfl,?_⟩
   refine ite2 (fun h2=>?_) (fun h2=>?_)
   . refine ifP rfl ?_
     exact ⟨_,rfl,Ec (by simp),fun p hp=>mk2 p hp⟩
   have m1:¬(m:Int)=1:=by simpa using h2
   refine⟨_,rfl,_,_,rfl,rfl,(by show (0:Int)<3;decide),rfl,_,rfl,?_⟩
   refine ite2 (fun h3=>?_) (fun h3=>?_)
   . exact ⟨_,rfl,Ec (by simp),fun p hp=>mk2 p hp⟩
   have mm:(0:Int)<(m:Int)-1:=by omega
   refine⟨_,rfl,_,_,rfl,rfl,_,rfl,_,_,rfl,rfl,⟨by decide,by decide⟩,_,rfl,_,_,rfl,rfl,⟨mpI,by omega⟩,_,rfl,_,_,rfl,rfl,_,_,rfl,rfl,mm,_,_,rfl,rfl,_,rfl,_,_,rfl,rfl,mpI,?_⟩
   obtain⟨o1,o2,o3⟩:=g8 a0 a1 (Int.emod_nonneg (c / 3 / (m:Int)) (by omega:(m:Int)-1≠0)) (Int.emod_lt_of_pos (c / 3 / (m:Int)) mm)
   obtain⟨bi,hb⟩:=Int.eq_ofNat_of_zero_le o2
   have hbi:bi<m:=by omega
   have hne:ai≠bi:=by omega
   refine⟨_,rfl,_,_,rfl,rfl,(by show (0:Int)<3;decide),rfl,_,rfl,?_⟩
   refine ite2 (fun h4=>?_) (fun h4=>?_)
   . refine⟨_,rfl,_,rfl,Ec (by simp),fun p hp=>?_⟩
     exact kk (.sw ai bi) _ _ ⟨hai,hbi,hne⟩ (fun _ _=>trivial) (Same.new hp) ⟨p,_,rfl,.of Ag,⟨_,_,rfl,rfl,_,_,rfl,(by show V.int (c / 3%(m:Int))=V.int ai;rw [ha]),_,_,rfl,(by show V.int ((c / 3%(m:Int)+1+c / 3 / (m:Int)%((m:Int)-1))%(m:Int))=V.int bi;rw [hb]),rfl⟩⟩
   . refine⟨_,rfl,_,rfl,_,rfl,Ec (by simp),fun p hp=>?_⟩
     exact kk (.ad ai bi n) _ _ ⟨hai,hbi,hne⟩ (fun B hB=>hB) (Same.new hp) ⟨p,_,rfl,.of Ag,⟨_,_,rfl,rfl,_,_,rfl,(by show V.int (c / 3%(m:Int))=V.int ai;rw [ha]),_,_,rfl,(by show V.int ((c / 3%(m:Int)+1+c / 3 / (m:Int)%((m:Int)-1))%(m:Int))=V.int bi;rw [hb]),_,_,rfl,rfl,rfl⟩⟩
abbrev Ic:Stmt:=top 34
theorem Aa7:FnScope ["_law_table","_law_width","_law_rows","_law_j"] ["_law_table","_law_width"] (Aj Ic):=⟨rfl,rfl,rfl,by decide +kernel,rfl,by decide +kernel,by decide +kernel⟩
theorem Vu:(["_law_table","_law_width","_law_rows","_law_j"]:List Str).Nodup:=by decide +kernel
theorem Ac7 {f:Addr}{fd:FuncData} (F:Fun K "_law_flip" "_law_flip" Ic f fd) (T:Txt K mg Ad Ab Ae) :FnOk P w K mg base CX0 1 f fd ["_law_table","_law_width"] (Ko K):=by
 refine F.ok Aa7 (fun vs H Q E h=>?_) (fun C5 A outer s H vs Q E hr h=>?_)
 . obtain⟨v,h,w,f,rfl,hv,hh,hw,k⟩:=h
   rfl
 . obtain⟨v,h,w,f,rfl,hv,hh,hw,k⟩:=h
   refine⟨_,(Af (Av (i:=2) Vu (by rfl) (by first | exact Or.inl rfl | exact Or.inr rfl) (Sh Ai))
    (Af (Fj PassesOwn.never rfl (C0 (by rfl) T.n_range (Aa (pv 1) Ai)) (A3 (i:=3) Vu (by rfl) (by first | exact Or.inl rfl | exact Or.inr rfl)) (Al (Bn (K9 (K:=K) PySem.F.plainAttrs_list PySem.F.slot_list_append PySem.F.type_list_append Hl (pv 2) (Aa (Cj (N':=["_law_row","_law_j"]) (cap:=[none,some 3]) (by rfl) (by kernel_rfl) (Df (K:=K) (pv 0)) (fun _ _ _ _=>(A3 (i:=0) A37 (by rfl) (by first | exact Or.inl rfl | exact Or.inr rfl))) (fun _ _ _ _=>Cl) (fun _ _ _ _=>(A2 (As (K:=K)) (pv 0) (pv 1) (fun _ _=>rfl)))) Ai)))))
    (Al (Bd (pv 2))))),?_⟩
   obtain⟨a,us,rfl,hq,hul,hrow⟩:=Li hv
   refine⟨Nat.zero_le _,fun D hD=>?_⟩
   refine⟨_,rfl,_,rfl,by omega,by omega,?_⟩
   refine Dj (lo:=0) (n:=(w:Int).toNat) (fun i σ H1=>∃ (as:List Addr) (o:Option V),σ=[some (.ref a),some (.int w),some (.ref D),o]/\as.length=i/\Rows H H1 D as h (fun i j=>f j i))
    ⟨[],none,rfl,rfl,Rows.nil hD⟩ ?_ ?_
   . rintro j σ H1 hj ⟨as,o,rfl,hal,R⟩
     have hj2:j<w:=by omega
     refine⟨_,rfl,.inl ⟨rfl,_,.of R.at⟩,_,rfl,a,rfl,⟨_,R.same.seq hq⟩,fun E hE=>?_⟩
     refine Ct (K:=K) (a:=a) (xs:=us) (fun i ys τ H2=>Same H1 H2/\H2 E=some (.lst ys)/\ys=VI i (fun i=>f i j)/\∃ o,τ=[o,some (.int (0+j))])
      ⟨Same.new hE,Ag,rfl,none,rfl⟩ (fun i ys τ H2 _ ⟨s2,_⟩=>(R.same.trans s2).seq hq) ?_ ?_
     . rintro i x ys τ H2 hx ⟨s2,hE2,rfl,o',rfl⟩
       obtain⟨hi,b,rfl,hb⟩:=hrow i _ hx
       refine⟨_,rfl,_,rfl,b,_,_,_,rfl,rfl,(R.same.trans s2).seq hb,A62 hj2,?_⟩
       refine⟨hE2,small (by rw [A5];omega),s2.turn hE,Ag,?_,_,rfl⟩
       rw [Gs]
     . rintro ys τ H2 ⟨s2,hE2,rfl,_⟩
       rw [hul] at hE2
       have hD2:H2 D=some (.lst (as.map V.ref)):=s2 _ _ R.at
       refine⟨D,_,_,rfl,rfl,hD2,small (by rw [List.length_map];omega),?_⟩
       exact ⟨as++[E],_,rfl,by simp [hal],R.push hE s2 (by rw [hal];exact hE2)⟩
   . rintro σ H1 ⟨as,o,rfl,hal,R⟩
     exact ⟨_,rfl,k D as H1 (by omega) R⟩
abbrev E7:Stmt:=top 38
theorem Xk:FnScope ["_law_cell","_law_many","_law_row","_law_last","_law_k","_law_step"] ["_law_cell","_law_many"] (Aj E7):=⟨rfl,rfl,rfl,by decide +kernel,rfl,by decide +kernel,by decide +kernel⟩
theorem C9:(["_law_cell","_law_many","_law_row","_law_last","_law_k","_law_step"]:List Str).Nodup:=by decide +kernel
theorem Xx {f:Addr}{fd:FuncData} (F:Fun K "_law_row_by" "_law_row_by" E7 f fd) (T:Txt K mg Ad Ab Ae) :FnOk P w K mg base CX0 1 f fd ["_law_cell","_law_many"] (Lz K):=by
 refine F.ok Xk (fun vs H Q E h=>?_) (fun C5 A outer s H vs Q E hr h=>?_)
 . obtain⟨c,m,rfl,hm,k⟩:=h
   rfl
 . obtain⟨c,m,rfl,hm,k⟩:=h
   refine⟨_,(Af (Av (i:=2) C9 (by rfl) (by first | exact Or.inl rfl | exact Or.inr rfl) (Sh Ai))
    (Af (Av (i:=3) C9 (by rfl) (by first | exact Or.inl rfl | exact Or.inr rfl) Am)
    (Af (Fj PassesOwn.never rfl (C0 (by rfl) T.n_range (Aa (pv 1) Ai)) (A3 (i:=4) C9 (by rfl) (by first | exact Or.inl rfl | exact Or.inr rfl)) (Af (Av (i:=5) C9 (by rfl) (by first | exact Or.inl rfl | exact Or.inr rfl) (Bb En Am (Bb Ed (pv 0) Am)))
    (Af (Dt (A7 Ha (Bb Ed (Bb Kc (pv 0) Am) Am) Am (Bg _)) (Al (Av (i:=5) C9 (by rfl) (by first | exact Or.inl rfl | exact Or.inr rfl) (Bb En Am (Bb Ed (Bb op_mulX (Bb Kc (pv 0) Am) (Bb En (pv 4) Am)) Am)))) Bu)
    (Af (Av (i:=3) C9 (by rfl) (by first | exact Or.inl rfl | exact Or.inr rfl) (Bb op_mulX (pv 3) (pv 5)))
    (Af (Bn (K9 (K:=K) PySem.F.plainAttrs_list PySem.F.slot_list_append PySem.F.type_list_append Hl (pv 2) (Aa (pv 3) Ai)))
    (Al (Av (i:=0) C9 (by rfl) (by first | exact Or.inl rfl | exact Or.inr rfl) (Bb Kc (pv 0) Am))))))))
    (Al (Bd (pv 2)))))),?_⟩
   refine⟨Nat.zero_le _,fun D hD=>?_⟩
   refine B4 (fun σ' H'=>σ'=[some (.int c),some (.int (m:Int)),some (.ref D),none,none,none]/\upd H D (.lst [])=H') ?_ fun key0=>key0 _ _ ⟨rfl,rfl⟩
   rintro _ _ ⟨rfl,rfl⟩
   refine B4 (fun σ' H'=>σ'=[some (.int c),some (.int (m:Int)),some (.ref D),some (.int 1),none,none]/\upd H D (.lst [])=H') ?_ fun key0=>key0 _ _ ⟨rfl,rfl⟩
   rintro _ _ ⟨rfl,rfl⟩
   refine An (fun σ' H'=>∃ (c2 l2:Int) (o4 o5:Option V),σ'=[some (.int c2),some (.int (m:Int)),some (.ref D),some (.int l2),o4,o5]/\Same H H'/\H' D=some (.lst (VI m fun x=>Gj c (x+1)))) ?_ fun key=>?_
   rotate_left
   . refine⟨_,rfl,_,rfl,by omega,by omega,?_⟩
     refine Dj (lo:=0) (n:=((m:Int)).toNat) (fun i σ' G=>∃ (o4 o5:Option V),σ'=[some (.int (Jp c i)),some (.int (m:Int)),some (.ref D),some (.int (Gj c i)),o4,o5]/\Same H G/\G D=some (.lst (VI i fun x=>Gj c (x+1)))) ⟨none,none,rfl,Same.new hD,Ag⟩ ?_ ?_
     . rintro i σ G hi ⟨o4,o5,rfl,s,hG⟩
       rw [Int.toNat_natCast] at hi
       rw [Int.zero_add]
       refine⟨_,rfl,_,_,rfl,rfl,(by show (0:Int)<6;decide),_,_,rfl,rfl,?_⟩
       refine B4 (fun σ' H'=>σ'=[some (.int (Jp c i)),some (.int (m:Int)),some (.ref D),some (.int (Gj c i)),some (.int (i:Int)),some (.int (1+Jp c i%6))]/\G=H') ?_ fun key0=>key0 _ _ ⟨rfl,rfl⟩
       rintro _ _ ⟨rfl,rfl⟩
       refine An (t:=tIfS _ _ _) (fun σ' H'=>σ'=[some (.int (Jp c i)),some (.int (m:Int)),some (.ref D),some (.int (Gj c i)),some (.int (i:Int)),some (.int (U0 (Jp c i) i))]/\G=H') ?_ fun key2=>?_
       rotate_left
       . refine⟨_,rfl,_,_,rfl,rfl,⟨by decide,by decide⟩,_,_,rfl,rfl,(by show (0:Int)<3;decide),rfl,_,rfl,?_⟩
         refine ite2 (fun h1=>?_) (fun h1=>?_)
         . have e:Jp c i / 6%3=1:=by simpa using h1
           refine⟨_,rfl,_,_,rfl,rfl,⟨by decide,by decide⟩,_,rfl,_,_,rfl,rfl,_,_,rfl,rfl,As7 (by omega) (by omega),_,_,rfl,rfl,(by show (0:Int)<1000;decide),_,_,rfl,rfl,?_⟩
           refine key2 _ _ ⟨?_,rfl⟩
           rw [show U0 (Jp c i) i=1+Jp c i / 18*((i:Int)+7)%1000 from if_pos e]
           rfl
         . have e:¬Jp c i / 6%3=1:=by simpa using h1
           refine key2 _ _ ⟨?_,rfl⟩
           rw [show U0 (Jp c i) i=1+Jp c i%6 from if_neg e]
       rintro _ _ ⟨rfl,rfl⟩
       have sb:=Zg (Jp c i) i
       refine⟨_,rfl,_,rfl,_,_,rfl,rfl,As7 (by omega) (by omega),?_⟩
       refine⟨_,rfl,.inl ⟨rfl,_,.of hG⟩,_,rfl,D,_,_,rfl,rfl,hG,small (by rw [A5];omega),?_⟩
       refine⟨_,rfl,_,_,rfl,rfl,⟨by decide,by decide⟩,?_⟩
       refine⟨_,_,rfl,s.turn hD,?_⟩
       rw [Ag,Gs]
       rfl
     . rintro σ G ⟨o4,o5,rfl,s,hG⟩
       rw [Int.toNat_natCast] at hG
       exact key _ _ ⟨_,_,o4,o5,rfl,s,hG⟩
   rintro _ H1 ⟨c2,l2,o4,o5,rfl,s,hG⟩
   exact ⟨_,rfl,k D H1 s hG⟩
abbrev Ib:Stmt:=top 39
theorem Aa6:FnScope ["_law_numbers","_law_height","_law_width","_law_rows","_law_i","_law_row"] ["_law_numbers","_law_height","_law_width"] (Aj Ib):=⟨rfl,rfl,rfl,by decide +kernel,rfl,by decide +kernel,by decide +kernel⟩
theorem Pk:(["_law_numbers","_law_height","_law_width","_law_rows","_law_i","_law_row"]:List Str).Nodup:=by decide +kernel
theorem Ac6 {f:Addr}{fd:FuncData} (F:Fun K "_law_laid" "_law_laid" Ib f fd) (T:Txt K mg Ad Ab Ae) :FnOk P w K mg base CX0 1 f fd ["_law_numbers","_law_height","_law_width"] (Td K):=by
 refine F.ok Aa6 (fun vs H Q E h=>?_) (fun C5 A outer s H vs Q E hr h=>?_)
 . obtain⟨a,m,h,w,d,rfl,hq,hm,hh,hw,k⟩:=h
   rfl
 . obtain⟨a,m,h,w,d,rfl,hq,hm,hh,hw,k⟩:=h
   refine⟨_,(Af (Av (i:=3) Pk (by rfl) (by first | exact Or.inl rfl | exact Or.inr rfl) (Sh Ai))
    (Af (Fj PassesOwn.never rfl (C0 (by rfl) T.n_range (Aa (pv 1) Ai)) (A3 (i:=4) Pk (by rfl) (by first | exact Or.inl rfl | exact Or.inr rfl)) (Af (Av (i:=5) Pk (by rfl) (by first | exact Or.inl rfl | exact Or.inr rfl) (Bb A27 (Sh (Aa Am Ai)) (pv 2)))
    (Af (Dt (A7 g9 (pv 4) (A6 (A0 (K:=K)) (by rfl) T.n_len PySem.boot_len (Aa (pv 0) Ai)) (Bg _)) (Al (E9 (A2 (As (K:=K)) (pv 0) (pv 4) (fun _ _=>rfl)) (Fa (pv 5) (pv 4) Cb))) Bu)
    (Al (Bn (K9 (K:=K) PySem.F.plainAttrs_list PySem.F.slot_list_append PySem.F.type_list_append Hl (pv 3) (Aa (pv 5) Ai)))))))
    (Al (Bd (pv 3))))),?_⟩
   refine⟨Nat.zero_le _,fun D hD=>?_⟩
   refine B4 (fun σ' H'=>σ'=[some (.ref a),some (.int (h:Int)),some (.int (w:Int)),some (.ref D),none,none]/\upd H D (.lst [])=H') ?_ fun key0=>key0 _ _ ⟨rfl,rfl⟩
   rintro _ _ ⟨rfl,rfl⟩
   refine An (fun σ' H'=>∃ (as:List Addr) (o6 o7:Option V),σ'=[some (.ref a),some (.int (h:Int)),some (.int (w:Int)),some (.ref D),o6,o7]/\as.length=h/\Rows H H' D as w (Lat.lay m d)) ?_ fun key=>?_
   rotate_left
   . refine⟨_,rfl,_,rfl,by omega,by omega,?_⟩
     refine Dj (lo:=0) (n:=((h:Int)).toNat) (fun i σ' G=>∃ (as:List Addr) (o6 o7:Option V),σ'=[some (.ref a),some (.int (h:Int)),some (.int (w:Int)),some (.ref D),o6,o7]/\as.length=i/\Rows H G D as w (Lat.lay m d)) ⟨[],none,none,rfl,rfl,Rows.nil hD⟩ ?_ ?_
     . rintro i σ G hi ⟨as,o6,o7,rfl,hal,R⟩
       rw [Int.toNat_natCast] at hi
       rw [Int.zero_add]
       refine⟨Ec (by simp),fun B hB=>?_⟩
       have sB:Same G (upd G B (.lst [V.int 0])):=Same.new hB
       have eB:upd G B (.lst [V.int 0]) B=some (.lst [V.int 0]):=Ag
       generalize upd G B (.lst [V.int 0])=G1 at sB eB
       refine⟨_,rfl,B,_,_,rfl,rfl,eB,by omega,by omega,?_,fun C hC=>?_⟩
       . exact Ec (by simp;omega)
       have eC:(List.replicate ((w:Int)).toNat [V.int 0]).flatten=VI w fun _=>0:=by rw [Int.toNat_natCast];exact A61 w
       rw [eC]
       have sC:Same G1 (upd G1 C (.lst (VI w fun _=>0))):=Same.new hC
       have hC2:upd G1 C (.lst (VI w fun _=>0)) C=some (.lst (VI w fun _=>0)):=Ag
       generalize upd G1 C (.lst (VI w fun _=>0))=G2 at sC hC2
       have s02:=sB.trans sC
       have nC:G C=none:=sB.free hC
       refine B4 (fun σ' H'=>σ'=[some (.ref a),some (.int (h:Int)),some (.int (w:Int)),some (.ref D),some (.int (i:Int)),some (.ref C)]/\G2=H') ?_ fun key0=>key0 _ _ ⟨rfl,rfl⟩
       rintro _ _ ⟨rfl,rfl⟩
       have hqG:SqL K G2 a (VI m d):=(R.same.trans s02).seq hq
       refine An (t:=tIfS _ _ _) (fun σ' H'=>σ'=[some (.ref a),some (.int (h:Int)),some (.int (w:Int)),some (.ref D),some (.int (i:Int)),some (.ref C)]/\Same G H'/\H' C=some (.lst (VI w (Lat.lay m d i)))) ?_ fun key2=>?_
       rotate_left
       . refine⟨_,rfl,_,rfl,a,_,rfl,.inl hqG,_,_,rfl,rfl,_,rfl,?_⟩
         refine ite2 (fun h1=>?_) (fun h1=>?_)
         . have hik:i<m:=by
            have:((i:Nat):Int)<(((VI m d).length:Nat):Int):=by simpa using h1
            rw [A5] at this
            omega
           refine⟨_,rfl,_,rfl,a,_,_,_,rfl,rfl,hqG,Az (Bz hik),_,rfl,_,rfl,C,_,_,i,rfl,rfl,hC2,Gk (by rw [A5];omega),?_⟩
           refine key2 _ _ ⟨rfl,s02.turn nC,?_⟩
           rw [Ag,A60 (show i<w by omega)]
           congr 2
           refine D9 fun j _=>?_
           unfold Lat.lay
           by_cases z:j=i
           . rw [if_pos z,if_pos ⟨z.symm,hik⟩]
           . rw [if_neg z,if_neg fun q=>z q.1.symm]
         . have hik:¬i<m:=by
            have:¬((i:Nat):Int)<(((VI m d).length:Nat):Int):=by simpa using h1
            rw [A5] at this
            omega
           refine key2 _ _ ⟨rfl,s02,?_⟩
           rw [hC2]
           congr 2
           refine D9 fun j _=>?_
           unfold Lat.lay
           rw [if_neg fun q=>hik q.2]
       rintro _ G3 ⟨rfl,s3,hC3⟩
       have nDC:D≠C:=fun z=>by rw [←z,R.at] at nC;cases nC
       have hD3:=s3 _ _ R.at
       refine⟨_,rfl,.inl ⟨rfl,_,.of hD3⟩,_,rfl,D,_,_,rfl,rfl,hD3,small (by rw [List.length_map];omega),?_⟩
       exact ⟨as++[C],_,_,rfl,by simp [hal],R.push nC s3 (by rw [hal];exact hC3)⟩
     . rintro σ G ⟨as,o6,o7,rfl,hal,R⟩
       exact key _ _ ⟨as,o6,o7,rfl,by rw [Int.toNat_natCast] at hal;exact hal,R⟩
   rintro _ H1 ⟨as,o6,o7,rfl,hal,R⟩
   exact ⟨_,rfl,k D as H1 hal R⟩
abbrev Bk:Stmt:=top 9
theorem Ip:FnScope ["thing","many"] ["thing","many"] (Aj Bk):=⟨rfl,rfl,rfl,by decide +kernel,rfl,by decide +kernel,by decide +kernel⟩
theorem Ix {f:Addr}{fd:FuncData} (F:Fun K "is_list_of_wholes" "is_list_of_wholes" Bk f fd) (T:Txt K mg Ad Ab Ae) (Mh:Has P w K mg base "is_whole" ["thing"] 1 (Gd K)):FnOk P w K mg base CX0 2 f fd ["thing","many"] (Cu K):=by
 refine F.ok Ip (fun vs H Q E h=>?_) (fun C5 A outer s H vs Q E hr h=>?_)
 . obtain⟨a,n,f,rfl,hq,hn,k⟩:=h
   rfl
 . obtain⟨a,n,f,rfl,hq,hn,k⟩:=h
   refine⟨_,(Al (Bd (Vf (A6 (Ca (K:=K)) (by rfl) T.n_isinstance Bh (Aa (pv 0) (Aa (Hh (v:=.ty "list") rfl T.n_list De rfl) Ai))) (Vf (Pc Ha (A6 (A0 (K:=K)) (by rfl) T.n_len PySem.boot_len (Aa (pv 0) Ai)) (pv 1) (Bg _)) (Zm (A6 (Sj (K:=K) (by rfl)) (by rfl) T.n_all Ws (Aa (Cj (N':=["number"]) (cap:=[none]) (by rfl) (by kernel_rfl) (Df (K:=K) (pv 0)) (fun _ _ _ _=>(A3 (i:=0) Ax8 (by rfl) (by first | exact Or.inl rfl | exact Or.inr rfl))) (fun _ _ _ _=>Cl) (fun _ _ _ _=>(Ap Mh hr (by rfl) (Aa (pv 0) Ai)))) Ai))))))),?_⟩
   refine⟨_,rfl,.ref a,"list",dL n f,rfl,.inr (.inr (.inr (.inr (.inl rfl)))),Uo hq,_,rfl,?_⟩
   refine ifP (by simp [isD,dL]) ?_
   refine⟨_,rfl,a,_,rfl,.inl hq,_,rfl,rfl,_,rfl,?_⟩
   refine ifP (isI (by rw [A5])) ?_
   refine⟨_,rfl,a,rfl,⟨_,hq⟩,fun D hD=>?_⟩
   refine Ct (K:=K) (a:=a) (xs:=VI n f) (fun i ys τ H1=>Same H H1/\H1 D=some (.lst ys)/\ys=(List.replicate i true).map V.bl/\∃ o,τ=[o])
    ⟨Same.new hD,Ag,rfl,none,rfl⟩ (fun i ys τ H1 _ ⟨s1,_⟩=>s1.seq hq) ?_ ?_
   . rintro i x ys τ H1 hx ⟨s1,hD1,rfl,o,rfl⟩
     obtain⟨hi,rfl⟩:=Lo hx
     refine⟨_,rfl,_,.int (f i),rfl,rfl,hD1,small (by simp;omega),s1.turn hD,Ag,?_,_,rfl⟩
     rw [List.replicate_succ',List.map_append]
     rfl
   . rintro ys τ H1 ⟨s1,hD1,rfl,_⟩
     refine⟨D,List.replicate (VI n f).length true,rfl,.of hD1,?_⟩
     rw [show (List.replicate (VI n f).length true).all id=true by simp]
     exact k H1 s1
abbrev F3:Stmt:=top 10
theorem f6:FnScope ["table","width"] ["table","width"] (Aj F3):=⟨rfl,rfl,rfl,by decide +kernel,rfl,by decide +kernel,by decide +kernel⟩
theorem i5 {f:Addr}{fd:FuncData} (F:Fun K "flipped" "flipped" F3 f fd) (T:Txt K mg Ad Ab Ae) (T9:Has P w K mg base "column" ["table","j"] 1 (Ou K)):FnOk P w K mg base CX0 2 f fd ["table","width"] (F0 K):=by
 refine F.ok f6 (fun vs H Q E h=>?_) (fun C5 A outer s H vs Q E hr h=>?_)
 . obtain⟨v,h,w,f,rfl,hv,hh,hw,k⟩:=h
   rfl
 . obtain⟨v,h,w,f,rfl,hv,hh,hw,k⟩:=h
   refine⟨_,(Al (Bd (Cj (N':=["j","table"]) (cap:=[none,some 0]) (by rfl) (by kernel_rfl) (C0 (by rfl) T.n_range (Aa (pv 1) Ai)) (fun _ _ _ _=>(A3 (i:=0) A82 (by rfl) (by first | exact Or.inl rfl | exact Or.inr rfl))) (fun _ _ _ _=>Cl) (fun _ _ _ _=>(Ap T9 hr (by rfl) (Aa (pv 1) (Aa (pv 0) Ai))))))),?_⟩
   refine⟨_,rfl,_,rfl,by omega,by omega,fun D hD=>?_⟩
   refine Kj (fun i ys τ H1=>∃ as,as.length=i/\ys=as.map V.ref/\Rows H H1 D as h (fun i j=>f j i)/\∃ o,τ=[o,some v])
    ⟨[],rfl,rfl,Rows.nil hD,none,rfl⟩ ?_ ?_
   . rintro i ys τ H1 hi ⟨as,hal,rfl,R,o,rfl⟩
     have hi2:i<w:=by omega
     refine⟨_,rfl,_,rfl,v,h,w,i,f,by rw [Int.zero_add]<;>rfl,Rep.same R.same hv,hh,hi2,fun D2 H2 hD2 s2 h2=>?_⟩
     exact ⟨s2 _ _ R.at,small (by rw [List.length_map];omega),as++[D2],by simp [hal],by rw [List.map_append];rfl,R.push hD2 s2 (by rw [hal];exact h2),_,rfl⟩
   . rintro ys τ H1 ⟨as,hal,rfl,R,_⟩
     exact k D as H1 (by omega) R
abbrev Sd:Stmt:=top 12
theorem Au9:FnScope ["size"] ["size"] (Aj Sd):=⟨rfl,rfl,rfl,by decide +kernel,rfl,by decide +kernel,by decide +kernel⟩
theorem Aw8 {f:Addr}{fd:FuncData} (F:Fun K "ones" "ones" Sd f fd) (T:Txt K mg Ad Ab Ae) (Pt:Has P w K mg base "one_row" ["size","i"] 1 (Lu K)):FnOk P w K mg base CX0 2 f fd ["size"] (W8 K):=by
 refine F.ok Au9 (fun vs H Q E h=>?_) (fun C5 A outer s H vs Q E hr h=>?_)
 . obtain⟨n,rfl,hn,k⟩:=h
   rfl
 . obtain⟨n,rfl,hn,k⟩:=h
   refine⟨_,(Al (Bd (Cj (N':=["i","size"]) (cap:=[none,some 0]) (by rfl) (by kernel_rfl) (C0 (by rfl) T.n_range (Aa (pv 0) Ai)) (fun _ _ _ _=>(A3 (i:=0) A80 (by rfl) (by first | exact Or.inl rfl | exact Or.inr rfl))) (fun _ _ _ _=>Cl) (fun _ _ _ _=>(Ap Pt hr (by rfl) (Aa (pv 1) (Aa (pv 0) Ai))))))),?_⟩
   refine⟨_,rfl,_,rfl,by omega,by omega,fun D hD=>?_⟩
   refine Kj (fun i ys τ H1=>∃ as,as.length=i/\ys=as.map V.ref/\Rows H H1 D as n (fun i j=>if j=i then 1 else 0)/\∃ o,τ=[o,some (.int n)])
    ⟨[],rfl,rfl,Rows.nil hD,none,rfl⟩ ?_ ?_
   . rintro i ys τ H1 hi ⟨as,hal,rfl,R,o,rfl⟩
     refine⟨_,rfl,_,rfl,n,i,by rw [Int.zero_add]<;>rfl,hn,fun D2 H2 hD2 s2 h2=>?_⟩
     exact ⟨s2 _ _ R.at,small (by rw [List.length_map];omega),as++[D2],by simp [hal],by rw [List.map_append];rfl,R.push hD2 s2 (by rw [hal];exact h2),_,rfl⟩
   . rintro ys τ H1 ⟨as,hal,rfl,R,_⟩
     exact k D as H1 (by omega) R
abbrev Hy:Stmt:=top 16
theorem Aa3:FnScope ["lines","turn","told","i"] ["lines","turn"] (Aj Hy):=⟨rfl,rfl,rfl,by decide +kernel,rfl,by decide +kernel,by decide +kernel⟩
theorem Vt:(["lines","turn","told","i"]:List Str).Nodup:=by decide +kernel
theorem Ac3 {f:Addr}{fd:FuncData} (F:Fun K "turned" "turned" Hy f fd) (T:Txt K mg Ad Ab Ae) (Fx:Has P w K mg base "mixed" ["a","one","b","other"] 1 (Oi K)):FnOk P w K mg base CX0 2 f fd ["lines","turn"] (Ly K):=by
 refine F.ok Aa3 (fun vs H Q E h=>?_) (fun C5 A outer s H vs Q E hr h=>?_)
 . obtain⟨r,u,as,n,W,f,t,rfl,x,hu,hm,hn,hW,k⟩:=h
   rfl
 . obtain⟨r,u,as,n,W,f,t,rfl,x,hu,hm,hn,hW,k⟩:=h
   refine⟨_,(Af (Av (i:=2) Vt (by rfl) (by first | exact Or.inl rfl | exact Or.inr rfl) (Fb (Dg (K:=K)) (by rfl) T.n_list De (Aa (pv 0) Ai)))
    (Af (Av (i:=3) Vt (by rfl) (by first | exact Or.inl rfl | exact Or.inr rfl) (A2 (A4 (K:=K)) (pv 1) Am (fun _ _=>rfl)))
    (Af (Dt (A7 Ha (A2 (A4 (K:=K)) (pv 1) Am (fun _ _=>rfl)) Fk (Bg _)) (Al (E9 (Cj (N':=["number"]) (cap:=[none]) (by rfl) (by kernel_rfl) (Df (K:=K) (A2 (As (K:=K)) (pv 0) (pv 3) (fun _ _=>rfl))) (fun _ _ _ _=>(A3 (i:=0) Ax8 (by rfl) (by first | exact Or.inl rfl | exact Or.inr rfl))) (fun _ _ _ _=>Cl) (fun _ _ _ _=>(Nk Gw (pv 0)))) (Fa (pv 2) (pv 3) Cb))) (Al (Dt (A7 Ha (A2 (A4 (K:=K)) (pv 1) Am (fun _ _=>rfl)) Fk (Bg _)) (Af (E9 (A2 (As (K:=K)) (pv 0) (A2 (A4 (K:=K)) (pv 1) Am (fun _ _=>rfl)) (fun _ _=>rfl)) (Fa (pv 2) (pv 3) Cb))
    (Al (E9 (A2 (As (K:=K)) (pv 0) (pv 3) (fun _ _=>rfl)) (Fa (pv 2) (A2 (A4 (K:=K)) (pv 1) Am (fun _ _=>rfl)) Cb)))) (Al (E9 (Ap Fx hr (by rfl) (Aa Am (Aa (A2 (As (K:=K)) (pv 0) (pv 3) (fun _ _=>rfl)) (Aa (A2 (A4 (K:=K)) (pv 1) Am (fun _ _=>rfl)) (Aa (A2 (As (K:=K)) (pv 0) (A2 (A4 (K:=K)) (pv 1) Am (fun _ _=>rfl)) (fun _ _=>rfl)) Ai))))) (Fa (pv 2) (pv 3) Cb))))))
    (Al (Bd (pv 2)))))),?_⟩
   have hq:SqL K H r (as.map V.ref):=.of x.2.1
   refine⟨_,rfl,r,as.map V.ref,rfl,.inl hq,fun L hL=>?_⟩
   have sL:Same H (upd H L (.lst (as.map V.ref))):=Same.new hL
   generalize hHL:upd H L (.lst (as.map V.ref))=HL at sL
   have hLL:HL L=some (.lst (as.map V.ref)):=by rw [←hHL];exact Ag
   have hqL:SqL K HL r (as.map V.ref):=sL.seq hq
   have fin:∀ (i:Nat) (D:Addr) (H1:Hp),i<n->HL D=none->Same HL H1->H1 D=some (.lst (VI W (tnF t f i)))->(∀ r,r≠i->tnF t f r=f r)->H1 L=some (.lst (as.map V.ref))/\Q (.ref L) (upd H1 L (.lst ((as.map V.ref).set i (.ref D)))):=by
    intro i D H1 hi hD s1 h1 he
    have nDL:D≠L:=fun z=>by rw [z,hLL] at hD;cases hD
    refine⟨s1 _ _ hLL,?_⟩
    have s2:Same H (upd H1 L (.lst ((as.map V.ref).set i (.ref D)))):=(sL.trans s1).turn hL
    refine k L (as.set i D) _ hL s2 (x.made s2 hi Ag (by rw [Aq nDL];exact h1) he) fun a ha=>?_
    rcases List.mem_or_eq_of_mem_set ha with ha | rfl
    . exact ⟨.inl ha,fun z=>x.there.2 a ha (z▸hL)⟩
    . exact ⟨.inr (sL.free hD),nDL⟩
   cases t with
   | sw i j=>exact hm.elim
   | mi i =>
     have hi:i<n:=hm
     obtain⟨ta,vs,rfl,hT,rT⟩:=hu
     obtain⟨_,_,rfl,rfl,_,_,rfl,rfl,rfl⟩:=rT
     have hT1:SqT K HL ta [V.str "minus",V.int i]:=sL.seqT hT
     obtain⟨b,_,eb,_,hb⟩:=x.row (K:=K) hi
     refine⟨_,rfl,ta,_,_,_,rfl,rfl,hT1,rfl,?_⟩
     refine⟨_,rfl,ta,_,_,_,rfl,rfl,hT1,rfl,rfl,_,rfl,?_⟩
     refine ifP (by decide +kernel) ?_
     refine⟨_,rfl,_,rfl,r,_,_,_,rfl,rfl,hqL,Az eb,b,rfl,⟨_,sL.seq hb⟩,fun D hD=>?_⟩
     refine Ct (K:=K) (a:=b) (xs:=VI W (f i)) (fun c ys τ H1=>Same HL H1/\H1 D=some (.lst ys)/\ys=VI c (fun c=>-(f i c))/\∃ o,τ=[o])
      ⟨Same.new hD,Ag,rfl,none,rfl⟩ (fun c ys τ H1 _ ⟨s1,_⟩=>s1.seq (sL.seq hb)) ?_ ?_
     . rintro c y ys τ H1 hx ⟨s1,hD1,rfl,o,rfl⟩
       obtain⟨hc,rfl⟩:=Lo hx
       refine⟨_,rfl,_,rfl,hD1,small (by rw [A5];omega),s1.turn hD,Ag,?_,_,rfl⟩
       rw [Gs]
     . rintro ys τ H1 ⟨s1,hD1,rfl,_⟩
       rw [A5] at hD1
       obtain⟨f1,f2⟩:=fin i D H1 hi hD s1 (by rw [hD1];congr 2;exact D9 fun c _=>by simp [tnF]) fun r hr=>by funext c;simp [tnF,hr]
       exact ⟨_,rfl,_,rfl,L,_,_,i,rfl,rfl,f1,Gk (by rw [List.length_map,x.1];exact hi),⟨_,rfl,f2⟩⟩
   | ad i j m =>
     obtain⟨hi,hj,hij,hm⟩:=hm
     obtain⟨ta,vs,rfl,hT,rT⟩:=hu
     obtain⟨_,_,rfl,rfl,_,_,rfl,rfl,_,_,rfl,rfl,_,_,rfl,rfl,rfl⟩:=rT
     have hT1:SqT K HL ta [V.str "add",V.int i,V.int j,V.int m]:=sL.seqT hT
     obtain⟨bi,_,ebi,_,hbi⟩:=x.row (K:=K) hi
     obtain⟨bj,_,ebj,_,hbj⟩:=x.row (K:=K) hj
     refine⟨_,rfl,ta,_,_,_,rfl,rfl,hT1,rfl,?_⟩
     refine⟨_,rfl,ta,_,_,_,rfl,rfl,hT1,rfl,rfl,_,rfl,?_⟩
     refine ifN (by decide +kernel) ?_
     refine⟨_,rfl,ta,_,_,_,rfl,rfl,hT1,rfl,rfl,_,rfl,?_⟩
     refine ifN (by decide +kernel) ?_
     refine⟨_,rfl,_,rfl,r,_,_,_,rfl,rfl,hqL,Az ebi,_,rfl,ta,_,_,_,rfl,rfl,hT1,rfl,_,rfl,_,rfl,ta,_,_,_,rfl,rfl,hT1,rfl,r,_,_,_,rfl,rfl,hqL,Az ebj,?_⟩
     refine⟨1,m,bi,bj,W,f i,f j,rfl,sL.seq hbi,sL.seq hbj,hW,fun c hc=>⟨Ae3 (by decide) (by decide),hm c hc⟩,fun D H1 hD s1 hD1=>?_⟩
     obtain⟨f1,f2⟩:=fin i D H1 hi hD s1 (by rw [hD1];congr 2;exact D9 fun c _=>by simp [tnF]) fun r hr=>by funext c;simp [tnF,hr]
     exact ⟨_,rfl,_,rfl,L,_,_,i,rfl,rfl,f1,Gk (by rw [List.length_map,x.1];exact hi),⟨_,rfl,f2⟩⟩
abbrev Cr:Stmt:=Dx (top 18) 2
theorem Q1:FnScope ["self","i","j","one","other","papers","a","b","c","d","row","back"] ["self","i","j","one","other"] (Aj Cr):=⟨rfl,rfl,rfl,by decide +kernel,rfl,by decide +kernel,by decide +kernel⟩
theorem Bx:(["self","i","j","one","other","papers","a","b","c","d","row","back"]:List Str).Nodup:=by decide +kernel
theorem Jw {f:Addr}{fd:FuncData} (F:Fun K "blend" "Lines.blend" Cr f fd) (T:Txt K mg Ad Ab Ae) (C8:Has P w K mg base "shared_divisor" ["one","other"] 1 (Ka K)) (Fx:Has P w K mg base "mixed" ["a","one","b","other"] 1 (Oi K)):FnOk P w K mg base CX0 2 f fd ["self","i","j","one","other"] (Hf K Ad Ab Ae):=by
 refine F.ok Q1 (fun vs H Q E h=>?_) (fun C5 A outer s H vs Q E hr h=>?_)
 . obtain⟨p,C,r,b,sv,n,W,i,j,A,B,s,N,rfl,hC,x,hi,hj,hij,hn,hW,hA,hB,lA,lB,bo,k⟩:=h
   rfl
 . obtain⟨p,C,r,b,sv,n,W,i,j,A,B,s,N,rfl,hC,x,hi,hj,hij,hn,hW,hA,hB,lA,lB,bo,k⟩:=h
   refine⟨_,(Af (Av (i:=5) Bx (by rfl) (by first | exact Or.inl rfl | exact Or.inr rfl) (Ap C8 hr (by rfl) (Aa (pv 3) (Aa (pv 4) Ai))))
    (Af (Av (i:=6) Bx (by rfl) (by first | exact Or.inl rfl | exact Or.inr rfl) (A2 (A4 (K:=K)) (pv 5) Am (fun _ _=>rfl)))
    (Af (Av (i:=7) Bx (by rfl) (by first | exact Or.inl rfl | exact Or.inr rfl) (A2 (A4 (K:=K)) (pv 5) Am (fun _ _=>rfl)))
    (Af (Av (i:=8) Bx (by rfl) (by first | exact Or.inl rfl | exact Or.inr rfl) (Nk Gw (Bb Gh (pv 4) (A2 (A4 (K:=K)) (pv 5) Am (fun _ _=>rfl)))))
    (Af (Av (i:=9) Bx (by rfl) (by first | exact Or.inl rfl | exact Or.inr rfl) (Bb Gh (pv 3) (A2 (A4 (K:=K)) (pv 5) Am (fun _ _=>rfl))))
    (Af (Av (i:=10) Bx (by rfl) (by first | exact Or.inl rfl | exact Or.inr rfl) (A2 (As (K:=K)) (Ao (K:=K) (pv 0)) (pv 1) (fun _ _=>rfl)))
    (Af (E9 (Ap Fx hr (by rfl) (Aa (pv 6) (Aa (pv 10) (Aa (pv 7) (Aa (A2 (As (K:=K)) (Ao (K:=K) (pv 0)) (pv 2) (fun _ _=>rfl)) Ai))))) (Fa (Ao (K:=K) (pv 0)) (pv 1) Cb))
    (Af (E9 (Ap Fx hr (by rfl) (Aa (pv 8) (Aa (pv 10) (Aa (pv 9) (Aa (A2 (As (K:=K)) (Ao (K:=K) (pv 0)) (pv 2) (fun _ _=>rfl)) Ai))))) (Fa (Ao (K:=K) (pv 0)) (pv 2) Cb))
    (Af (Av (i:=11) Bx (by rfl) (by first | exact Or.inl rfl | exact Or.inr rfl) (A2 (As (K:=K)) (Ao (K:=K) (pv 0)) (pv 1) (fun _ _=>rfl)))
    (Af (E9 (Ap Fx hr (by rfl) (Aa (pv 9) (Aa (pv 11) (Aa (Nk Gw (pv 8)) (Aa (A2 (As (K:=K)) (Ao (K:=K) (pv 0)) (pv 2) (fun _ _=>rfl)) Ai))))) (Fa (Ao (K:=K) (pv 0)) (pv 1) Cb))
    (Af (E9 (Ap Fx hr (by rfl) (Aa (Nk Gw (pv 7)) (Aa (pv 11) (Aa (pv 6) (Aa (A2 (As (K:=K)) (Ao (K:=K) (pv 0)) (pv 2) (fun _ _=>rfl)) Ai))))) (Fa (Ao (K:=K) (pv 0)) (pv 2) Cb))
    (Al (Bd (pv 5)))))))))))))),?_⟩
   obtain⟨dx,fs,hp,l1,l2,l3,l4,l5⟩:=x.ob
   obtain⟨as,xa,na⟩:=x.rw
   obtain⟨bs,xb,nb⟩:=x.bk
   obtain⟨pr,pb⟩:=x.refs
   have rb:=x.ne
   have hc:Cls K C/\NoAttr K C "rows"/\NoAttr K C "backs":=by
    rcases hC with rfl | rfl
    . exact ⟨T.cl_Lines,T.na_Lines_rows,T.na_Lines_backs⟩
    . exact ⟨T.cl_Stairs,T.na_Stairs_rows,T.na_Stairs_backs⟩
   refine An (fun σ' H'=>∃ (L:Addr) (g a c:Int),σ'=[some (.ref p),some (.int i),some (.int j),some (.int A),some (.int B),some (.ref L),none,none,none,none,none,none]/\Same H H'/\SqT K H' L [.int g,.int a,.int c]/\Lat.Shares A B g a c) ?_ fun key=>?_
   rotate_left
   . exact ⟨_,rfl,_,rfl,A,B,rfl,hA,hB,lA,lB,fun L g a c H1 s1 hL sh=>key _ _ ⟨L,g,a,c,rfl,s1,hL,sh⟩⟩
   rintro _ H1 ⟨L,g,a,c,rfl,s1,hL,sh⟩
   have g0:=sh.pos
   have lg:g.natAbs<L9:=Nat.lt_of_le_of_lt (Nat.le_of_dvd (Int.natAbs_pos.mpr (by omega)) (Int.natAbs_dvd_natAbs.mpr sh.dA)) lA
   have cb:∀ z:Int,CBig z g:=fun z=>CBig.of9 (by omega) lg
   have la:a.natAbs<L9:=Nat.lt_of_le_of_lt sh.la lB
   have lc:c.natAbs<L9:=Nat.lt_of_le_of_lt sh.lb lA
   have eB:B.fdiv g=B / g:=Int.fdiv_eq_ediv_of_nonneg _ (by omega)
   have eA:A.fdiv g=A / g:=Int.fdiv_eq_ediv_of_nonneg _ (by omega)
   have lz':(B / g).natAbs<L9:=Nat.lt_of_le_of_lt (Int.natAbs_ediv_le_natAbs _ _) lB
   have lz:(-(B / g)).natAbs<L9:=by rw [Int.natAbs_neg];exact lz'
   have lu:(A / g).natAbs<L9:=Nat.lt_of_le_of_lt (Int.natAbs_ediv_le_natAbs _ _) lA
   have hp1:=s1 _ _ hp
   have hr1:=s1 _ _ xa.2.1
   obtain⟨ci,_,eci,mci,hci⟩:=xa.row (K:=K) hi
   obtain⟨cj,_,ecj,mcj,hcj⟩:=xa.row (K:=K) hj
   obtain⟨di,_,edi,mdi,hdi⟩:=xb.row (K:=K) hi
   obtain⟨dj,_,edj,mdj,hdj⟩:=xb.row (K:=K) hj
   have mk:∀{u:Int}{k c U:Nat}{f:Lat.Mat},u.natAbs<L9->Lat.Bits n U big f->k<n->c<U->IntMulOk u (f k c):=fun h1 h2 h3 h4=>Ae4 h1 (h2 _ _ h3 h4)
   refine⟨_,rfl,L,_,_,_,rfl,rfl,hL,rfl,?_⟩
   refine⟨_,rfl,L,_,_,_,rfl,rfl,hL,rfl,?_⟩
   refine⟨_,rfl,_,rfl,L,_,_,_,rfl,rfl,hL,rfl,_,_,rfl,rfl,cb _,_,rfl,?_⟩
   refine⟨_,rfl,_,rfl,L,_,_,_,rfl,rfl,hL,rfl,_,_,rfl,rfl,cb _,?_⟩
   refine⟨_,rfl,p,C,dx,fs,_,rfl,hp1,hc.1,hc.2.1,l1,_,rfl,r,_,_,_,rfl,rfl,.of hr1,Az eci,?_⟩
   refine An (fun σ' H'=>σ'=[some (.ref p),some (.int i),some (.int j),some (.int A),some (.int B),some (.ref L),some (.int a),some (.int c),some (.int (-(B / g))),some (.int (A / g)),some (.ref ci),none]/\H1=H') ?_ fun key=>key _ _ ⟨by rw [←eA,←eB];rfl,rfl⟩
   rintro _ _ ⟨rfl,rfl⟩
   refine An (fun σ' H'=>∃ D1,σ'=[some (.ref p),some (.int i),some (.int j),some (.int A),some (.int B),some (.ref L),some (.int a),some (.int c),some (.int (-(B / g))),some (.int (A / g)),some (.ref ci),none]/\Fr2 r b H1 H'/\Kp H1 H'/\H1 D1=none/\H' b=H1 b/\H' r=some (.lst ((as.map V.ref).set i (.ref D1)))/\H' D1=some (.lst (VI W fun k=>a*s.1 i k+c*s.1 j k))) ?_ fun key=>?_
   rotate_left
   . refine⟨_,rfl,_,rfl,_,rfl,_,rfl,p,C,dx,fs,_,rfl,hp1,hc.1,hc.2.1,l1,_,rfl,r,_,_,_,rfl,rfl,.of hr1,Az ecj,?_⟩
     refine⟨a,c,ci,cj,W,s.1 i,s.1 j,rfl,s1.seq hci,s1.seq hcj,hW,fun k hk=>⟨mk la bo.1 hi hk,mk lc bo.1 hj hk⟩,fun D1 H2 hD1 s2 h2=>?_⟩
     have nD:D1≠r:=fun z=>by rw [z,hr1] at hD1;cases hD1
     refine⟨_,rfl,p,C,dx,fs,_,rfl,(s2 _ _ hp1),hc.1,hc.2.1,l1,_,rfl,r,_,_,i,rfl,rfl,s2 _ _ hr1,Gk (by rw [List.length_map,xa.1];exact hi),?_⟩
     exact key _ _ ⟨D1,rfl,(Fr2.of s2).l,(Kp.of s2).trans Kp.upd,hD1,by rw [Aq rb.symm,s2 _ _ (s1 _ _ xb.2.1),s1 _ _ xb.2.1],Ag,by rw [Aq nD];exact h2⟩
   rintro _ H3 ⟨D1,rfl,fr3,kp3,n1,b3,r3,d3⟩
   have hp3:=fr3 _ _ pr pb hp1
   have kr:∀{G:Hp}{c:Addr},Fr2 r b H1 G->c∈as->∀ o,H c=some o->G c=some o:=fun fr hc o e=>fr _ _ (na _ hc).1 (na _ hc).2.1 (s1 _ _ e)
   have kb:∀{G:Hp}{c:Addr},Fr2 r b H1 G->c∈bs->∀ o,H c=some o->G c=some o:=fun fr hc o e=>fr _ _ (nb _ hc).1 (nb _ hc).2.1 (s1 _ _ e)
   have qr:∀{G:Hp}{k:Nat}{c:Addr},Fr2 r b H1 G->c∈as->SqL K H c (VI W (s.1 k))->as[k]?=some c->SqL K G c (VI W (s.1 k)):=fun fr hc _ e=>.of (kr fr hc _ (xa.2.2 _ _ e))
   have rci:as[i]?=some ci:=by rw [List.getElem?_map] at eci;obtain⟨z,e1,e2⟩:=Option.map_eq_some_iff.mp eci;cases e2;exact e1
   have rcj:as[j]?=some cj:=by rw [List.getElem?_map] at ecj;obtain⟨z,e1,e2⟩:=Option.map_eq_some_iff.mp ecj;cases e2;exact e1
   have rdi:bs[i]?=some di:=by rw [List.getElem?_map] at edi;obtain⟨z,e1,e2⟩:=Option.map_eq_some_iff.mp edi;cases e2;exact e1
   have rdj:bs[j]?=some dj:=by rw [List.getElem?_map] at edj;obtain⟨z,e1,e2⟩:=Option.map_eq_some_iff.mp edj;cases e2;exact e1
   have D1r:D1≠r:=fun z=>by rw [z,hr1] at n1;cases n1
   have D1b:D1≠b:=fun z=>by rw [z,s1 _ _ xb.2.1] at n1;cases n1
   refine An (fun σ' H'=>∃ D2,σ'=[some (.ref p),some (.int i),some (.int j),some (.int A),some (.int B),some (.ref L),some (.int a),some (.int c),some (.int (-(B / g))),some (.int (A / g)),some (.ref ci),none]/\Fr2 r b H3 H'/\Kp H3 H'/\H3 D2=none/\H' b=H3 b/\H' r=some (.lst (((as.map V.ref).set i (.ref D1)).set j (.ref D2)))/\H' D2=some (.lst (VI W fun k=>-(B / g)*s.1 i k+A / g*s.1 j k))) ?_ fun key=>?_
   rotate_left
   . refine⟨_,rfl,_,rfl,_,rfl,_,rfl,p,C,dx,fs,_,rfl,hp3,hc.1,hc.2.1,l1,_,rfl,r,_,_,_,rfl,rfl,.of r3,Az (by rw [List.getElem?_set_ne hij];exact ecj),?_⟩
     refine⟨-(B / g),A / g,ci,cj,W,s.1 i,s.1 j,rfl,qr fr3 mci hci rci,qr fr3 mcj hcj rcj,hW,fun k hk=>⟨mk lz bo.1 hi hk,mk lu bo.1 hj hk⟩,fun D2 H4 hD2 s4 h4=>?_⟩
     have nD:D2≠r:=fun z=>by rw [z,r3] at hD2;cases hD2
     refine⟨_,rfl,p,C,dx,fs,_,rfl,(s4 _ _ hp3),hc.1,hc.2.1,l1,_,rfl,r,_,_,j,rfl,rfl,s4 _ _ r3,Gk (by rw [List.length_set,List.length_map,xa.1];exact hj),?_⟩
     refine key _ _ ⟨D2,rfl,(Fr2.of s4).l,(Kp.of s4).trans Kp.upd,hD2,?_,Ag,by rw [Aq nD];exact h4⟩
     have e3:H3 b=some (.lst (bs.map V.ref)):=by rw [b3];exact s1 _ _ xb.2.1
     rw [Aq rb.symm,s4 _ _ e3,e3]
   rintro _ H5 ⟨D2,rfl,fr5,kp5,n2,b5,r5,d5⟩
   have e5:H5 b=some (.lst (bs.map V.ref)):=by rw [b5,b3];exact s1 _ _ xb.2.1
   have fr15:=fr3.trans fr5
   have hp5:=fr5 _ _ pr pb hp3
   have D2r:D2≠r:=fun z=>by rw [z,r3] at n2;cases n2
   have D2b:D2≠b:=fun z=>by rw [z,b3,s1 _ _ xb.2.1] at n2;cases n2
   refine⟨_,rfl,p,C,dx,fs,_,rfl,hp5,hc.1,hc.2.2,l2,_,rfl,b,_,_,_,rfl,rfl,.of e5,Az edi,?_⟩
   refine An (fun σ' H'=>σ'=[some (.ref p),some (.int i),some (.int j),some (.int A),some (.int B),some (.ref L),some (.int a),some (.int c),some (.int (-(B / g))),some (.int (A / g)),some (.ref ci),some (.ref di)]/\H5=H') ?_ fun key=>key _ _ ⟨rfl,rfl⟩
   rintro _ _ ⟨rfl,rfl⟩
   refine An (fun σ' H'=>∃ D3,σ'=[some (.ref p),some (.int i),some (.int j),some (.int A),some (.int B),some (.ref L),some (.int a),some (.int c),some (.int (-(B / g))),some (.int (A / g)),some (.ref ci),some (.ref di)]/\Fr2 r b H5 H'/\Kp H5 H'/\H5 D3=none/\H' r=H5 r/\H' b=some (.lst ((bs.map V.ref).set i (.ref D3)))/\H' D3=some (.lst (VI n fun k=>A / g*s.2 i k+-(-(B / g))*s.2 j k))) ?_ fun key=>?_
   rotate_left
   . refine⟨_,rfl,_,rfl,_,rfl,_,rfl,_,rfl,p,C,dx,fs,_,rfl,hp5,hc.1,hc.2.2,l2,_,rfl,b,_,_,_,rfl,rfl,.of e5,Az edj,?_⟩
     refine⟨A / g,-(-(B / g)),di,dj,n,s.2 i,s.2 j,rfl,.of (kb fr15 mdi _ (xb.2.2 _ _ rdi)),.of (kb fr15 mdj _ (xb.2.2 _ _ rdj)),hn,fun k hk=>⟨mk lu bo.2 hi hk,mk (by rw [Int.natAbs_neg];exact lz) bo.2 hj hk⟩,fun D3 H6 hD3 s6 h6=>?_⟩
     have nD:D3≠b:=fun z=>by rw [z,e5] at hD3;cases hD3
     refine⟨_,rfl,p,C,dx,fs,_,rfl,(s6 _ _ hp5),hc.1,hc.2.2,l2,_,rfl,b,_,_,i,rfl,rfl,s6 _ _ e5,Gk (by rw [List.length_map,xb.1];exact hi),?_⟩
     exact key _ _ ⟨D3,rfl,(Fr2.of s6).r,(Kp.of s6).trans Kp.upd,hD3,by rw [Aq rb,s6 _ _ r5,r5],Ag,by rw [Aq nD];exact h6⟩
   rintro _ H7 ⟨D3,rfl,fr7,kp7,n3,r7,b7,d7⟩
   have fr17:=fr15.trans fr7
   have hp7:=fr7 _ _ pr pb hp5
   have D3r:D3≠r:=fun z=>by rw [z,r5] at n3;cases n3
   have D3b:D3≠b:=fun z=>by rw [z,e5] at n3;cases n3
   refine An (fun σ' H'=>∃ D4,σ'=[some (.ref p),some (.int i),some (.int j),some (.int A),some (.int B),some (.ref L),some (.int a),some (.int c),some (.int (-(B / g))),some (.int (A / g)),some (.ref ci),some (.ref di)]/\Fr2 r b H7 H'/\Kp H7 H'/\H7 D4=none/\H' r=H7 r/\H' b=some (.lst (((bs.map V.ref).set i (.ref D3)).set j (.ref D4)))/\H' D4=some (.lst (VI n fun k=>-c*s.2 i k+a*s.2 j k))) ?_ fun key=>?_
   rotate_left
   . refine⟨_,rfl,_,rfl,_,rfl,_,rfl,_,rfl,p,C,dx,fs,_,rfl,hp7,hc.1,hc.2.2,l2,_,rfl,b,_,_,_,rfl,rfl,.of b7,Az (by rw [List.getElem?_set_ne hij];exact edj),?_⟩
     refine⟨-c,a,di,dj,n,s.2 i,s.2 j,rfl,.of (kb fr17 mdi _ (xb.2.2 _ _ rdi)),.of (kb fr17 mdj _ (xb.2.2 _ _ rdj)),hn,fun k hk=>⟨mk (by rw [Int.natAbs_neg];exact lc) bo.2 hi hk,mk la bo.2 hj hk⟩,fun D4 H8 hD4 s8 h8=>?_⟩
     have nD:D4≠b:=fun z=>by rw [z,b7] at hD4;cases hD4
     refine⟨_,rfl,p,C,dx,fs,_,rfl,(s8 _ _ hp7),hc.1,hc.2.2,l2,_,rfl,b,_,_,j,rfl,rfl,s8 _ _ b7,Gk (by rw [List.length_set,List.length_map,xb.1];exact hj),?_⟩
     refine key _ _ ⟨D4,rfl,(Fr2.of s8).r,(Kp.of s8).trans Kp.upd,hD4,?_,Ag,by rw [Aq nD];exact h8⟩
     have e7:=r7.trans r5
     rw [Aq rb,s8 _ _ e7,e7]
   rintro _ H9 ⟨D4,rfl,fr9,kp9,n4,r9,b9,d9⟩
   have fr19:=fr17.trans fr9
   have D4r:D4≠r:=fun z=>by rw [z,r7,r5] at n4;cases n4
   have D4b:D4≠b:=fun z=>by rw [z,b7] at n4;cases n4
   have k19:Kp H1 H9:=((kp3.trans kp5).trans kp7).trans kp9
   have u1:H D1=none:=s1.free n1
   have tofree:∀{G:Hp}{D:Addr},Kp H G->G D=none->H D=none:=fun kp e=>by
    cases z:H _ with
    | none=>rfl
    | some o=>exact absurd e (kp _ (by rw [z];exact fun q=>by cases q))
   have k01:Kp H H1:=Kp.of s1
   have u2:H D2=none:=tofree (k01.trans kp3) n2
   have u3:H D3=none:=tofree ((k01.trans kp3).trans kp5) n3
   have u4:H D4=none:=tofree (((k01.trans kp3).trans kp5).trans kp7) n4
   have nN:∀ a,H a=none->¬N a:=fun a e z=>x.nn a z e
   have hL9:SqT K H9 L [.int g,.int a,.int c]:=by
    rcases hL with h | h
    . exact .inl (by
       have hLr:L≠r:=fun z=>by rw [z] at h;rcases h with h|⟨_,h⟩<;>rw [hr1] at h<;>cases h
       have hLb:L≠b:=fun z=>by rw [z] at h;rcases h with h|⟨_,h⟩<;>rw [s1 _ _ xb.2.1] at h<;>cases h
       rcases h with h|⟨q,h⟩
       . exact .inl (fr19 _ _ hLr hLb h)
       . exact .inr ⟨q,fr19 _ _ hLr hLb h⟩)
    . exact .inr h
   refine⟨_,rfl,k L g a c H9 ((Fr2.of s1).trans fr19) (k01.trans k19) hL9 sh ⟨⟨dx,fs,fr19 _ _ pr pb hp1,l1,l2,l3,l4,l5⟩,⟨_,xa.two (D1:=D1) (D2:=D2) hi hj hij ?_ (fun a ha=>kr fr19 ha) ?_ ?_ ?_,fun a ha=>?_⟩,⟨_,xb.two hi hj hij b9 (fun a ha=>kb fr19 ha) ?_ ?_ ?_,fun a ha=>?_⟩,rb,x.nr,x.nb,fun a ha z=>x.nn a ha (tofree (k01.trans k19) z)⟩⟩
   . rw [r9,r7,r5]
   . show H9 D1=some (.lst (VI W (Lat.blendR s.1 i j a c (-(B / g)) (A / g) i)))
     rw [Lat.blend_row_p hij]
     exact (fr9 _ _ D1r D1b (fr7 _ _ D1r D1b (fr5 _ _ D1r D1b d3)))
   . show H9 D2=some (.lst (VI W (Lat.blendR s.1 i j a c (-(B / g)) (A / g) j)))
     rw [Lat.blend_row_q]
     exact (fr9 _ _ D2r D2b (fr7 _ _ D2r D2b d5))
   . exact fun k k1 k2=>Lat.blend_row_ne k1 k2 _ _ _ _
   . rcases Ae8 ha with ha | rfl | rfl
     . exact na a ha
     . exact ⟨D1r,D1b,nN _ u1⟩
     . exact ⟨D2r,D2b,nN _ u2⟩
   . show H9 D3=some (.lst (VI n (Lat.blendR s.2 i j (A / g) (-(-(B / g))) (-c) a i)))
     rw [Lat.blend_row_p hij]
     exact fr9 _ _ D3r D3b d7
   . show H9 D4=some (.lst (VI n (Lat.blendR s.2 i j (A / g) (-(-(B / g))) (-c) a j)))
     rw [Lat.blend_row_q]
     exact d9
   . exact fun k k1 k2=>Lat.blend_row_ne k1 k2 _ _ _ _
   . rcases Ae8 ha with ha | rfl | rfl
     . exact nb a ha
     . exact ⟨D3r,D3b,nN _ u3⟩
     . exact ⟨D4r,D4b,nN _ u4⟩
abbrev B7:Stmt:=Dx (top 21) 0
theorem Nd:FnScope ["self","rows","backs"] ["self","rows","backs"] (Aj B7):=⟨rfl,rfl,rfl,by decide +kernel,rfl,by decide +kernel,by decide +kernel⟩
theorem Nn {f:Addr}{fd:FuncData} (F:Fun K "__init__" "Stairs.__init__" B7 f fd) (T:Txt K mg Ad Ab Ae) (hi_Lines:HasI P w K mg base Ad "__init__" ["self","rows","backs"] 1 (Hw K Ad Ab Ae)):FnOk P w K mg base CX0 2 f fd ["self","rows","backs"] (S9 K Ad Ab Ae):=by
 refine F.ok Nd (fun vs H Q E h=>?_) (fun C5 A outer s H vs Q E hr h=>?_)
 . obtain⟨p,dx,r,b,rfl,hp,k⟩:=h
   rfl
 . obtain⟨p,dx,r,b,rfl,hp,k⟩:=h
   refine⟨_,(Af (Bn (Aw2 hi_Lines hr (by rfl) T.m_Lines (Aa (pv 0) (Aa (pv 1) (Aa (pv 2) Ai)))))
    (Al (Dw (K:=K) (pv 0) (Sh Ai)))),?_⟩
   refine⟨_,rfl,_,rfl,_,rfl,p,dx,Ab,r,b,rfl,.inr rfl,hp,fun H1 fs hfs hH1=>?_⟩
   have hp1:H1 p=some (.ins Ab dx fs):=by rw [hH1];exact Ag
   have s1:SameX p H H1:=by rw [hH1];exact SameX.upd (SameX.upd (SameX.refl _ _))
   have hl:fs.length<=2:=by rw [hfs];exact Nat.le_trans (A8 _ _ _) (Nat.succ_le_succ (A8 _ _ _))
   refine⟨Nat.zero_le _,fun D hD=>?_⟩
   have hDp:p≠D:=Ar hp1 hD
   refine⟨_,rfl,p,Ab,dx,fs,rfl,by rw [Aq hDp];exact hp1,T.cl_Stairs,T.na_Stairs_starts,by omega,?_⟩
   refine k D _ _ ?_ (by rw [hfs]) (SameX.upd (s1.trans (SameX.of (Same.new hD)))) (by rw [Aq hDp.symm];exact Ag) Ag
   cases z:H D with
   | none=>rfl
   | some o=>rw [s1 _ _ hDp.symm z] at hD;cases hD
abbrev B8:Stmt:=top 35
theorem Nf:FnScope ["_law_table","_law_turn","_law_rows","_law_at"] ["_law_table","_law_turn"] (Aj B8):=⟨rfl,rfl,rfl,by decide +kernel,rfl,by decide +kernel,by decide +kernel⟩
theorem Gy:(["_law_table","_law_turn","_law_rows","_law_at"]:List Str).Nodup:=by decide +kernel
theorem No {f:Addr}{fd:FuncData} (F:Fun K "_law_rows_turned" "_law_rows_turned" B8 f fd) (T:Txt K mg Ad Ab Ae) (Ih:Has P w K mg base "_law_copy" ["_law_table"] 1 (Kq K)):FnOk P w K mg base CX0 2 f fd ["_law_table","_law_turn"] (Eg K):=by
 refine F.ok Nf (fun vs H Q E h=>?_) (fun C5 A outer s H vs Q E hr h=>?_)
 . obtain⟨v,u,h,w,B,f,t,rfl,hv,hu,hok,bf,bt,hB,hh,hw,k⟩:=h
   rfl
 . obtain⟨v,u,h,w,B,f,t,rfl,hv,hu,hok,bf,bt,hB,hh,hw,k⟩:=h
   refine⟨_,(Af (Av (i:=2) Gy (by rfl) (by first | exact Or.inl rfl | exact Or.inr rfl) (Ap Ih hr (by rfl) (Aa (pv 0) Ai)))
    (Af (Av (i:=3) Gy (by rfl) (by first | exact Or.inl rfl | exact Or.inr rfl) (A2 (A4 (K:=K)) (pv 1) Am (fun _ _=>rfl)))
    (Af (Dt (A7 Ha (A2 (A4 (K:=K)) (pv 1) Am (fun _ _=>rfl)) Fk (Bg _)) (Al (E9 (Cj (N':=["_law_number"]) (cap:=[none]) (by rfl) (by kernel_rfl) (Df (K:=K) (A2 (As (K:=K)) (pv 0) (pv 3) (fun _ _=>rfl))) (fun _ _ _ _=>(A3 (i:=0) A36 (by rfl) (by first | exact Or.inl rfl | exact Or.inr rfl))) (fun _ _ _ _=>Cl) (fun _ _ _ _=>(Nk Gw (pv 0)))) (Fa (pv 2) (pv 3) Cb))) (Al (Dt (A7 Ha (A2 (A4 (K:=K)) (pv 1) Am (fun _ _=>rfl)) Fk (Bg _)) (Af (E9 (Fb (Dg (K:=K)) (by rfl) T.n_list De (Aa (A2 (As (K:=K)) (pv 0) (A2 (A4 (K:=K)) (pv 1) Am (fun _ _=>rfl)) (fun _ _=>rfl)) Ai)) (Fa (pv 2) (pv 3) Cb))
    (Al (E9 (Fb (Dg (K:=K)) (by rfl) T.n_list De (Aa (A2 (As (K:=K)) (pv 0) (pv 3) (fun _ _=>rfl)) Ai)) (Fa (pv 2) (A2 (A4 (K:=K)) (pv 1) Am (fun _ _=>rfl)) Cb)))) (Al (E9 (Cj (N':=["_law_number","_law_more","_law_turn"]) (cap:=[none,none,some 1]) (by rfl) (by kernel_rfl) (Ab8 (K:=K) (by rfl) T.n_zip (Aa (A2 (As (K:=K)) (pv 0) (pv 3) (fun _ _=>rfl)) (Aa (A2 (As (K:=K)) (pv 0) (A2 (A4 (K:=K)) (pv 1) Am (fun _ _=>rfl)) (fun _ _=>rfl)) Ai))) (fun _ _ _ _=>(Mf (K:=K) (n:=2) (by rfl) (C7 (A3 (i:=0) As6 (by rfl) (by first | exact Or.inl rfl | exact Or.inr rfl)) (C7 (A3 (i:=1) As6 (by rfl) (by first | exact Or.inl rfl | exact Or.inr rfl)) L8)))) (fun _ _ _ _=>Cl) (fun _ _ _ _=>(Bb En (pv 0) (Bb op_mulX (A2 (A4 (K:=K)) (pv 2) Am (fun _ _=>rfl)) (pv 1))))) (Fa (pv 2) (pv 3) Cb))))))
    (Al (Bd (pv 2)))))),?_⟩
   obtain⟨a,us,rfl,hq,hul,hrow⟩:=Li hv
   have row:∀ r,r<h->∃ b,us[r]?=some (.ref b)/\SqL K H b (VI w (f r)):=fun r hr=>by
    obtain⟨_,b,e,hb⟩:=hrow r us[r] (List.getElem?_eq_getElem (by omega))
    exact ⟨b,by rw [List.getElem?_eq_getElem (by omega),e],hb⟩
   refine⟨_,rfl,.ref a,h,w,f,rfl,hv,by omega,fun D as H1 hal R=>?_⟩
   have s1:=R.same
   have ix:∀ r,r<h->ixN (as.map V.ref).length ((r:Nat):Int)=some r:=fun r hr=>by
    unfold ixN
    rw [List.length_map,if_pos (by omega),if_pos (by omega),Int.toNat_natCast]
   have fin:∀{H2:Hp}{vs:List V}{f':Nat->Nat->Int},Same H1 H2->vs.length=h->(∀ r,r<h->∃ b,vs[r]?=some (.ref b)/\b≠D/\H b=none/\H2 b=some (.lst (VI w (f' r))))->Rep K (hide (upd H2 D (.lst vs)) fun a=>H a≠none) (.ref D) (dT h w f'):=fun {H2 vs f'} s2 hl hr=>by
    refine Ai5 (us:=vs) (.of ?_) hl fun r hr'=>?_
    . rw [Gm (fun z=>z R.free)];exact Ag
    . obtain⟨b,e1,n1,e2,e3⟩:=hr r hr'
      refine⟨b,e1,.of ?_⟩
      rw [Gm (fun z=>z e2),Aq n1]
      exact e3
   have old:∀ r,r<h->∃ b,(as.map V.ref)[r]?=some (.ref b)/\b≠D/\H b=none/\H1 b=some (.lst (VI w (f r))):=fun r hr=>by
    have hr':r<as.length:=by omega
    obtain⟨h1,h2,h3⟩:=R.row r as[r] (List.getElem?_eq_getElem hr')
    exact ⟨as[r],by rw [List.getElem?_map,List.getElem?_eq_getElem hr'];rfl,h2,h1,h3⟩
   have lm:(as.map V.ref).length=h:=by rw [List.length_map];exact hal
   cases t with
   | mi i =>
     have hi:i<h:=hok
     obtain⟨ta,vs,rfl,hT,rT⟩:=hu
     obtain⟨_,_,rfl,rfl,_,_,rfl,rfl,rfl⟩:=rT
     have hT1:SqT K H1 ta [V.str "minus",V.int i]:=s1.seqT hT
     obtain⟨b,eb,hb⟩:=row i hi
     refine⟨_,rfl,ta,_,_,_,rfl,rfl,hT1,rfl,?_⟩
     refine⟨_,rfl,ta,_,_,_,rfl,rfl,hT1,rfl,rfl,_,rfl,?_⟩
     refine ifP (by decide +kernel) ?_
     refine⟨_,rfl,_,rfl,a,us,_,_,rfl,rfl,s1.seq hq,Az eb,b,rfl,⟨_,s1.seq hb⟩,fun E hE=>?_⟩
     refine Ct (K:=K) (a:=b) (xs:=VI w (f i)) (fun c ys τ H2=>Same H1 H2/\H2 E=some (.lst ys)/\ys=VI c (fun c=>-(f i c))/\∃ o,τ=[o])
      ⟨Same.new hE,Ag,rfl,none,rfl⟩ (fun c ys τ H2 _ ⟨s2,_⟩=>s2.seq (s1.seq hb)) ?_ ?_
     . rintro c x ys τ H2 hx ⟨s2,hE2,rfl,o,rfl⟩
       obtain⟨hc,rfl⟩:=Lo hx
       refine⟨_,rfl,_,rfl,hE2,small (by rw [A5];omega),s2.turn hE,Ag,?_,_,rfl⟩
       rw [Gs]
     . rintro ys τ H2 ⟨s2,hE2,rfl,_⟩
       rw [A5] at hE2
       refine⟨_,rfl,_,rfl,D,_,_,i,rfl,rfl,s2 _ _ R.at,ix i hi,?_⟩
       refine⟨_,rfl,k D _ R.free ((s1.trans s2).turn R.free) (fin s2 (by simpa using lm) fun r hr=>?_)⟩
       rw [List.getElem?_set]
       by_cases e:i=r
       . subst e
         rw [if_pos rfl,if_pos (by omega)]
         refine⟨E,rfl,(fun z=>by rw [z,R.at] at hE;cases hE),s1.free hE,?_⟩
         rw [hE2]
         congr 2
         refine D9 fun c _=>?_
         simp [tnF]
       . rw [if_neg e]
         obtain⟨b',e1,e2,e3,e4⟩:=old r hr
         refine⟨b',e1,e2,e3,?_⟩
         have e5:tnF (.mi i) f r=f r:=by funext c;simp [tnF,Ne.symm e]
         rw [e5]
         exact s2 _ _ e4
   | sw i j =>
     obtain⟨hi,hj,hij⟩:=hok
     obtain⟨ta,vs,rfl,hT,rT⟩:=hu
     obtain⟨_,_,rfl,rfl,_,_,rfl,rfl,_,_,rfl,rfl,rfl⟩:=rT
     have hT1:SqT K H1 ta [V.str "swap",V.int i,V.int j]:=s1.seqT hT
     obtain⟨bi,ebi,hbi⟩:=row i hi
     obtain⟨bj,ebj,hbj⟩:=row j hj
     refine⟨_,rfl,ta,_,_,_,rfl,rfl,hT1,rfl,?_⟩
     refine⟨_,rfl,ta,_,_,_,rfl,rfl,hT1,rfl,rfl,_,rfl,?_⟩
     refine ifN (by decide +kernel) ?_
     refine⟨_,rfl,ta,_,_,_,rfl,rfl,hT1,rfl,rfl,_,rfl,?_⟩
     refine ifP (by decide +kernel) ?_
     refine⟨_,rfl,_,rfl,ta,_,_,_,rfl,rfl,hT1,rfl,a,us,_,_,rfl,rfl,s1.seq hq,Az ebj,bj,_,rfl,.inl (s1.seq hbj),fun E hE=>?_⟩
     have s2:Same H1 (upd H1 E (.lst (VI w (f j)))):=Same.new hE
     have nED:E≠D:=fun z=>by rw [z,R.at] at hE;cases hE
     refine⟨_,rfl,_,rfl,D,_,_,i,rfl,rfl,s2 _ _ R.at,ix i hi,?_⟩
     have s3:Same H (upd (upd H1 E (.lst (VI w (f j)))) D (.lst ((as.map V.ref).set i (.ref E)))):=(s1.trans s2).turn R.free
     refine⟨_,rfl,_,rfl,a,us,_,_,rfl,rfl,s3.seq hq,Az ebi,bi,_,rfl,.inl (s3.seq hbi),fun G hG=>?_⟩
     have s4:Same (upd (upd H1 E (.lst (VI w (f j)))) D (.lst ((as.map V.ref).set i (.ref E)))) (upd (upd (upd H1 E (.lst (VI w (f j)))) D (.lst ((as.map V.ref).set i (.ref E)))) G (.lst (VI w (f i)))):=Same.new hG
     have hD3:(upd (upd H1 E (.lst (VI w (f j)))) D (.lst ((as.map V.ref).set i (.ref E)))) D=some (.lst ((as.map V.ref).set i (.ref E))):=Ag
     have nGD:G≠D:=fun z=>by rw [z,hD3] at hG;cases hG
     have hGn:H G=none:=s3.free hG
     refine⟨_,rfl,_,rfl,ta,_,_,_,rfl,rfl,(s3.trans s4).seqT hT,rfl,D,_,_,j,rfl,rfl,s4 _ _ hD3,by rw [List.length_set];exact ix j hj,?_⟩
     refine⟨_,rfl,k D _ R.free ((s3.trans s4).turn R.free) ?_⟩
     have up:∀ b q,b≠D->(upd H1 E (.lst (VI w (f j)))) b=some q->(upd (upd (upd H1 E (.lst (VI w (f j)))) D (.lst ((as.map V.ref).set i (.ref E)))) G (.lst (VI w (f i)))) b=some q:=fun b q n e=>s4 _ _ (by rw [Aq n];exact e)
     refine Ai5 (us:=((as.map V.ref).set i (.ref E)).set j (.ref G)) (.of ?_) (by simpa using lm) fun r hr=>?_
     . rw [Gm (fun z=>z R.free)];exact Ag
     . have key:∀ b q,b≠D->H b=none->(upd (upd (upd H1 E (.lst (VI w (f j)))) D (.lst ((as.map V.ref).set i (.ref E)))) G (.lst (VI w (f i)))) b=some (.lst q)->SqL K (hide (upd (upd (upd (upd H1 E (.lst (VI w (f j)))) D (.lst ((as.map V.ref).set i (.ref E)))) G (.lst (VI w (f i)))) D (.lst (((as.map V.ref).set i (.ref E)).set j (.ref G)))) fun a=>H a≠none) b q:=fun b q n1 n2 e=>.of (by rw [Gm (fun z=>z n2),Aq n1];exact e)
       rw [List.getElem?_set,List.length_set]
       by_cases e:j=r
       . subst e
         rw [if_pos rfl,if_pos (by omega)]
         have e5:tnF (.sw i j) f j=f i:=by funext c;simp [tnF]
         rw [e5]
         exact ⟨G,rfl,key G _ nGD hGn Ag⟩
       . rw [if_neg e,List.getElem?_set]
         by_cases e2:i=r
         . subst e2
           rw [if_pos rfl,if_pos (by omega)]
           have e5:tnF (.sw i j) f i=f j:=by funext c;simp [tnF,hij]
           rw [e5]
           exact ⟨E,rfl,key E _ nED (s1.free hE) (up E _ nED Ag)⟩
         . rw [if_neg e2]
           obtain⟨b',g1,g2,g3,g4⟩:=old r hr
           have e5:tnF (.sw i j) f r=f r:=by funext c;simp [tnF,Ne.symm e,Ne.symm e2]
           rw [e5]
           exact ⟨b',g1,key b' _ g2 g3 (up b' _ g2 (s2 _ _ g4))⟩
   | ad i j n =>
     obtain⟨hi,hj,hij⟩:=hok
     obtain⟨ta,vs,rfl,hT,rT⟩:=hu
     obtain⟨_,_,rfl,rfl,_,_,rfl,rfl,_,_,rfl,rfl,_,_,rfl,rfl,rfl⟩:=rT
     have hT1:SqT K H1 ta [V.str "add",V.int i,V.int j,V.int n]:=s1.seqT hT
     obtain⟨bi,ebi,hbi⟩:=row i hi
     obtain⟨bj,ebj,hbj⟩:=row j hj
     refine⟨_,rfl,ta,_,_,_,rfl,rfl,hT1,rfl,?_⟩
     refine⟨_,rfl,ta,_,_,_,rfl,rfl,hT1,rfl,rfl,_,rfl,?_⟩
     refine ifN (by decide +kernel) ?_
     refine⟨_,rfl,ta,_,_,_,rfl,rfl,hT1,rfl,rfl,_,rfl,?_⟩
     refine ifN (by decide +kernel) ?_
     refine⟨_,rfl,_,rfl,a,us,_,_,rfl,rfl,s1.seq hq,Az ebi,_,rfl,_,rfl,ta,_,_,_,rfl,rfl,hT1,rfl,a,us,_,_,rfl,rfl,s1.seq hq,Az ebj,bi,bj,rfl,⟨_,s1.seq hbi⟩,⟨_,s1.seq hbj⟩,fun E hE=>?_⟩
     refine Qa (K:=K) (a:=bi) (b:=bj) (xs:=VI w (f i)) (ys:=VI w (f j)) (n:=w) (by rw [A5,A5,Nat.min_self]) (fun c ys τ H2=>Same H1 H2/\H2 E=some (.lst ys)/\ys=VI c (fun c=>f i c+n*f j c)/\∃ o1 o2,τ=[o1,o2,some (.ref ta)])
      ⟨Same.new hE,Ag,rfl,none,none,rfl⟩ (fun c ys τ H2 _ ⟨s2,_⟩=>⟨s2.seq (s1.seq hbi),s2.seq (s1.seq hbj)⟩) ?_ ?_
     . rintro c x y ys τ H2 pr hx hy ⟨s2,hE2,rfl,o1,o2,rfl⟩ hpr
       obtain⟨hc,rfl⟩:=Lo hx
       obtain⟨_,rfl⟩:=Lo hy
       have sp:Same H2 (upd H2 pr (.tup [.int (f i c),.int (f j c)])):=Same.new hpr
       refine⟨pr,_,rfl,.of Ag,rfl,_,_,rfl,_,_,rfl,rfl,?_⟩
       refine⟨_,rfl,_,rfl,ta,_,_,_,rfl,rfl,(s2.trans sp).seqT hT1,rfl,_,rfl,_,_,rfl,rfl,Vv bt (bf j c) (by omega),_,_,rfl,rfl,?_⟩
       refine⟨sp _ _ hE2,small (by rw [A5];omega),(s2.trans sp).turn hE,Ag,?_,_,_,rfl⟩
       rw [Gs]
     . rintro ys τ H2 ⟨s2,hE2,rfl,_⟩
       refine⟨_,rfl,_,rfl,D,_,_,i,rfl,rfl,s2 _ _ R.at,ix i hi,?_⟩
       refine⟨_,rfl,k D _ R.free ((s1.trans s2).turn R.free) (fin s2 (by simpa using lm) fun r hr=>?_)⟩
       rw [List.getElem?_set]
       by_cases e:i=r
       . subst e
         rw [if_pos rfl,if_pos (by omega)]
         refine⟨E,rfl,(fun z=>by rw [z,R.at] at hE;cases hE),s1.free hE,?_⟩
         rw [hE2]
         congr 2
         refine D9 fun c _=>?_
         simp [tnF]
       . rw [if_neg e]
         obtain⟨b',e1,e2,e3,e4⟩:=old r hr
         refine⟨b',e1,e2,e3,?_⟩
         have e5:tnF (.ad i j n) f r=f r:=by funext c;simp [tnF,Ne.symm e]
         rw [e5]
         exact s2 _ _ e4
abbrev Ci:Stmt:=top 37
theorem O6:FnScope ["_law_found","_law_last","_law_number"] ["_law_found"] (Aj Ci):=⟨rfl,rfl,rfl,by decide +kernel,rfl,by decide +kernel,by decide +kernel⟩
theorem Fc:(["_law_found","_law_last","_law_number"]:List Str).Nodup:=by decide +kernel
theorem Pe {f:Addr}{fd:FuncData} (F:Fun K "_law_numbers_of" "_law_numbers_of" Ci f fd) (T:Txt K mg Ad Ab Ae) (Pw:Has P w K mg base "_law_whole" ["_law_found"] 1 (Lv K)):FnOk P w K mg base CX0 2 f fd ["_law_found"] (Kb K):=by
 refine F.ok O6 (fun vs H Q E h=>?_) (fun C5 A outer s H vs Q E hr h=>?_)
 . obtain⟨tp,nm,r1,D1,D2,b2,n,w,k0,f,l,r,rfl,x,hp,hc,k⟩:=h
   rfl
 . obtain⟨tp,nm,r1,D1,D2,b2,n,w,k0,f,l,r,rfl,x,hp,hc,k⟩:=h
   refine⟨_,(Af (Dt (PW.pt (Tl (Se (Kv (A6 (Ca (K:=K)) (by rfl) T.n_isinstance Bh (Aa (pv 0) (Aa (Hh (v:=.ty "tuple") rfl T.n_tuple Kk rfl) Ai))))) (Tl (A7 Vj (A6 (A0 (K:=K)) (by rfl) T.n_len PySem.boot_len (Aa (pv 0) Ai)) Am (Bg _)) (U9 (Se (Kv (A6 (Ca (K:=K)) (by rfl) T.n_isinstance Bh (Aa (A2 (A4 (K:=K)) (pv 0) Am (fun _ _=>rfl)) (Aa (Hh (v:=.ty "list") rfl T.n_list De rfl) Ai))))))))) (Al (Bd Sg)) Bu)
    (Af (Av (i:=1) Fc (by rfl) (by first | exact Or.inl rfl | exact Or.inr rfl) Am)
    (Af (Fj PassesOwn.never rfl (Df (K:=K) (A2 (A4 (K:=K)) (pv 0) Am (fun _ _=>rfl))) (A3 (i:=2) Fc (by rfl) (by first | exact Or.inl rfl | exact Or.inr rfl)) (Af (Dt (PW.pt (Tl (Se (Kv (Ap Pw hr (by rfl) (Aa (pv 2) Ai)))) (Tl (A7 g9 (pv 2) Am (Bg _)) (U9 (A7 Vj (Bb Ed (pv 2) (pv 1)) Am (Bg _)))))) (Al (Bd Sg)) Bu)
    (Al (Av (i:=1) Fc (by rfl) (by first | exact Or.inl rfl | exact Or.inr rfl) (pv 2)))))
    (Al (Bd (A2 (A4 (K:=K)) (pv 0) Am (fun _ _=>rfl))))))),?_⟩
   have rt:Rep K H (.ref tp) (.tup [dL k0 f,dT n n l.1,dT n n (fun i j=>l.2 j i),dT w w (fun i j=>r.1 j i),dT w w r.2]):=⟨tp,_,rfl,x.tup,⟨_,_,rfl,Uo x.num,⟨_,_,rfl,x.left,⟨_,_,rfl,x.lback,⟨_,_,rfl,x.right,⟨_,_,rfl,x.rback,rfl⟩⟩⟩⟩⟩⟩
   refine An (t:=tIfS _ _ _) (fun σ' H'=>σ'=[some (.ref tp),none,none]/\H=H') ?_ fun key=>?_
   rotate_left
   . refine⟨_,rfl,_,"tuple",_,rfl,.inr (.inr (.inr (.inl rfl))),rt,_,rfl,?_⟩
     refine ifN (by simp [isD]) ?_
     refine⟨_,rfl,tp,_,rfl,.inr x.tup,rfl,_,rfl,?_⟩
     refine ifN (by simp) ?_
     refine⟨_,rfl,tp,_,_,_,rfl,rfl,x.tup,rfl,_,"list",_,rfl,.inr (.inr (.inr (.inr (.inl rfl)))),Uo x.num,_,rfl,?_⟩
     refine ifN (by simp [isD,dL]) ?_
     exact key _ _ ⟨rfl,rfl⟩
   rintro _ _ ⟨rfl,rfl⟩
   refine B4 (fun σ' H'=>σ'=[some (.ref tp),some (.int 1),none]/\H=H') ?_ fun key0=>key0 _ _ ⟨rfl,rfl⟩
   rintro _ _ ⟨rfl,rfl⟩
   refine An (fun σ' H'=>∃ o1 o2,σ'=[some (.ref tp),o1,o2]/\H=H') ?_ fun key=>?_
   rotate_left
   . refine⟨_,rfl,tp,_,_,_,rfl,rfl,x.tup,rfl,nm,rfl,⟨_,x.num⟩,?_⟩
     refine for_list (K:=K) (a:=nm) (xs:=VI k0 f) (fun i σ' H'=>∃ o2,σ'=[some (.ref tp),some (.int (if i=0 then 1 else f (i-1))),o2]/\H=H') ⟨none,rfl,rfl⟩ (fun i σ H' _ ⟨_,_,e⟩=>e▸x.num) ?_ ?_
     . rintro i y σ _ hy ⟨o2,rfl,rfl⟩
       obtain⟨hi,rfl⟩:=Lo hy
       have p1:=hp i hi
       have lp:0<(if i=0 then (1:Int) else f (i-1)):=by
        split
        . decide
        . exact hp _ (by omega)
       have ld:(if i=0 then (1:Int) else f (i-1))∣f i:=by
        split
        . exact Int.one_dvd _
        . exact hc _ _ (by omega) (by omega) hi
       refine An (t:=tIfS _ _ _) (fun σ' H'=>σ'=[some (.ref tp),some (.int (if i=0 then 1 else f (i-1))),some (.int (f i))]/\H=H') ?_ fun key2=>?_
       rotate_left
       . refine⟨_,rfl,_,.int (f i),rfl,rfl,_,rfl,?_⟩
         refine ifN (by simp [Ju,isD]) ?_
         refine⟨_,rfl,_,_,rfl,rfl,_,rfl,?_⟩
         refine ifN (by simp;omega) ?_
         refine⟨_,rfl,_,rfl,_,_,rfl,rfl,lp,rfl,_,rfl,?_⟩
         refine ifN (by simp [Int.emod_eq_zero_of_dvd ld]) ?_
         exact key2 _ _ ⟨rfl,rfl⟩
       rintro _ _ ⟨rfl,rfl⟩
       exact ⟨_,rfl,_,rfl,rfl⟩
     . rintro σ H' ⟨o2,rfl,rfl⟩
       exact key _ _ ⟨_,_,rfl,rfl⟩
   rintro _ _ ⟨o1,o2,rfl,rfl⟩
   exact ⟨_,rfl,tp,_,_,_,rfl,rfl,x.tup,rfl,k⟩
abbrev E4:Stmt:=top 8
theorem Xh:FnScope ["thing","width"] ["thing","width"] (Aj E4):=⟨rfl,rfl,rfl,by decide +kernel,rfl,by decide +kernel,by decide +kernel⟩
theorem Xu {f:Addr}{fd:FuncData} (F:Fun K "is_table" "is_table" E4 f fd) (T:Txt K mg Ad Ab Ae) (Da:Has P w K mg base "is_list_of_wholes" ["thing","many"] 2 (Cu K)):FnOk P w K mg base CX0 3 f fd ["thing","width"] (J7 K):=by
 refine F.ok Xh (fun vs H Q E h=>?_) (fun C5 A outer s H vs Q E hr h=>?_)
 . obtain⟨v,h,w,f,rfl,hv,hh,hw,k⟩:=h
   rfl
 . obtain⟨v,h,w,f,rfl,hv,hh,hw,k⟩:=h
   obtain⟨t_MOST_ROWS,c_MOST_ROWS⟩:=T.x_MOST_ROWS
   refine⟨_,(Af (Dt (PW.pt (Tl (Se (Kv (A6 (Ca (K:=K)) (by rfl) T.n_isinstance Bh (Aa (pv 0) (Aa (Hh (v:=.ty "list") rfl T.n_list De rfl) Ai))))) (U9 (A7 A78 (A6 (A0 (K:=K)) (by rfl) T.n_len PySem.boot_len (Aa (pv 0) Ai)) (Ac0 (v:=.int 40) (by rfl) c_MOST_ROWS ⟨_,rfl⟩) (Bg _))))) (Al (Bd Ao2)) Bu)
    (Al (Bd (A6 (Sj (K:=K) (by rfl)) (by rfl) T.n_all Ws (Aa (Cj (N':=["row","width"]) (cap:=[none,some 1]) (by rfl) (by kernel_rfl) (Df (K:=K) (pv 0)) (fun _ _ _ _=>(A3 (i:=0) Ax7 (by rfl) (by first | exact Or.inl rfl | exact Or.inr rfl))) (fun _ _ _ _=>Cl) (fun _ _ _ _=>(Ap Da hr (by rfl) (Aa (pv 0) (Aa (pv 1) Ai))))) Ai))))),?_⟩
   obtain⟨a,us,rfl,hq,hul,hrow⟩:=Li hv
   refine⟨_,rfl,.ref a,"list",dT h w f,rfl,.inr (.inr (.inr (.inr (.inl rfl)))),hv,_,rfl,?_⟩
   refine ifN (by simp [isD,dT]) ?_
   refine⟨_,rfl,a,_,rfl,.inl hq,_,_,rfl,rfl,_,rfl,?_⟩
   refine ifN (by simp;omega) ?_
   refine⟨_,rfl,a,rfl,⟨_,hq⟩,fun D hD=>?_⟩
   refine Ct (K:=K) (a:=a) (xs:=us) (fun i ys τ H1=>Same H H1/\H1 D=some (.lst ys)/\ys=(List.replicate i true).map V.bl/\∃ o,τ=[o,some (.int w)])
    ⟨Same.new hD,Ag,rfl,none,rfl⟩ (fun i ys τ H1 _ ⟨s1,_⟩=>s1.seq hq) ?_ ?_
   . rintro i x ys τ H1 hx ⟨s1,hD1,rfl,o,rfl⟩
     obtain⟨hi,b,rfl,hb⟩:=hrow i _ hx
     refine⟨_,rfl,_,rfl,b,w,f i,rfl,s1.seq hb,hw,fun H2 s2=>?_⟩
     refine⟨s2 _ _ hD1,small (by simp;omega),(s1.trans s2).turn hD,Ag,?_,_,rfl⟩
     rw [List.replicate_succ',List.map_append]
     rfl
   . rintro ys τ H1 ⟨s1,hD1,rfl,_⟩
     refine⟨D,List.replicate us.length true,rfl,.of hD1,?_⟩
     rw [show (List.replicate us.length true).all id=true by simp]
     exact k H1 s1
abbrev Dd:Stmt:=Dx (top 18) 1
theorem Tk:FnScope ["self","turn"] ["self","turn"] (Aj Dd):=⟨rfl,rfl,rfl,by decide +kernel,rfl,by decide +kernel,by decide +kernel⟩
theorem K0 {f:Addr}{fd:FuncData} (F:Fun K "turn" "Lines.turn" Dd f fd) (T:Txt K mg Ad Ab Ae) (Lb:Has P w K mg base "turned" ["lines","turn"] 2 (Ly K)) (Om:Has P w K mg base "across" ["turn"] 1 (Ov K)):FnOk P w K mg base CX0 3 f fd ["self","turn"] (Ge K Ad Ab Ae):=by
 refine F.ok Tk (fun vs H Q E h=>?_) (fun C5 A outer s H vs Q E hr h=>?_)
 . obtain⟨p,u,C,r,b,sv,n,W,s,N,t,rfl,hC,x,hu,m1,m2,hn,hW,k⟩:=h
   rfl
 . obtain⟨p,u,C,r,b,sv,n,W,s,N,t,rfl,hC,x,hu,m1,m2,hn,hW,k⟩:=h
   refine⟨_,(Af (Dw (K:=K) (pv 0) (Ap Lb hr (by rfl) (Aa (Ao (K:=K) (pv 0)) (Aa (pv 1) Ai))))
    (Al (Dw (K:=K) (pv 0) (Ap Lb hr (by rfl) (Aa (Ao (K:=K) (pv 0)) (Aa (Ap Om hr (by rfl) (Aa (pv 1) Ai)) Ai)))))),?_⟩
   obtain⟨dx,fs,hp,l1,l2,l3,l4,l5⟩:=x.ob
   obtain⟨as,xa,na⟩:=x.rw
   obtain⟨bs,xb,nb⟩:=x.bk
   have hc:Cls K C/\NoAttr K C "rows"/\NoAttr K C "backs":=by
    rcases hC with rfl | rfl
    . exact ⟨T.cl_Lines,T.na_Lines_rows,T.na_Lines_backs⟩
    . exact ⟨T.cl_Stairs,T.na_Stairs_rows,T.na_Stairs_backs⟩
   refine⟨_,rfl,p,C,dx,fs,_,rfl,hp,hc.1,hc.2.1,l1,_,rfl,r,u,as,n,W,s.1,t,rfl,xa,hu,m1,hn,hW,fun D1 as1 H1 hD1 s1 x1 n1=>?_⟩
   have hp1:=s1 _ _ hp
   refine⟨_,rfl,p,C,dx,fs,rfl,hp1,hc.1,hc.2.1,by omega,?_⟩
   have sx1:SameX p H (upd H1 p (.ins C dx (putF "rows" (.ref D1) fs))):=SameX.upd (SameX.of s1)
   have sx1':SameX p H1 (upd H1 p (.ins C dx (putF "rows" (.ref D1) fs))):=SameX.upd (SameX.refl _ _)
   have hu1:Rep K (upd H1 p (.ins C dx (putF "rows" (.ref D1) fs))) u (dTn t):=by
    refine Rep.t ⟨fun b xs e=>?_,fun b o u e=>?_⟩ (by cases t<;>rfl) hu
    . exact sx1 b _ (F6 e hp (by intro z;cases z)) e
    . exact sx1 b _ (F6 e hp (by intro z;cases z)) e
   have hl1:(putF "rows" (V.ref D1) fs).length=fs.length:=Ie l1
   have hp2:(upd H1 p (.ins C dx (putF "rows" (.ref D1) fs))) p=some (.ins C dx (putF "rows" (.ref D1) fs)):=Ag
   have x2:=x1.x hp1 sx1'
   have xb2:=xb.x hp sx1
   have fr2:∀ a,(upd H1 p (.ins C dx (putF "rows" (.ref D1) fs))) a=none->H a=none:=fun a e=>by
    by_cases hap:a=p
    . rw [hap,Ag] at e;cases e
    . rw [Aq hap] at e;exact s1.free e
   generalize hH2:upd H1 p (.ins C dx (putF "rows" (.ref D1) fs))=H2 at sx1 sx1' hu1 hp2 x2 xb2 fr2
   refine⟨_,rfl,p,C,dx,_,_,rfl,hp2,hc.1,hc.2.2,(by rw [Ah,if_neg (by decide +kernel)];exact l2),_,rfl,u,t,rfl,hu1,fun u2 H3 s3 hu3=>?_⟩
   refine⟨b,u2,bs,n,n,s.2,tnA t,rfl,xb2.same s3,hu3,m2,hn,hn,fun D2 bs2 H4 hD2 s4 x4 n4=>?_⟩
   have s24:=s3.trans s4
   have hp4:=s24 _ _ hp2
   refine⟨_,rfl,p,C,dx,_,rfl,hp4,hc.1,hc.2.2,by omega,?_⟩
   have hl2:(putF "backs" (V.ref D2) (putF "rows" (V.ref D1) fs)).length=(putF "rows" (V.ref D1) fs).length:=Ie (x:=.ref b) (by rw [Ah,if_neg (by decide +kernel)];exact l2)
   have sx5:SameX p H4 (upd H4 p (.ins C dx (putF "backs" (.ref D2) (putF "rows" (.ref D1) fs)))):=SameX.upd (SameX.refl _ _)
   have f2:H D2=none:=fr2 _ (s3.free hD2)
   have dne:D1≠D2:=fun z=>(x2.same s3).there.1 (z▸hD2)
   have nN:∀ a,H a=none->¬N a:=fun a e z=>x.nn a z e
   refine k D1 D2 _ (SameX.upd (sx1.trans (SameX.of s24))) hD1 f2 ⟨⟨dx,_,Ag,?_,?_,?_,fun m hm=>?_,by omega⟩,⟨as1,(x2.same s24).x hp4 sx5,fun a ha=>?_⟩,⟨bs2,x4.x hp4 sx5,fun a ha=>?_⟩,dne,nN _ hD1,nN _ f2,fun a ha z=>?_⟩
   . rw [Ah,if_neg (by decide +kernel),Ah,if_pos rfl]
   . rw [Ah,if_pos rfl]
   . rw [Ah,if_neg (by decide +kernel),Ah,if_neg (by decide +kernel)];exact l3
   . rw [Ah,if_neg (fun z=>absurd (z▸hm) (by decide +kernel)),Ah,if_neg (fun z=>absurd (z▸hm) (by decide +kernel))];exact l4 m hm
   . have h1:=(x2.same s3).there.2 a ha
     obtain⟨h2,h3⟩:=n1 a ha
     refine⟨h3,fun z=>h1 (z▸hD2),?_⟩
     rcases h2 with h2 | h2
     . exact (na a h2).2.2
     . exact nN a h2
   . obtain⟨h2,h3⟩:=n4 a ha
     refine⟨fun z=>?_,h3,?_⟩
     . rcases h2 with h2 | h2
       . exact xb.there.2 a h2 (z▸hD1)
       . exact (x2.same s3).there.1 (z▸h2)
     . rcases h2 with h2 | h2
       . exact (nb a h2).2.2
       . exact nN a (fr2 _ (s3.free h2))
   . by_cases hap:a=p
     . rw [hap,Ag] at z;cases z
     . rw [Aq hap] at z
       exact x.nn a ha (fr2 _ (s24.free z))
abbrev Cp:Stmt:=Dx (top 27) 0
theorem Qz:FnScope ["self","table","width"] ["self","table","width"] (Aj Cp):=⟨rfl,rfl,rfl,by decide +kernel,rfl,by decide +kernel,by decide +kernel⟩
theorem Q8 {f:Addr}{fd:FuncData} (F:Fun K "__init__" "Work.__init__" Cp f fd) (T:Txt K mg Ad Ab Ae) (hc_Lines:HasC P w K mg base Ad ["self","rows","backs"] 1 (Hw K Ad Ab Ae)) (Sk:Has P w K mg base "ones" ["size"] 2 (W8 K)):FnOk P w K mg base CX0 3 f fd ["self","table","width"] (Tb K Ad Ab Ae):=by
 refine F.ok Qz (fun vs H Q E h=>?_) (fun C5 A outer s H vs Q E hr h=>?_)
 . obtain⟨H0,p,dx,v,n,w,M,rfl,s0,fp,hp,hv,hn,hw,k⟩:=h
   rfl
 . obtain⟨H0,p,dx,v,n,w,M,rfl,s0,fp,hp,hv,hn,hw,k⟩:=h
   refine⟨_,(Af (Dw (K:=K) (pv 0) (pv 1))
    (Af (Dw (K:=K) (pv 0) (pv 2))
    (Af (Dw (K:=K) (pv 0) (Ky hc_Lines hr (by rfl) T.m_Lines (Aa (Ap Sk hr (by rfl) (Aa (A6 (A0 (K:=K)) (by rfl) T.n_len PySem.boot_len (Aa (pv 1) Ai)) Ai)) (Aa (Ap Sk hr (by rfl) (Aa (A6 (A0 (K:=K)) (by rfl) T.n_len PySem.boot_len (Aa (pv 1) Ai)) Ai)) Ai))))
    (Af (Dw (K:=K) (pv 0) (Ky hc_Lines hr (by rfl) T.m_Lines (Aa (Ap Sk hr (by rfl) (Aa (pv 2) Ai)) (Aa (Ap Sk hr (by rfl) (Aa (pv 2) Ai)) Ai))))
    (Al (Dw (K:=K) (pv 0) (Sh Ai))))))),?_⟩
   obtain⟨ta,us,rfl,hq0,hul,_⟩:=Li hv
   have mkL:∀{G1 G2 G3:Hp}{D1 D2 L dxl:Addr}{as1 as2:List Addr}{m:Nat}{fs:List (Str × V)}{G4:Hp}{N:Addr->Prop},as1.length=m->Rows G1 G2 D1 as1 m (fun i j=>if j=i then 1 else 0)->as2.length=m->Rows G2 G3 D2 as2 m (fun i j=>if j=i then 1 else 0)->G3 L=none->Same G3 (upd (upd G3 dxl (.own L)) L (.ins Ad dxl []))->fs=putF "backs" (.ref D2) (putF "rows" (.ref D1) [])->G4=upd (upd (upd (upd G3 dxl (.own L)) L (.ins Ad dxl [])) L (.ins Ad dxl (putF "rows" (.ref D1) []))) L (.ins Ad dxl fs)->(∀ a,N a->G1 a≠none) →
    Same G3 G4/\LX G4 Ad L D1 D2 none m m (Lat.one,Lat.one) N:=by
    intro G1 G2 G3 D1 D2 L dxl as1 as2 m fs G4 N hl1 R1 hl2 R2 nL sN hfs hG4 hN
    have hL4:G4 L=some (.ins Ad dxl fs):=by rw [hG4];exact Ag
    have st:Same G3 G4:=fun a o e=>by
     rw [hG4,Aq (Ar e nL),Aq (Ar e nL)]
     exact sN _ _ e
    clear hG4
    have x1:TA G4 D1 as1 m m Lat.one:=((TA.of R1 hl1).same (R2.same.trans st)).congr fun i c _ _=>by
     by_cases z:i=c
     . subst z;simp [Lat.one]
     . have:¬c=i:=fun e=>z e.symm
       simp [Lat.one,z,this]
    have x2:TA G4 D2 as2 m m Lat.one:=((TA.of R2 hl2).same st).congr fun i c _ _=>by
     by_cases z:i=c
     . subst z;simp [Lat.one]
     . have:¬c=i:=fun e=>z e.symm
       simp [Lat.one,z,this]
    have t1:=(TA.of R1 hl1).there
    have f2:∀ a,G2 a=none->G1 a=none:=fun a e=>R1.same.free e
    have nN:∀ a,G1 a=none->¬N a:=fun a e z=>hN a z e
    refine⟨st,⟨dxl,fs,hL4,by rw [hfs];((repeat (first | rw [Ah,if_pos rfl] | rw [Ah,if_neg (by decide +kernel)]))<;>first | rfl | assumption),by rw [hfs];((repeat (first | rw [Ah,if_pos rfl] | rw [Ah,if_neg (by decide +kernel)]))<;>first | rfl | assumption),by rw [hfs];((repeat (first | rw [Ah,if_pos rfl] | rw [Ah,if_neg (by decide +kernel)]))<;>first | rfl | assumption),fun m hm=>?_,?_⟩,⟨as1,x1,fun a ha=>?_⟩,⟨as2,x2,fun a ha=>?_⟩,fun z=>t1.1 (z▸R2.free),nN _ R1.free,nN _ (f2 _ R2.free),fun a ha z=>hN a ha (f2 _ (R2.same.free (st.free z)))⟩
    . rw [hfs,Ah,if_neg (fun z=>absurd (z▸hm) (by decide +kernel)),Ah,if_neg (fun z=>absurd (z▸hm) (by decide +kernel))];rfl
    . rw [hfs];exact Nat.le_trans (A8 _ _ _) (Nat.le_trans (Nat.succ_le_succ (A8 _ _ _)) (by decide))
    . obtain⟨i,hi,rfl⟩:=List.getElem_of_mem ha
      obtain⟨z1,z2,z3⟩:=R1.row i _ (List.getElem?_eq_getElem hi)
      exact ⟨z2,fun z=>t1.2 _ ha (z▸R2.free),nN _ z1⟩
    . obtain⟨i,hi,rfl⟩:=List.getElem_of_mem ha
      obtain⟨z1,z2,z3⟩:=R2.row i _ (List.getElem?_eq_getElem hi)
      exact ⟨fun z=>t1.1 (z▸z1),z2,nN _ (f2 _ z1)⟩
   refine⟨_,rfl,_,rfl,p,Ae,dx,_,rfl,hp,T.cl_Work,T.na_Work_table,by simp,?_⟩
   refine B4 (fun σ' H'=>σ'=[some (.ref p),some (.ref ta),some (.int (w:Int))]/\upd H p (.ins Ae dx (putF "table" (.ref ta) []))=H') ?_ fun key0=>key0 _ _ ⟨rfl,rfl⟩
   rintro _ _ ⟨rfl,rfl⟩
   refine An (fun σ' H'=>σ'=[some (.ref p),some (.ref ta),some (.int (w:Int))]/\∃ fs,fs=putF "width" (.int (w:Int)) (putF "table" (.ref ta) [])/\H' p=some (.ins Ae dx fs)/\SameX p H H') ?_ fun key=>?_
   rotate_left
   . refine⟨_,rfl,_,rfl,p,Ae,dx,_,rfl,Ag,T.cl_Work,T.na_Work_width,by simp [putF],?_⟩
     exact key _ _ ⟨rfl,_,rfl,Ag,SameX.upd (SameX.upd (SameX.refl _ _))⟩
   rintro _ H2 ⟨rfl,fs2,hf2,hp2,sx2⟩
   have l2:fs2.length<=2:=by rw [hf2];exact Nat.le_trans (A8 _ _ _) (Nat.succ_le_succ (A8 _ _ _))
   have s02:Same H0 H2:=sx2.same s0 fp
   refine An (fun σ' H'=>σ'=[some (.ref p),some (.ref ta),some (.int (w:Int))]/\∃ (L O1 O2:Addr) (fs:List (Str × V)),fs=putF "left" (.ref L) fs2/\H' p=some (.ins Ae dx fs)/\SameX p H2 H'/\Kp H2 H'/\p≠L/\H2 L=none/\H2 O1=none/\H2 O2=none/\LX H' Ad L O1 O2 none n n (Lat.one,Lat.one) (fun _=>False)) ?_ fun key=>?_
   rotate_left
   . refine⟨_,rfl,ta,us,rfl,.inl (s02.seq hq0),n,(by rw [hul]<;>rfl),by omega,fun O1 os1 G1 hl1 R1=>?_⟩
     refine⟨_,rfl,ta,us,rfl,.inl ((s02.trans R1.same).seq hq0),n,(by rw [hul]<;>rfl),by omega,fun O2 os2 G2 hl2 R2=>?_⟩
     have s2:=R1.same.trans R2.same
     intro L dl nL ndl nedl
     have sN:Same G2 (upd (upd G2 dl (.own L)) L (.ins Ad dl [])):=(Same.new ndl).turn nL
     refine⟨L,dl,Ad,.ref O1,.ref O2,rfl,.inl rfl,Ag,fun G4 fs hfs hG4=>⟨rfl,?_⟩⟩
     obtain⟨st,lx⟩:=mkL (N:=fun _=>False) hl1 R1 hl2 R2 nL sN hfs hG4 (fun _ z=>z.elim)
     have hp4:=st _ _ (s2 _ _ hp2)
     have npL:p≠L:=Ar (s2 _ _ hp2) nL
     refine⟨_,rfl,p,Ae,dx,_,rfl,hp4,T.cl_Work,T.na_Work_left,by omega,?_⟩
     exact key _ _ ⟨rfl,L,O1,O2,_,rfl,Ag,SameX.upd (SameX.of (s2.trans st)),(Kp.of (s2.trans st)).trans Kp.upd,npL,s2.free nL,R1.free,R1.same.free R2.free,lx.x hp4 npL (SameX.upd (SameX.refl _ _)) Kp.upd⟩
   rintro _ H3 ⟨rfl,L,O1,O2,fs3,hf3,hp3,sx3,kp3,npL,nL,n1,n2,lx3⟩
   have l3:fs3.length<=3:=by rw [hf3];exact Nat.le_trans (A8 _ _ _) (Nat.succ_le_succ l2)
   have s03:Same H0 H3:=sx3.same s02 fp
   refine An (fun σ' H'=>σ'=[some (.ref p),some (.ref ta),some (.int (w:Int))]/\∃ (R O3 O4:Addr) (fs:List (Str × V)),fs=putF "right" (.ref R) fs3/\H' p=some (.ins Ae dx fs)/\SameX p H3 H'/\Kp H3 H'/\p≠R/\H3 R=none/\H3 O3=none/\H3 O4=none/\LX H' Ad L O1 O2 none n n (Lat.one,Lat.one) (fun a=>a=O3\/a=O4)/\LX H' Ad R O3 O4 none w w (Lat.one,Lat.one) (fun _=>False)) ?_ fun key=>?_
   rotate_left
   . refine⟨_,rfl,w,rfl,by omega,fun O1' os1 G1 hl1 R1=>?_⟩
     refine⟨_,rfl,w,rfl,by omega,fun O2' os2 G2 hl2 R2=>?_⟩
     have s2:=R1.same.trans R2.same
     intro R dl nR ndl nedl
     have sN:Same G2 (upd (upd G2 dl (.own R)) R (.ins Ad dl [])):=(Same.new ndl).turn nR
     refine⟨R,dl,Ad,.ref O1',.ref O2',rfl,.inl rfl,Ag,fun G4 fs hfs hG4=>⟨rfl,?_⟩⟩
     obtain⟨st,lx⟩:=mkL (N:=fun _=>False) hl1 R1 hl2 R2 nR sN hfs hG4 (fun _ z=>z.elim)
     have hp4:=st _ _ (s2 _ _ hp3)
     have npR:p≠R:=Ar (s2 _ _ hp3) nR
     have n4:H3 O2'=none:=R1.same.free R2.free
     refine⟨_,rfl,p,Ae,dx,_,rfl,hp4,T.cl_Work,T.na_Work_right,by omega,?_⟩
     have y1:LX G4 Ad L O1 O2 none n n (Lat.one,Lat.one) (fun a=>a=O1'\/a=O2'):=lx3.more (s2.trans st) (fun a ha=>.inr (by rcases ha with rfl | rfl;exact R1.free;exact n4)) fun a ha=>by
      rcases ha with rfl | rfl
      . obtain⟨_,z,_⟩:=lx.rw;exact z.there.1
      . obtain⟨_,z,_⟩:=lx.bk;exact z.there.1
     exact key _ _ ⟨rfl,R,O1',O2',_,rfl,Ag,SameX.upd (SameX.of (s2.trans st)),(Kp.of (s2.trans st)).trans Kp.upd,npR,s2.free nR,R1.free,n4,y1.x hp4 npL (SameX.upd (SameX.refl _ _)) Kp.upd,lx.x hp4 npR (SameX.upd (SameX.refl _ _)) Kp.upd⟩
   rintro _ H4 ⟨rfl,R,O3,O4,fs4,hf4,hp4,sx4,kp4,npR,nR,n3,n4,lx4,ly4⟩
   have l4:fs4.length<=4:=by rw [hf4];exact Nat.le_trans (A8 _ _ _) (Nat.succ_le_succ l3)
   have s04:Same H0 H4:=sx4.same s03 fp
   refine⟨Nat.zero_le _,fun nm hnm=>?_⟩
   have sn:Same H4 (upd H4 nm (.lst [])):=Same.new hnm
   have hnm5:upd H4 nm (.lst []) nm=some (.lst []):=Ag
   have hp5:=sn _ _ hp4
   generalize upd H4 nm (.lst [])=H5 at sn hnm5 hp5
   refine⟨_,rfl,p,Ae,dx,_,rfl,hp5,T.cl_Work,T.na_Work_numbers,by omega,?_⟩
   have ex:∀ a,a=nm\/a=O3\/a=O4->H5 a≠none:=fun a ha=>by
    rcases ha with rfl | rfl | rfl
    . rw [hnm5];exact fun z=>nomatch z
    . obtain⟨_,z,_⟩:=ly4.rw;exact (z.same sn).there.1
    . obtain⟨_,z,_⟩:=ly4.bk;exact (z.same sn).there.1
   have z1:LX H5 Ad L O1 O2 none n n (Lat.one,Lat.one) (fun a=>a=nm\/a=O3\/a=O4):=lx4.more sn (fun a ha=>ha.elim (fun e=>.inr (e▸hnm)) .inl) ex
   have z2:LX H5 Ad R O3 O4 none w w (Lat.one,Lat.one) (fun a=>a=nm):=ly4.more sn (fun a ha=>.inr (ha▸hnm)) fun a ha=>ex a (.inl ha)
   have sx6:SameX p H5 (upd H5 p (.ins Ae dx (putF "numbers" (.ref nm) fs4))):=SameX.upd (SameX.refl _ _)
   have s06:Same H0 (upd H5 p (.ins Ae dx (putF "numbers" (.ref nm) fs4))):=sx6.same (s04.trans sn) fp
   have g2:∀ a,H2 a=none->H0 a=none:=fun a e=>s02.free e
   have g3:∀ a,H3 a=none->H0 a=none:=fun a e=>s03.free e
   have npn:p≠nm:=Ar hp4 hnm
   have LR:L≠R:=fun z=>by obtain⟨_,_,q,_⟩:=lx3.ob;rw [z,nR] at q;cases q
   refine k L R nm _ ⟨⟨.ref ta,dx,_,Ag,?_,?_,?_,?_,?_,fun m hm=>?_,?_,fun M' e=>by cases e;exact Rep.same (fun a o e=>by rw [T8 (Ar e (s04.free hnm))];exact s06 _ _ e) hv⟩,⟨O1,O2,O3,O4,z1.x hp5 npL sx6 Kp.upd,z2.x hp5 npR sx6 Kp.upd,g2 _ n1,g2 _ n2,g3 _ n3,g3 _ n4⟩,by rw [Aq npn.symm];exact hnm5,s06,⟨fp,g2 _ nL,g3 _ nR,s04.free hnm⟩,⟨npL,npR,LR⟩,⟨hn,hw⟩⟩
   . rw [hf4,hf3,hf2];((repeat (first | rw [Ah,if_pos rfl] | rw [Ah,if_neg (by decide +kernel)]))<;>first | rfl | assumption)
   . rw [hf4,hf3,hf2];((repeat (first | rw [Ah,if_pos rfl] | rw [Ah,if_neg (by decide +kernel)]))<;>first | rfl | assumption)
   . rw [hf4,hf3];((repeat (first | rw [Ah,if_pos rfl] | rw [Ah,if_neg (by decide +kernel)]))<;>first | rfl | assumption)
   . rw [hf4];((repeat (first | rw [Ah,if_pos rfl] | rw [Ah,if_neg (by decide +kernel)]))<;>first | rfl | assumption)
   . ((repeat (first | rw [Ah,if_pos rfl] | rw [Ah,if_neg (by decide +kernel)]))<;>first | rfl | assumption)
   . rw [hf4,hf3,hf2]
     iterate 5 rw [Ah,if_neg (fun z=>absurd (z▸hm) (by decide +kernel))]
     rfl
   . exact Nat.le_trans (A8 _ _ _) (by omega)
abbrev E6:Stmt:=top 36
theorem Xj:FnScope ["_law_table","_law_width","_law_of_rows","_law_turn"] ["_law_table","_law_width","_law_of_rows","_law_turn"] (Aj E6):=⟨rfl,rfl,rfl,by decide +kernel,rfl,by decide +kernel,by decide +kernel⟩
theorem Xw {f:Addr}{fd:FuncData} (F:Fun K "_law_turned" "_law_turned" E6 f fd) (T:Txt K mg Ad Ab Ae) (Fm:Has P w K mg base "_law_flip" ["_law_table","_law_width"] 1 (Ko K)) (Di:Has P w K mg base "_law_rows_turned" ["_law_table","_law_turn"] 2 (Eg K)):FnOk P w K mg base CX0 3 f fd ["_law_table","_law_width","_law_of_rows","_law_turn"] (J8 K):=by
 refine F.ok Xj (fun vs H Q E h=>?_) (fun C5 A outer s H vs Q E hr h=>?_)
 . obtain⟨v,u,h,w,B,f,b,t,rfl,hv,hu,hok,bf,bt,hB,hh,hw,k⟩:=h
   rfl
 . obtain⟨v,u,h,w,B,f,b,t,rfl,hv,hu,hok,bf,bt,hB,hh,hw,k⟩:=h
   refine⟨_,(Af (Dt (Kv (pv 2)) (Al (Bd (Ap Di hr (by rfl) (Aa (pv 0) (Aa (pv 3) Ai))))) Bu)
    (Al (Bd (Ap Fm hr (by rfl) (Aa (Ap Di hr (by rfl) (Aa (Ap Fm hr (by rfl) (Aa (pv 0) (Aa (pv 1) Ai))) (Aa (pv 3) Ai))) (Aa (A6 (A0 (K:=K)) (by rfl) T.n_len PySem.boot_len (Aa (pv 0) Ai)) Ai)))))),?_⟩
   refine⟨_,rfl,_,rfl,?_⟩
   cases b with
   | true =>
     refine ifP rfl ?_
     exact ⟨_,rfl,_,rfl,v,u,h,w,B,f,t,rfl,hv,hu,hok,bf,bt,hB,hh,hw,k⟩
   | false =>
     refine ifN (by decide) ?_
     refine⟨_,rfl,_,rfl,v,h,w,f,rfl,hv,by omega,by omega,fun D1 as1 H1 hl1 R1=>?_⟩
     refine⟨_,rfl,.ref D1,u,w,h,B,(fun i j=>f j i),t,rfl,R1.rep hl1,Rep.same R1.same hu,hok,fun i j=>bf j i,bt,hB,hw,hh,fun D2 H2 n2 s2 r2=>?_⟩
     have s12:=R1.same.trans s2
     obtain⟨a,us,rfl,hq,hul,hrow⟩:=Li hv
     refine⟨_,rfl,a,us,rfl,.inl (s12.seq hq),.ref D2,w,h,tnF t (fun i j=>f j i),(by rw [hul]<;>rfl),Rep.same Fd r2,by omega,by omega,fun D3 as3 H3 hl3 R3=>?_⟩
     exact k D3 H3 (s12.free R3.free) (s12.trans R3.same) (R3.hid hl3 fun a z=>Kp.of s12 a z)
abbrev Bm:Stmt:=Dx (top 21) 4
theorem Ir:FnScope ["self","i","first","j","at","quotient"] ["self","i","first"] (Aj Bm):=⟨rfl,rfl,rfl,by decide +kernel,rfl,by decide +kernel,by decide +kernel⟩
theorem Cv:(["self","i","first","j","at","quotient"]:List Str).Nodup:=by decide +kernel
theorem Iz {f:Addr}{fd:FuncData} (F:Fun K "shrink_row" "Stairs.shrink_row" Bm f fd) (T:Txt K mg Ad Ab Ae) (hm_Stairs_turn:HasM P w K mg base Ab "turn" ["self","turn"] 3 (Ge K Ad Ab Ae)):FnOk P w K mg base CX0 4 f fd ["self","i","first"] (D6 K Ad Ab Ae):=by
 refine F.ok Ir (fun vs H Q E h=>?_) (fun C5 A outer s H vs Q E hr h=>?_)
 . obtain⟨H0,p,q,M,n,W,t,cnt,s,i,f,rfl,x,hi,hf,hif,hds,ok,k⟩:=h
   rfl
 . obtain⟨H0,p,q,M,n,W,t,cnt,s,i,f,rfl,x,hi,hf,hif,hds,ok,k⟩:=h
   refine⟨_,(Al (Fj PassesOwn.never rfl (Ve (by rfl) T.n_range (Aa (pv 2) (Aa (A6 (A0 (K:=K)) (by rfl) T.n_len PySem.boot_len (Aa (Ao (K:=K) (pv 0)) Ai)) Ai))) (A3 (i:=3) Cv (by rfl) (by first | exact Or.inl rfl | exact Or.inr rfl)) (Af (Av (i:=4) Cv (by rfl) (by first | exact Or.inl rfl | exact Or.inr rfl) (A2 (As (K:=K)) (Ao (K:=K) (pv 0)) (pv 3) (fun _ _=>rfl)))
    (Af (Av (i:=5) Cv (by rfl) (by first | exact Or.inl rfl | exact Or.inr rfl) (Bb Gh (A2 (As (K:=K)) (A2 (As (K:=K)) (Ao (K:=K) (pv 0)) (pv 1) (fun _ _=>rfl)) (pv 4) (fun _ _=>rfl)) (A2 (As (K:=K)) (A2 (As (K:=K)) (Ao (K:=K) (pv 0)) (pv 3) (fun _ _=>rfl)) (pv 4) (fun _ _=>rfl))))
    (Al (Dt (A7 Vj (pv 5) Am (Bg _)) (Al (Bn (Ck (pv 0) T.cl_Stairs hm_Stairs_turn hr (Aa (F5 (Aa Fk (Aa (pv 1) (Aa (pv 3) (Aa (Nk Gw (pv 5)) Ai))))) Ai)))) Bu)))))),?_⟩
   obtain⟨sm1,sm2,sm3⟩:=x.sm
   obtain⟨r,b,lx,_⟩:=x.ex
   obtain⟨dx,fs,hp,l1,l2,l3,l4,l5⟩:=lx.ob
   refine⟨_,rfl,_,rfl,p,Ab,dx,fs,_,rfl,hp,T.cl_Stairs,T.na_Stairs_starts,l3,q,_,rfl,.inl (.of x.st),(f:Int),(cnt:Int),by rw [A5],by omega,?_⟩
   rw [show (((cnt:Nat):Int)-((f:Nat):Int)).toNat=cnt-f by omega]
   clear lx hp l1 l2 l3 l4 l5
   refine Dj (lo:=(f:Int)) (n:=cnt-f) (fun d σ G=>∃ o3 o4 o5,σ=[some (.ref p),some (.int i),some (.int f),o3,o4,o5]/\SX Ab H0 G p q M n W t cnt (Lat.shrS t i f s d)) ⟨none,none,none,rfl,x⟩ ?_ ?_
   . rintro d σ G hd ⟨o3,o4,o5,rfl,y⟩
     obtain⟨r,b,lx,_⟩:=y.ex
     obtain⟨dx,fs,hp,l1,l2,l3,l4,l5⟩:=lx.ob
     obtain⟨as,xa,na⟩:=lx.rw
     obtain⟨h1,h2,h3⟩:=hds (f+d) (by omega) (by omega)
     have bo:=ok d (by omega)
     have ej:((f:Nat):Int)+((d:Nat):Int)=(((f+d:Nat):Nat):Int):=by omega
     rw [ej]
     have hji:f+d≠i:=by omega
     have er:(Lat.shrS t i f s d).1 (f+d)=s.1 (f+d):=Th t i f s d _ hji
     obtain⟨ci,_,eci,_,hci⟩:=xa.row (K:=K) hi
     obtain⟨cj,_,ecj,_,hcj⟩:=xa.row (K:=K) (show f+d<n by omega)
     rw [er] at hcj
     refine⟨_,rfl,p,Ab,dx,fs,_,rfl,hp,T.cl_Stairs,T.na_Stairs_starts,l3,_,rfl,q,_,_,_,rfl,rfl,.of y.st,Az (Bz (by omega)),?_⟩
     refine⟨_,rfl,p,Ab,dx,fs,_,rfl,hp,T.cl_Stairs,T.na_Stairs_rows,l1,_,rfl,r,_,_,_,rfl,rfl,.of xa.2.1,Az eci,_,rfl,ci,_,_,_,rfl,rfl,hci,Az (Bz h1),_,rfl,p,Ab,dx,fs,_,rfl,hp,T.cl_Stairs,T.na_Stairs_rows,l1,_,rfl,r,_,_,_,rfl,rfl,.of xa.2.1,Az ecj,_,rfl,cj,_,_,_,rfl,rfl,hcj,Az (Bz h1),_,_,rfl,rfl,CBig.of9 (by omega) h3,?_⟩
     have hsx:∀ G',SX Ab H0 G' p q M n W t cnt (Lat.addS i (f+d) (-((Lat.shrS t i f s d).1 i (t (f+d)) / s.1 (f+d) (t (f+d)))) (Lat.shrS t i f s d))->SX Ab H0 G' p q M n W t cnt (Lat.shrS t i f s (d+1)):=fun G' z=>z.re (by rw [Lat.shrS,er])
     have hq:((Lat.shrS t i f s d).1 i (t (f+d)) / s.1 (f+d) (t (f+d))).natAbs<2 ^ big:=Lat.fdiv_small h2 (bo.1 i _ hi h1)
     refine An (fun σ' H'=>σ'=[some (.ref p),some (.int i),some (.int f),some (.int ((f+d:Nat):Int)),some (.int ((t (f+d):Nat):Int)),some (.int ((Lat.shrS t i f s d).1 i (t (f+d)) / s.1 (f+d) (t (f+d))))]/\G=H') ?_ fun key=>key _ _ ⟨by rw [←Int.fdiv_eq_ediv_of_nonneg _ (Int.le_of_lt h2)];rfl,rfl⟩
     rintro _ _ ⟨rfl,rfl⟩
     generalize (Lat.shrS t i f s d).1 i (t (f+d)) / s.1 (f+d) (t (f+d))=qq at hsx hq
     refine⟨_,rfl,rfl,_,rfl,?_⟩
     refine ite2 (fun h4=>?_) (fun h4=>?_)
     . refine⟨_,rfl,p,dx,fs,rfl,hp,l4 _ (by decide +kernel),_,rfl,_,rfl,_,rfl,_,rfl,Ec (by simp),fun T1 hT1=>?_⟩
       have s1:Same G (upd G T1 (.tup [.str "add",.int i,.int ((f+d:Nat):Int),.int (-qq)])):=Same.new hT1
       have hT:Rep K (upd G T1 (.tup [.str "add",.int i,.int ((f+d:Nat):Int),.int (-qq)])) (.ref T1) (dTn (.ad i (f+d) (-qq))):=⟨T1,_,rfl,.of Ag,⟨_,_,rfl,rfl,_,_,rfl,rfl,_,_,rfl,rfl,_,_,rfl,rfl,rfl⟩⟩
       generalize upd G T1 (.tup [.str "add",.int i,.int ((f+d:Nat):Int),.int (-qq)])=G1 at s1 hT
       refine⟨p,.ref T1,Ab,r,b,_,n,W,_,_,.ad i (f+d) (-qq),rfl,.inr rfl,lx.keep s1,hT,⟨hi,by omega,fun z=>hji z.symm,fun c hc=>Vv (by rw [Int.natAbs_neg];exact hq) (bo.1 _ _ (by omega) hc) (by decide)⟩,⟨by omega,hi,hji,fun c hc=>Vv (by rw [Int.natAbs_neg,Int.natAbs_neg];exact hq) (bo.2 _ _ hi hc) (by decide)⟩,by omega,by omega,fun r' b' G2 sx n1 n2 z=>?_⟩
       exact ⟨_,_,_,rfl,hsx _ (y.redo s1 sx n1 n2 z)⟩
     . have h5:qq=0:=by simpa using h4
       subst h5
       exact ⟨_,_,_,rfl,hsx _ (y.re (Lat.addS_zero _ _ _).symm)⟩
   . rintro σ G ⟨o3,o4,o5,rfl,y⟩
     exact k _ y
abbrev Dc:Stmt:=Dx (top 27) 4
theorem Tj:FnScope ["self","i","j","one","other","papers"] ["self","i","j"] (Aj Dc):=⟨rfl,rfl,rfl,by decide +kernel,rfl,by decide +kernel,by decide +kernel⟩
theorem Gi:(["self","i","j","one","other","papers"]:List Str).Nodup:=by decide +kernel
theorem Tt {f:Addr}{fd:FuncData} (F:Fun K "share" "Work.share" Dc f fd) (T:Txt K mg Ad Ab Ae) (Eu:HasM P w K mg base Ad "turn" ["self","turn"] 3 (Ge K Ad Ab Ae)) (Fw:HasM P w K mg base Ad "blend" ["self","i","j","one","other"] 2 (Hf K Ad Ab Ae)):FnOk P w K mg base CX0 4 f fd ["self","i","j"] (Ow K Ad Ab Ae):=by
 refine F.ok Tj (fun vs H Q E h=>?_) (fun C5 A outer s H vs Q E hr h=>?_)
 . obtain⟨H0,p,L,R,nm,n,w,m,i,j,l,r,f,rfl,x,hij,hj,mn,mw,ok,k1,k2⟩:=h
   rfl
 . obtain⟨H0,p,L,R,nm,n,w,m,i,j,l,r,f,rfl,x,hij,hj,mn,mw,ok,k1,k2⟩:=h
   refine⟨_,(Af (Av (i:=3) Gi (by rfl) (by first | exact Or.inl rfl | exact Or.inr rfl) (A2 (As (K:=K)) (Ao (K:=K) (pv 0)) (pv 1) (fun _ _=>rfl)))
    (Af (Av (i:=4) Gi (by rfl) (by first | exact Or.inl rfl | exact Or.inr rfl) (A2 (As (K:=K)) (Ao (K:=K) (pv 0)) (pv 2) (fun _ _=>rfl)))
    (Al (Dt (A7 Vj (Bb Ed (pv 4) (pv 3)) Am (Bg _)) (Af (Bn (Ck (Ao (K:=K) (pv 0)) T.cl_Lines Eu hr (Aa (F5 (Aa Fk (Aa (pv 1) (Aa (pv 2) (Aa Am Ai))))) Ai)))
    (Af (Av (i:=5) Gi (by rfl) (by first | exact Or.inl rfl | exact Or.inr rfl) (Ck (Ao (K:=K) (pv 0)) T.cl_Lines Fw hr (Aa (pv 1) (Aa (pv 2) (Aa (pv 3) (Aa (pv 4) Ai))))))
    (Af (Bn (Ck (Ao (K:=K) (pv 0)) T.cl_Lines Eu hr (Aa (F5 (Aa Fk (Aa (pv 2) (Aa (pv 1) (Aa (Nk Gw (Bb Gh (Bb op_mulX (A2 (A4 (K:=K)) (pv 5) Am (fun _ _=>rfl)) (pv 4)) (A2 (A4 (K:=K)) (pv 5) Am (fun _ _=>rfl)))) Ai))))) Ai)))
    (Af (E9 (A2 (A4 (K:=K)) (pv 5) Am (fun _ _=>rfl)) (Fa (Ao (K:=K) (pv 0)) (pv 1) Cb))
    (Al (E9 (Bb op_mulX (Bb Gh (pv 3) (A2 (A4 (K:=K)) (pv 5) Am (fun _ _=>rfl))) (pv 4)) (Fa (Ao (K:=K) (pv 0)) (pv 2) Cb))))))) Bu)))),?_⟩
   obtain⟨sm1,sm2⟩:=x.sm
   obtain⟨tva,dxa,fsa,hpa,l1a,l2a,l3a,l4a,l5a,l6a,l7a,_⟩:=x.ob
   obtain⟨r1,b1,r2,b2,lx,ly,f1,f2,f3,f4⟩:=x.li
   obtain⟨p1,p1'⟩:=ok.p1
   obtain⟨p2,p2'⟩:=ok.p2
   refine⟨_,rfl,p,Ae,dxa,fsa,_,rfl,hpa,T.cl_Work,T.na_Work_numbers,l5a,_,rfl,nm,_,_,_,rfl,rfl,.of x.nu,Az (Bz (show i<m by omega)),?_⟩
   refine⟨_,rfl,p,Ae,dxa,fsa,_,rfl,hpa,T.cl_Work,T.na_Work_numbers,l5a,_,rfl,nm,_,_,_,rfl,rfl,.of x.nu,Az (Bz hj),?_⟩
   refine B4 (fun σ' H'=>σ'=[some (.ref p),some (.int (i:Int)),some (.int (j:Int)),some (.int (f i)),some (.int (f j)),none]/\H=H') ?_ fun key0=>key0 _ _ ⟨rfl,rfl⟩
   rintro _ _ ⟨rfl,rfl⟩
   refine⟨_,rfl,_,rfl,_,_,rfl,rfl,p1,rfl,_,rfl,?_⟩
   refine ite2 (fun h1=>?_) (fun h1=>?_)
   rotate_left
   . have h2:f j%f i=0:=by simpa using h1
     exact k1 (Int.dvd_of_emod_eq_zero h2)
   obtain⟨dl,fl,hL,_,_,_,m4,_⟩:=lx.ob
   refine An (fun σ' H'=>σ'=[some (.ref p),some (.int (i:Int)),some (.int (j:Int)),some (.int (f i)),some (.int (f j)),none]/\∃ r1 b1,WX K Ad Ae H0 H' p L R nm n w none (Lat.addS i j 1 l) r (lsI m f)/\LX H' Ad L r1 b1 none n n (Lat.addS i j 1 l) (fun a=>a=nm\/a=r2\/a=b2)/\LX H' Ad R r2 b2 none w w r (fun a=>a=nm)/\H0 r1=none/\H0 b1=none) ?_ fun key=>?_
   rotate_left
   . refine⟨_,rfl,p,Ae,dxa,fsa,_,rfl,hpa,T.cl_Work,T.na_Work_left,l3a,L,dl,fl,rfl,hL,m4 _ (by decide +kernel),_,rfl,_,rfl,Ec (by simp),fun T1 hT1=>?_⟩
     have s1:Same H (upd H T1 (.tup [.str "add",.int (i:Int),.int (j:Int),.int 1])):=Same.new hT1
     have hT:Rep K (upd H T1 (.tup [.str "add",.int (i:Int),.int (j:Int),.int 1])) (.ref T1) (dTn (.ad i j 1)):=⟨T1,_,rfl,.of Ag,⟨_,_,rfl,rfl,_,_,rfl,rfl,_,_,rfl,rfl,_,_,rfl,rfl,rfl⟩⟩
     generalize upd H T1 (.tup [.str "add",.int (i:Int),.int (j:Int),.int 1])=G1 at s1 hT
     refine⟨L,.ref T1,Ad,r1,b1,_,n,n,l,_,.ad i j 1,rfl,.inl rfl,lx.keep s1,hT,⟨by omega,by omega,by omega,fun c hc=>Ae3 (by decide) (by decide)⟩,⟨by omega,by omega,by omega,fun c hc=>Ae3 (by decide) (by decide)⟩,by omega,by omega,fun r' b' G2 sx n1 n2 z=>?_⟩
     obtain⟨y1,y2⟩:=x.left lx ly f3 f4 s1 sx n1 n2 z
     exact key _ _ ⟨rfl,r',b',y1,z,y2,(x.same.trans s1).free n1,(x.same.trans s1).free n2⟩
   rintro _ H2 ⟨rfl,r1',b1',x2,lx2,ly2,f1',f2'⟩
   obtain⟨tvb,dxb,fsb,hpb,l1b,l2b,l3b,l4b,l5b,l6b,l7b,_⟩:=x2.ob
   obtain⟨dr,fr,hR,_,_,_,m5,_⟩:=ly2.ob
   refine An (fun σ' H'=>∃ (P:Addr) (g a b:Int),σ'=[some (.ref p),some (.int (i:Int)),some (.int (j:Int)),some (.int (f i)),some (.int (f j)),some (.ref P)]/\Lat.Shares (f i) (f j) g a b/\SqT K H' P [.int g,.int a,.int b]/\WX K Ad Ae H0 H' p L R nm n w none (Lat.addS i j 1 l) (shR i j g a b f r) (lsI m f)/\LX H' Ad L r1' b1' none n n (Lat.addS i j 1 l) (fun a=>a=nm\/a=r2\/a=b2)/\LX H' Ad R r2 b2 none w w (shR i j g a b f r) (fun a=>a=nm)) ?_ fun key=>?_
   rotate_left
   . refine⟨_,rfl,p,Ae,dxb,fsb,_,rfl,hpb,T.cl_Work,T.na_Work_right,l4b,R,dr,fr,rfl,hR,m5 _ (by decide +kernel),_,rfl,_,rfl,_,rfl,_,rfl,?_⟩
     refine⟨R,Ad,r2,b2,_,w,w,i,j,f i,f j,r,_,rfl,.inl rfl,ly2,by omega,by omega,by omega,by omega,by omega,p1,p2,p1',p2',ok.br,fun P g a b G fr kp hT sh z=>?_⟩
     obtain⟨y1,y2⟩:=x2.right lx2 ly2 f1' f2' f3 f4 fr kp z
     exact key _ _ ⟨P,g,a,b,rfl,sh,hT,y1,y2,z⟩
   rintro _ H3 ⟨P,g,a,b,rfl,sh,hT3,x3,lx3,ly3⟩
   obtain⟨tvc,dxc,fsc,hpc,l1c,l2c,l3c,l4c,l5c,l6c,l7c,_⟩:=x3.ob
   obtain⟨dl3,fl3,hL3,_,_,_,m6,_⟩:=lx3.ob
   have g0:=sh.pos
   have lg:g.natAbs<L9:=Nat.lt_of_le_of_lt (Nat.le_of_dvd (Int.natAbs_pos.mpr (by omega)) (Int.natAbs_dvd_natAbs.mpr sh.dA)) p1'
   have lb:b.natAbs<L9:=Nat.lt_of_le_of_lt sh.lb p1'
   have cb:∀ z:Int,CBig z g:=fun z=>CBig.of9 (by omega) lg
   have ek:∀ z:Int,z.fdiv g=z / g:=fun z=>Int.fdiv_eq_ediv_of_nonneg _ (by omega)
   have lk':(b*f j / g).natAbs<2 ^ 18000:=Nat.lt_of_le_of_lt (Int.natAbs_ediv_le_natAbs _ _) (mul9 lb p2')
   refine An (fun σ' H'=>σ'=[some (.ref p),some (.int (i:Int)),some (.int (j:Int)),some (.int (f i)),some (.int (f j)),some (.ref P)]/\SqT K H' P [.int g,.int a,.int b]/\WX K Ad Ae H0 H' p L R nm n w none (shL i j g b f l) (shR i j g a b f r) (lsI m f)) ?_ fun key=>?_
   rotate_left
   . refine⟨_,rfl,p,Ae,dxc,fsc,_,rfl,hpc,T.cl_Work,T.na_Work_left,l3c,L,dl3,fl3,rfl,hL3,m6 _ (by decide +kernel),_,rfl,_,rfl,_,rfl,P,_,_,_,rfl,rfl,hT3,rfl,_,rfl,_,_,rfl,rfl,Ya lb p2',_,rfl,P,_,_,_,rfl,rfl,hT3,rfl,_,_,rfl,rfl,cb _,_,rfl,Ec (by simp),?_⟩
     rw [ek]
     intro T1 hT1
     have s1:Same H3 (upd H3 T1 (.tup [.str "add",.int (j:Int),.int (i:Int),.int (-(b*f j / g))])):=Same.new hT1
     have hT:Rep K (upd H3 T1 (.tup [.str "add",.int (j:Int),.int (i:Int),.int (-(b*f j / g))])) (.ref T1) (dTn (.ad j i (-(b*f j / g)))):=⟨T1,_,rfl,.of Ag,⟨_,_,rfl,rfl,_,_,rfl,rfl,_,_,rfl,rfl,_,_,rfl,rfl,rfl⟩⟩
     generalize upd H3 T1 (.tup [.str "add",.int (j:Int),.int (i:Int),.int (-(b*f j / g))])=G1 at s1 hT
     refine⟨L,.ref T1,Ad,r1',b1',_,n,n,_,_,.ad j i (-(b*f j / g)),rfl,.inl rfl,lx3.keep s1,hT,⟨by omega,by omega,by omega,fun c hc=>Vv (by rw [Int.natAbs_neg];exact lk') (ok.bl.2.1 _ _ (by omega) hc) (by decide)⟩,⟨by omega,by omega,by omega,fun c hc=>Vv (by rw [Int.natAbs_neg,Int.natAbs_neg];exact lk') (ok.bl.2.2 _ _ (by omega) hc) (by decide)⟩,by omega,by omega,fun r' b' G2 sx n1 n2 z=>?_⟩
     obtain⟨y1,_⟩:=x3.left lx3 ly3 f3 f4 s1 sx n1 n2 z
     exact key _ _ ⟨rfl,An1 (s1.seqT hT3) (s1 _ _ hL3) sx,y1⟩
   rintro _ H4 ⟨rfl,hT4,x4⟩
   obtain⟨tvd,dxd,fsd,hpd,l1d,l2d,l3d,l4d,l5d,l6d,l7d,_⟩:=x4.ob
   refine⟨_,rfl,P,_,_,_,rfl,rfl,hT4,rfl,_,rfl,p,Ae,dxd,fsd,_,rfl,hpd,T.cl_Work,T.na_Work_numbers,l5d,_,rfl,nm,_,_,i,rfl,rfl,x4.nu,Gk (by rw [A5];omega),?_⟩
   have e1:(VI m f).set i (.int g)=(lsI m fun k=>if k=i then g else f k).map V.int:=Ar9 (by omega)
   have x5:=x4.num (ns':=lsI m fun k=>if k=i then g else f k)
   rw [←e1] at x5
   have hT5:SqT K (upd H4 nm (.lst ((VI m f).set i (.int g)))) P [.int g,.int a,.int b]:=A74 hT4 x4.nu
   refine B4 (fun σ' H'=>σ'=[some (.ref p),some (.int (i:Int)),some (.int (j:Int)),some (.int (f i)),some (.int (f j)),some (.ref P)]/\SqT K H' P [.int g,.int a,.int b]/\WX K Ad Ae H0 H' p L R nm n w none (shL i j g b f l) (shR i j g a b f r) (lsI m fun k=>if k=i then g else f k)) ?_ fun key0=>key0 _ _ ⟨rfl,hT5,x5⟩
   rintro _ H6 ⟨rfl,hT6,x6⟩
   obtain⟨tve,dxe,fse,hpe,l1e,l2e,l3e,l4e,l5e,l6e,l7e,_⟩:=x6.ob
   have lA:(f i / g).natAbs<L9:=Nat.lt_of_le_of_lt (Int.natAbs_ediv_le_natAbs _ _) p1'
   refine⟨_,rfl,_,rfl,P,_,_,_,rfl,rfl,hT6,rfl,_,_,rfl,rfl,cb _,_,rfl,_,_,rfl,rfl,(by rw [ek];exact Ya lA p2'),_,rfl,p,Ae,dxe,fse,_,rfl,hpe,T.cl_Work,T.na_Work_numbers,l5e,_,rfl,nm,_,_,j,rfl,rfl,x6.nu,Gk (by rw [A5];exact hj),?_⟩
   rw [ek]
   have e2:(VI m fun k=>if k=i then g else f k).set j (.int (f i / g*f j))=(lsI m (shF i j g f)).map V.int:=by
    rw [Ar9 hj]
    show VI m _=VI m _
    refine D9 fun c hc=>?_
    unfold shF Lat.put2
    by_cases z1:c=j
    . subst z1
      rw [if_pos rfl,if_neg (by omega),if_pos rfl]
    . rw [if_neg z1]
      by_cases z2:c=i
      . rw [if_pos z2,if_pos z2]
      . rw [if_neg z2,if_neg z2,if_neg z1]
   have x7:=x6.num (ns':=lsI m (shF i j g f))
   rw [←e2] at x7
   exact k2 g a b _ sh x7
abbrev Cq:Stmt:=Dx (top 21) 2
theorem Q0:FnScope ["self","spot","i","at","head","other"] ["self","spot","i"] (Aj Cq):=⟨rfl,rfl,rfl,by decide +kernel,rfl,by decide +kernel,by decide +kernel⟩
theorem Fu:(["self","spot","i","at","head","other"]:List Str).Nodup:=by decide +kernel
theorem Q9 {f:Addr}{fd:FuncData} (F:Fun K "meet" "Stairs.meet" Cq f fd) (T:Txt K mg Ad Ab Ae) (A9:HasM P w K mg base Ab "shrink_row" ["self","i","first"] 4 (D6 K Ad Ab Ae)) (hm_Stairs_turn:HasM P w K mg base Ab "turn" ["self","turn"] 3 (Ge K Ad Ab Ae)) (hm_Stairs_blend:HasM P w K mg base Ab "blend" ["self","i","j","one","other"] 2 (Hf K Ad Ab Ae)):FnOk P w K mg base CX0 5 f fd ["self","spot","i"] (S8 K Ad Ab Ae):=by
 refine F.ok Q0 (fun vs H Q E h=>?_) (fun C5 A outer s H vs Q E hr h=>?_)
 . obtain⟨H0,p,q,M,n,W,t,spot,i,s,Nx,rfl,x,hs,hi,ok,k⟩:=h
   rfl
 . obtain⟨H0,p,q,M,n,W,t,spot,i,s,Nx,rfl,x,hs,hi,ok,k⟩:=h
   refine⟨_,(Af (Av (i:=3) Fu (by rfl) (by first | exact Or.inl rfl | exact Or.inr rfl) (A2 (As (K:=K)) (Ao (K:=K) (pv 0)) (pv 1) (fun _ _=>rfl)))
    (Af (Av (i:=4) Fu (by rfl) (by first | exact Or.inl rfl | exact Or.inr rfl) (A2 (As (K:=K)) (A2 (As (K:=K)) (Ao (K:=K) (pv 0)) (pv 1) (fun _ _=>rfl)) (pv 3) (fun _ _=>rfl)))
    (Af (Av (i:=5) Fu (by rfl) (by first | exact Or.inl rfl | exact Or.inr rfl) (A2 (As (K:=K)) (A2 (As (K:=K)) (Ao (K:=K) (pv 0)) (pv 2) (fun _ _=>rfl)) (pv 3) (fun _ _=>rfl)))
    (Af (Dt (A7 Ha (Bb Ed (pv 5) (pv 4)) Am (Bg _)) (Al (Bn (Ck (pv 0) T.cl_Stairs hm_Stairs_turn hr (Aa (F5 (Aa Fk (Aa (pv 2) (Aa (pv 1) (Aa (Nk Gw (Bb Gh (pv 5) (pv 4))) Ai))))) Ai)))) (Af (Bn (Ck (pv 0) T.cl_Stairs hm_Stairs_blend hr (Aa (pv 1) (Aa (pv 2) (Aa (pv 4) (Aa (pv 5) Ai))))))
    (Al (Bn (Ck (pv 0) T.cl_Stairs A9 hr (Aa (pv 1) (Aa (Bb En (pv 1) Am) Ai)))))))
    (Al (Bn (Ck (pv 0) T.cl_Stairs A9 hr (Aa (pv 2) (Aa (Bb En (pv 1) Am) Ai))))))))),?_⟩
   obtain⟨sm1,sm2,sm3⟩:=x.sm
   obtain⟨r,b,lx,f1,f2⟩:=x.ex
   obtain⟨dx,fs,hp,l1,l2,l3,l4,l5⟩:=lx.ob
   obtain⟨as,xa,na⟩:=lx.rw
   obtain⟨h1,h2,h3⟩:=ok.hd spot (Nat.le_refl _) hs
   obtain⟨o1,o2⟩:=ok.oth
   obtain⟨ci,_,eci,_,hci⟩:=xa.row (K:=K) hi
   obtain⟨cs,_,ecs,_,hcs⟩:=xa.row (K:=K) (show spot<n by omega)
   refine⟨_,rfl,p,Ab,dx,fs,_,rfl,hp,T.cl_Stairs,T.na_Stairs_starts,l3,_,rfl,q,_,_,_,rfl,rfl,.of x.st,Az (Bz hs),?_⟩
   refine⟨_,rfl,p,Ab,dx,fs,_,rfl,hp,T.cl_Stairs,T.na_Stairs_rows,l1,_,rfl,r,_,_,_,rfl,rfl,.of xa.2.1,Az ecs,_,rfl,cs,_,_,_,rfl,rfl,hcs,Az (Bz h1),?_⟩
   refine⟨_,rfl,p,Ab,dx,fs,_,rfl,hp,T.cl_Stairs,T.na_Stairs_rows,l1,_,rfl,r,_,_,_,rfl,rfl,.of xa.2.1,Az eci,_,rfl,ci,_,_,_,rfl,rfl,hci,Az (Bz h1),?_⟩
   refine An (fun σ' H'=>σ'=[some (.ref p),some (.int spot),some (.int i),some (.int ((t spot:Nat):Int)),some (.int (s.1 spot (t spot))),some (.int (s.1 i (t spot)))]/\H=H') ?_ fun key=>key _ _ ⟨rfl,rfl⟩
   rintro _ _ ⟨rfl,rfl⟩
   refine An (t:=tIfS _ _ _) (fun σ' H'=>σ'=[some (.ref p),some (.int spot),some (.int i),some (.int ((t spot:Nat):Int)),some (.int (s.1 spot (t spot))),some (.int (s.1 i (t spot)))]/\∃ s1,SX Ab H0 H' p q M n W t i s1/\u8 n W t i (spot+1) i s1/\Hds W t (spot+1) i s1.1/\Nx (Lat.shrS t i (spot+1) s1 (i-(spot+1)))) ?_ fun key=>?_
   rotate_left
   . refine⟨_,rfl,_,rfl,_,_,rfl,rfl,h2,rfl,_,rfl,?_⟩
     refine ite2 (fun h4=>?_) (fun h4=>?_)
     . have h5:s.1 i (t spot)%s.1 spot (t spot)=0:=by simpa using h4
       have h6:s.1 i (t spot)=s.1 i (t spot) / s.1 spot (t spot)*s.1 spot (t spot):=(Int.ediv_mul_cancel (Int.dvd_of_emod_eq_zero h5)).symm
       obtain⟨ok1,ok2⟩:=ok.add _ h6
       refine⟨_,rfl,p,dx,fs,rfl,hp,l4 _ (by decide +kernel),_,rfl,_,rfl,_,rfl,_,rfl,_,_,rfl,rfl,CBig.of9 (by omega) h3,_,rfl,Ec (by simp),?_⟩
       rw [Int.fdiv_eq_ediv_of_nonneg _ (Int.le_of_lt h2)]
       have hk:(s.1 i (t spot) / s.1 spot (t spot)).natAbs<L9:=Nat.lt_of_le_of_lt (Int.natAbs_ediv_le_natAbs _ _) o2
       generalize s.1 i (t spot) / s.1 spot (t spot)=kk at h6 ok1 ok2 hk
       intro T1 hT1
       have s1:Same H (upd H T1 (.tup [.str "add",.int i,.int spot,.int (-kk)])):=Same.new hT1
       have hT:Rep K (upd H T1 (.tup [.str "add",.int i,.int spot,.int (-kk)])) (.ref T1) (dTn (.ad i spot (-kk))):=⟨T1,_,rfl,.of Ag,⟨_,_,rfl,rfl,_,_,rfl,rfl,_,_,rfl,rfl,_,_,rfl,rfl,rfl⟩⟩
       generalize upd H T1 (.tup [.str "add",.int i,.int spot,.int (-kk)])=G1 at s1 hT
       refine⟨p,.ref T1,Ab,r,b,_,n,W,_,_,.ad i spot (-kk),rfl,.inr rfl,lx.keep s1,hT,⟨hi,by omega,by omega,fun c hc=>Ae4 (by rw [Int.natAbs_neg];exact hk) (ok.bo.1 _ _ (by omega) hc)⟩,⟨by omega,hi,by omega,fun c hc=>Ae4 (by rw [Int.natAbs_neg,Int.natAbs_neg];exact hk) (ok.bo.2 _ _ hi hc)⟩,by omega,by omega,fun r' b' G2 sx n1 n2 z=>?_⟩
       refine key _ _ ⟨rfl,_,x.redo s1 sx n1 n2 z,ok1,fun j hj1 hj2=>?_,ok2⟩
       have e:(tnS (.ad i spot (-kk)) s).1 j=s.1 j:=Lat.addR_row_ne (show j≠i by omega)
       rw [e]
       exact ok.hd j (by omega) hj2
     . refine An (fun σ' H'=>σ'=[some (.ref p),some (.int spot),some (.int i),some (.int ((t spot:Nat):Int)),some (.int (s.1 spot (t spot))),some (.int (s.1 i (t spot)))]/\∃ g a c,Lat.Shares (s.1 spot (t spot)) (s.1 i (t spot)) g a c/\SX Ab H0 H' p q M n W t i (Vx spot i (s.1 spot (t spot)) (s.1 i (t spot)) g a c s)) ?_ fun key2=>?_
       rotate_left
       . refine⟨_,rfl,p,dx,fs,rfl,hp,l4 _ (by decide +kernel),_,rfl,_,rfl,_,rfl,_,rfl,?_⟩
         refine⟨p,Ab,r,b,_,n,W,spot,i,_,_,s,_,rfl,.inr rfl,lx,by omega,hi,by omega,by omega,by omega,h2,o1,h3,o2,ok.bo,fun L g a c G fr kp _ sh z=>?_⟩
         exact key2 _ _ ⟨rfl,g,a,c,sh,x.redo2 lx f1 f2 fr kp z⟩
       rintro _ G ⟨rfl,g,a,c,sh,y⟩
       obtain⟨ok1,ok2,ok3⟩:=ok.ble g a c sh
       have hd1:Hds W t (spot+1) i (Vx spot i (s.1 spot (t spot)) (s.1 i (t spot)) g a c s).1:=fun j hj1 hj2=>by
        have e:(Vx spot i (s.1 spot (t spot)) (s.1 i (t spot)) g a c s).1 j=s.1 j:=Lat.blend_row_ne (show j≠spot by omega) (show j≠i by omega) _ _ _ _
        rw [e]
        exact ok.hd j (by omega) hj2
       obtain⟨r',b',ly,_⟩:=y.ex
       obtain⟨dx',fs',hp',_,_,_,l4',_⟩:=ly.ob
       refine⟨_,rfl,p,dx',fs',rfl,hp',l4' _ (by decide +kernel),_,rfl,_,rfl,_,_,rfl,rfl,?_⟩
       refine⟨H0,p,q,M,n,W,t,i,_,spot,spot+1,rfl,y,by omega,by omega,.inl (by omega),hd1,ok1,fun G' z=>?_⟩
       refine key _ _ ⟨rfl,_,z,ok2,fun j hj1 hj2=>?_,ok3⟩
       rw [Th _ _ _ _ _ _ (show j≠spot by omega)]
       exact hd1 j hj1 hj2
   rintro _ G ⟨rfl,s1,y,ok1,hd1,ok2⟩
   obtain⟨r',b',ly,_⟩:=y.ex
   obtain⟨dx',fs',hp',_,_,_,l4',_⟩:=ly.ob
   refine⟨_,rfl,p,dx',fs',rfl,hp',l4' _ (by decide +kernel),_,rfl,_,rfl,_,_,rfl,rfl,?_⟩
   exact ⟨H0,p,q,M,n,W,t,i,s1,i,spot+1,rfl,y,hi,by omega,.inr (Nat.le_refl _),hd1,ok1,fun G' z=>k _ _ z ok2⟩
abbrev B5:Stmt:=Dx (top 21) 3
theorem Nb:FnScope ["self","i"] ["self"] (Aj B5):=⟨rfl,rfl,rfl,by decide +kernel,rfl,by decide +kernel,by decide +kernel⟩
theorem Nz:(["self","i"]:List Str).Nodup:=by decide +kernel
theorem Nl {f:Addr}{fd:FuncData} (F:Fun K "shrink" "Stairs.shrink" B5 f fd) (T:Txt K mg Ad Ab Ae) (A9:HasM P w K mg base Ab "shrink_row" ["self","i","first"] 4 (D6 K Ad Ab Ae)):FnOk P w K mg base CX0 5 f fd ["self"] (Lw K Ad Ab Ae):=by
 refine F.ok Nb (fun vs H Q E h=>?_) (fun C5 A outer s H vs Q E hr h=>?_)
 . obtain⟨H0,p,q,M,n,W,t,i,s,rfl,x,ok,k⟩:=h
   rfl
 . obtain⟨H0,p,q,M,n,W,t,i,s,rfl,x,ok,k⟩:=h
   refine⟨_,(Al (Fj PassesOwn.never rfl (Av9 (by rfl) T.n_range (Aa (Bb Pd (A6 (A0 (K:=K)) (by rfl) T.n_len PySem.boot_len (Aa (Ao (K:=K) (pv 0)) Ai)) Am) (Aa (Nk Gw Am) (Aa (Nk Gw Am) Ai)))) (A3 (i:=1) Nz (by rfl) (by first | exact Or.inl rfl | exact Or.inr rfl)) (Al (Bn (Ck (pv 0) T.cl_Stairs A9 hr (Aa (pv 1) (Aa (Bb En (pv 1) Am) Ai))))))),?_⟩
   obtain⟨sm1,sm2,sm3⟩:=x.sm
   obtain⟨r,b,lx,_⟩:=x.ex
   obtain⟨dx,fs,hp,l1,l2,l3,l4,l5⟩:=lx.ob
   refine⟨_,rfl,p,Ab,dx,fs,_,rfl,hp,T.cl_Stairs,T.na_Stairs_starts,l3,q,_,rfl,.inl (.of x.st),_,_,rfl,rfl,_,rfl,_,rfl,i+1,by rw [A5],by omega,?_⟩
   clear lx hp l1 l2 l3 l4 l5
   refine Aq2 (hi:=((i+1:Nat):Int)-1) (n:=i+1) (fun d σ G=>∃ o1,σ=[some (.ref p),o1]/\SX Ab H0 G p q M n W t (i+1) (Lat.downS t i s d)) ⟨none,rfl,x⟩ ?_ ?_
   . rintro d σ G hd ⟨o1,rfl,y⟩
     obtain⟨r,b,lx,_⟩:=y.ex
     obtain⟨dx,fs,hp,l1,l2,l3,l4,l5⟩:=lx.ob
     rw [show ((i+1:Nat):Int)-1-((d:Nat):Int)=((i-d:Nat):Int) by omega]
     obtain⟨ok1,ok2⟩:=ok d (by omega)
     refine⟨_,rfl,p,dx,fs,rfl,hp,l4 _ (by decide +kernel),_,rfl,_,rfl,_,_,rfl,rfl,?_⟩
     refine⟨H0,p,q,M,n,W,t,i+1,Lat.downS t i s d,i-d,i-d+1,rfl,y,by omega,by omega,.inl (by omega),ok1,ok2,fun G' z=>?_⟩
     rw [show i+1-(i-d+1)=d by omega] at z
     exact ⟨_,rfl,z⟩
   . rintro σ G ⟨o1,rfl,y⟩
     exact k _ y
abbrev Bl:Stmt:=Dx (top 27) 3
theorem Iq:FnScope ["self","many","gap","i","j"] ["self"] (Aj Bl):=⟨rfl,rfl,rfl,by decide +kernel,rfl,by decide +kernel,by decide +kernel⟩
theorem Bq:(["self","many","gap","i","j"]:List Str).Nodup:=by decide +kernel
theorem Iy {f:Addr}{fd:FuncData} (F:Fun K "put_in_order" "Work.put_in_order" Bl f fd) (T:Txt K mg Ad Ab Ae) (Et:HasM P w K mg base Ae "share" ["self","i","j"] 4 (Ow K Ad Ab Ae)):FnOk P w K mg base CX0 5 f fd ["self"] (Ox K Ad Ab Ae):=by
 refine F.ok Iq (fun vs H Q E h=>?_) (fun C5 A outer s H vs Q E hr h=>?_)
 . obtain⟨H0,p,L,R,nm,n,w,m,l,r,f,Sv,rfl,x,mn,mw,v0,vs,k⟩:=h
   rfl
 . obtain⟨H0,p,L,R,nm,n,w,m,l,r,f,Sv,rfl,x,mn,mw,v0,vs,k⟩:=h
   obtain⟨a_GAPS,c_GAPS,q_GAPS⟩:=T.x_GAPS
   refine⟨_,(Af (Av (i:=1) Bq (by rfl) (by first | exact Or.inl rfl | exact Or.inr rfl) (A6 (A0 (K:=K)) (by rfl) T.n_len PySem.boot_len (Aa (Ao (K:=K) (pv 0)) Ai)))
    (Af (Fj PassesOwn.never rfl (Af2 (K:=K) (Ac0 (v:=.ref a_GAPS) (by rfl) c_GAPS rfl)) (A3 (i:=2) Bq (by rfl) (by first | exact Or.inl rfl | exact Or.inr rfl)) (Al (Fj PassesOwn.never rfl (C0 (by rfl) T.n_range (Aa (Bb Pd (pv 1) (pv 2)) Ai)) (A3 (i:=3) Bq (by rfl) (by first | exact Or.inl rfl | exact Or.inr rfl)) (Al (Bn (Ck (pv 0) T.cl_Work Et hr (Aa (pv 3) (Aa (Bb En (pv 3) (pv 2)) Ai))))))))
    (Al (Fj PassesOwn.never rfl (C0 (by rfl) T.n_range (Aa (pv 1) Ai)) (A3 (i:=3) Bq (by rfl) (by first | exact Or.inl rfl | exact Or.inr rfl)) (Al (Fj PassesOwn.never rfl (Ve (by rfl) T.n_range (Aa (Bb En (pv 3) Am) (Aa (pv 1) Ai))) (A3 (i:=4) Bq (by rfl) (by first | exact Or.inl rfl | exact Or.inr rfl)) (Al (Bn (Ck (pv 0) T.cl_Work Et hr (Aa (pv 3) (Aa (pv 4) Ai))))))))))),?_⟩
   obtain⟨sm1,sm2⟩:=x.sm
   obtain⟨tva,dxa,fsa,hpa,l1a,l2a,l3a,l4a,l5a,l6a,l7a,_⟩:=x.ob
   refine An (fun σ' H'=>σ'=[some (.ref p),some (.int (m:Int)),none,none,none]/\H=H') ?_ fun key=>?_
   rotate_left
   . exact ⟨_,rfl,p,Ae,dxa,fsa,_,rfl,hpa,T.cl_Work,T.na_Work_numbers,l5a,nm,_,rfl,.inl (.of x.nu),key _ _ ⟨by rw [List.length_map,Pn];rfl,rfl⟩⟩
   rintro _ _ ⟨rfl,rfl⟩
   refine An (fun σ' H'=>∃ (o2 o3:Option L2.V),σ'=[some (.ref p),some (.int (m:Int)),o2,o3,none]/\∃ (d:Nat) (f:Nat->Int) (l r:Lat.Mat × Lat.Mat),d<=5*m/\Sv d f l r/\WX K Ad Ae H0 H' p L R nm n w none l r (lsI m f)) ?_ fun key=>?_
   rotate_left
   . refine⟨a_GAPS,rfl,⟨_,q_GAPS H⟩,?_⟩
     refine Ay9 (K:=K) (a:=a_GAPS) (xs:=(([32,16,8,4,2]:List Int).map V.int)) (fun g σ' G=>∃ (o2 o3:Option L2.V),σ'=[some (.ref p),some (.int (m:Int)),o2,o3,none]/\∃ (d:Nat) (f:Nat->Int) (l r:Lat.Mat × Lat.Mat),d<=g*m/\Sv d f l r/\WX K Ad Ae H0 G p L R nm n w none l r (lsI m f)) ⟨none,none,rfl,0,f,l,r,by omega,v0,x⟩ (fun g σ G _ _=>q_GAPS G) ?_ ?_
     . rintro g y σ G hy ⟨o2,o3,rfl,d,f,l,r,hd,hv,z⟩
       have hg:∃ gp:Nat,y=.int (gp:Int)/\1<=gp/\gp<=32/\g<5:=by
        match g,hy with
        | 0,hy=>cases hy;exact ⟨32,rfl,by decide,by decide,by decide⟩
        | 1,hy=>cases hy;exact ⟨16,rfl,by decide,by decide,by decide⟩
        | 2,hy=>cases hy;exact ⟨8,rfl,by decide,by decide,by decide⟩
        | 3,hy=>cases hy;exact ⟨4,rfl,by decide,by decide,by decide⟩
        | 4,hy=>cases hy;exact ⟨2,rfl,by decide,by decide,by decide⟩
        | g+5,hy=>simp at hy
       obtain⟨gp,rfl,g1,g2,g5⟩:=hg
       refine⟨_,rfl,_,rfl,_,_,rfl,rfl,_,rfl,by omega,by omega,?_⟩
       refine Dj (lo:=0) (n:=((m:Int)-(gp:Int)).toNat) (fun i σ' G=>∃ o3:Option L2.V,σ'=[some (.ref p),some (.int (m:Int)),some (.int (gp:Int)),o3,none]/\∃ (d:Nat) (f:Nat->Int) (l r:Lat.Mat × Lat.Mat),d<=g*m+i/\Sv d f l r/\WX K Ad Ae H0 G p L R nm n w none l r (lsI m f)) ⟨o3,rfl,d,f,l,r,hd,hv,z⟩ ?_ ?_
       . rintro i σ G hi ⟨o3,rfl,d,f,l,r,hd,hv,z⟩
         rw [Int.zero_add]
         obtain⟨tvc,dxc,fsc,hpc,l1c,l2c,l3c,l4c,l5c,l6c,l7c,_⟩:=z.ob
         have hm5:g*m+m<=5*m:=by
          have:=Nat.mul_le_mul_right m (show g+1<=5 from g5)
          rw [Nat.add_mul,Nat.one_mul] at this
          exact this
         refine⟨_,rfl,p,dxc,fsc,rfl,hpc,l6c _ (by decide +kernel),_,rfl,_,rfl,_,rfl,_,_,rfl,rfl,?_⟩
         obtain⟨o1,o2',o3'⟩:=vs d i (i+gp) f l r hv (by omega) (by omega) (by omega)
         refine⟨H0,p,L,R,nm,n,w,m,i,i+gp,l,r,f,rfl,z,by omega,by omega,mn,mw,o1,fun hdv=>?_,fun g' a b G' sh z'=>?_⟩
         . exact ⟨_,rfl,d+1,f,l,r,by omega,o2' hdv,z⟩
         . exact ⟨_,rfl,d+1,_,_,_,by omega,o3' g' a b sh,z'⟩
       . rintro σ G ⟨o3,rfl,d,f,l,r,hd,hv,z⟩
         refine⟨_,_,rfl,d,f,l,r,?_,hv,z⟩
         rw [Nat.add_mul,Nat.one_mul]
         omega
     . rintro σ G ⟨o2,o3,rfl,d,f,l,r,hd,hv,z⟩
       exact key _ _ ⟨o2,o3,rfl,d,f,l,r,hd,hv,z⟩
   rintro _ G ⟨o2,o3,rfl,d,f,l,r,hd,hv,z⟩
   refine⟨_,rfl,_,rfl,by omega,by omega,?_⟩
   refine Dj (lo:=0) (n:=((m:Int)).toNat) (fun i σ' G=>∃ o3 o4:Option L2.V,σ'=[some (.ref p),some (.int (m:Int)),o2,o3,o4]/\∃ (d:Nat) (f:Nat->Int) (l r:Lat.Mat × Lat.Mat),d<=5*m+i*m/\Sv d f l r/\Lat.ChainTo m i f/\WX K Ad Ae H0 G p L R nm n w none l r (lsI m f)) ⟨o3,none,rfl,d,f,l,r,by omega,hv,fun a b ha=>by omega,z⟩ ?_ ?_
   . rintro i σ G hi ⟨o3,o4,rfl,d,f,l,r,hd,hv,hc,z⟩
     rw [Int.toNat_natCast] at hi
     rw [Int.zero_add]
     have him:i*m+m<=m*m:=by
      have:=Nat.mul_le_mul_right m (show i+1<=m from hi)
      rw [Nat.add_mul,Nat.one_mul] at this
      exact this
     refine⟨_,rfl,_,_,rfl,rfl,_,rfl,_,_,rfl,⟨by omega,by omega,by omega,by omega⟩,?_⟩
     refine Dj (lo:=(i:Int)+1) (n:=((m:Int)-((i:Int)+1)).toNat) (fun j σ' G=>∃ o4:Option L2.V,σ'=[some (.ref p),some (.int (m:Int)),o2,some (.int (i:Int)),o4]/\∃ (d:Nat) (f:Nat->Int) (l r:Lat.Mat × Lat.Mat),d<=5*m+i*m+j/\Sv d f l r/\Lat.ChainAt m i (i+1+j) f/\WX K Ad Ae H0 G p L R nm n w none l r (lsI m f)) ⟨o4,rfl,d,f,l,r,by omega,hv,hc.at,z⟩ ?_ ?_
     . rintro j σ G hj ⟨o4,rfl,d,f,l,r,hd,hv,hc,z⟩
       rw [show (i:Int)+1+(j:Int)=((i+1+j:Nat):Int) by omega]
       obtain⟨tvc,dxc,fsc,hpc,l1c,l2c,l3c,l4c,l5c,l6c,l7c,_⟩:=z.ob
       refine⟨_,rfl,p,dxc,fsc,rfl,hpc,l6c _ (by decide +kernel),_,rfl,_,rfl,?_⟩
       obtain⟨o1,o2',o3'⟩:=vs d i (i+1+j) f l r hv (by omega) (by omega) (by omega)
       refine⟨H0,p,L,R,nm,n,w,m,i,i+1+j,l,r,f,rfl,z,by omega,by omega,mn,mw,o1,fun hdv=>?_,fun g' a b G' sh z'=>?_⟩
       . exact ⟨_,rfl,d+1,f,l,r,by omega,o2' hdv,hc.skip hdv,z⟩
       . exact ⟨_,rfl,d+1,_,_,_,by omega,o3' g' a b sh,hc.step (by omega) (by omega) sh.pair,z'⟩
     . rintro σ G ⟨o4,rfl,d,f,l,r,hd,hv,hc,z⟩
       rw [show i+1+((m:Int)-((i:Int)+1)).toNat=m by omega] at hc
       refine⟨_,_,rfl,d,f,l,r,?_,hv,hc.next,z⟩
       rw [Nat.add_mul,Nat.one_mul]
       omega
   . rintro σ G ⟨o3,o4,rfl,d,f,l,r,hd,hv,hc,z⟩
     rw [Int.toNat_natCast] at hc
     exact k d f l r _ hv hc z
abbrev B6:Stmt:=Dx (top 21) 1
theorem Nc:FnScope ["self","i","spot"] ["self","i"] (Aj B6):=⟨rfl,rfl,rfl,by decide +kernel,rfl,by decide +kernel,by decide +kernel⟩
theorem Gx:(["self","i","spot"]:List Str).Nodup:=by decide +kernel
theorem Nm {f:Addr}{fd:FuncData} (F:Fun K "put_in" "Stairs.put_in" B6 f fd) (T:Txt K mg Ad Ab Ae) (F8:Has P w K mg base "start_of" ["row"] 1 (He K)) (hm_Stairs_turn:HasM P w K mg base Ab "turn" ["self","turn"] 3 (Ge K Ad Ab Ae)) (Fv:HasM P w K mg base Ab "meet" ["self","spot","i"] 5 (S8 K Ad Ab Ae)):FnOk P w K mg base CX0 6 f fd ["self","i"] (Lx K Ad Ab Ae):=by
 refine F.ok Nc (fun vs H Q E h=>?_) (fun C5 A outer s H vs Q E hr h=>?_)
 . obtain⟨H0,p,q,M,n,W,t,i,s0,I,rfl,x,hi,P,ht,k⟩:=h
   rfl
 . obtain⟨H0,p,q,M,n,W,t,i,s0,I,rfl,x,hi,P,ht,k⟩:=h
   refine⟨_,(Af (Av (i:=2) Gx (by rfl) (by first | exact Or.inl rfl | exact Or.inr rfl) Am)
    (Af (Oj PassesOwn.never (PW.pt (A20 (A7 g9 (pv 2) (pv 1) (Bg _)) (Av2 (A7 A77 (A2 (As (K:=K)) (Ao (K:=K) (pv 0)) (pv 2) (fun _ _=>rfl)) (Ap F8 hr (by rfl) (Aa (A2 (As (K:=K)) (Ao (K:=K) (pv 0)) (pv 1) (fun _ _=>rfl)) Ai)) (Bg _))))) (Af (Dt (A7 Ha (A2 (As (K:=K)) (Ao (K:=K) (pv 0)) (pv 2) (fun _ _=>rfl)) (Ap F8 hr (by rfl) (Aa (A2 (As (K:=K)) (Ao (K:=K) (pv 0)) (pv 1) (fun _ _=>rfl)) Ai)) (Bg _)) (Al (Bn (Ck (pv 0) T.cl_Stairs Fv hr (Aa (pv 2) (Aa (pv 1) Ai))))) Bu)
    (Al (Av (i:=2) Gx (by rfl) (by first | exact Or.inl rfl | exact Or.inr rfl) (Bb En (pv 2) Am)))))
    (Af (Bn (K9 (K:=K) PySem.F.plainAttrs_list PySem.F.slot_list_insert PySem.F.type_list_insert Pl (Ao (K:=K) (pv 0)) (Aa (pv 2) (Aa (K9 (K:=K) PySem.F.plainAttrs_list PySem.F.slot_list_pop PySem.F.type_list_pop Zq (Ao (K:=K) (pv 0)) (Aa (pv 1) Ai)) Ai))))
    (Af (Bn (K9 (K:=K) PySem.F.plainAttrs_list PySem.F.slot_list_insert PySem.F.type_list_insert Pl (Ao (K:=K) (pv 0)) (Aa (pv 2) (Aa (K9 (K:=K) PySem.F.plainAttrs_list PySem.F.slot_list_pop PySem.F.type_list_pop Zq (Ao (K:=K) (pv 0)) (Aa (pv 1) Ai)) Ai))))
    (Af (Bn (K9 (K:=K) PySem.F.plainAttrs_list PySem.F.slot_list_insert PySem.F.type_list_insert Pl (Ao (K:=K) (pv 0)) (Aa (pv 2) (Aa (Ap F8 hr (by rfl) (Aa (A2 (As (K:=K)) (Ao (K:=K) (pv 0)) (pv 2) (fun _ _=>rfl)) Ai)) Ai))))
    (Al (Dt (A7 g9 (A2 (As (K:=K)) (A2 (As (K:=K)) (Ao (K:=K) (pv 0)) (pv 2) (fun _ _=>rfl)) (A2 (As (K:=K)) (Ao (K:=K) (pv 0)) (pv 2) (fun _ _=>rfl)) (fun _ _=>rfl)) Am (Bg _)) (Al (Bn (Ck (pv 0) T.cl_Stairs hm_Stairs_turn hr (Aa (F5 (Aa Fk (Aa (pv 2) Ai))) Ai)))) Bu))))))),?_⟩
   obtain⟨sm1,sm2,sm3⟩:=x.sm
   refine B4 (fun σ' H'=>σ'=[some (.ref p),some (.int i),some (.int ((0:Nat):Int))]/\H=H') ?_ fun key0=>key0 _ _ ⟨rfl,rfl⟩
   rintro _ _ ⟨rfl,rfl⟩
   refine An (fun σ' H'=>∃ spot st s,σ'=[some (.ref p),some (.int i),some (.int ((spot:Nat):Int))]/\SX Ab H0 H' p q M n W t i s/\I spot s/\spot<=i/\Fs W (s.1 i) st/\(spot<i->st<t spot)) ?_ fun key=>?_
   rotate_left
   . refine⟨fun m σ' G=>∃ spot s,σ'=[some (.ref p),some (.int i),some (.int ((spot:Nat):Int))]/\SX Ab H0 G p q M n W t i s/\I spot s/\spot<=i/\m=i-spot,⟨_,0,s0,rfl,x,P.start,Nat.zero_le _,rfl⟩,?_⟩
     rintro m σ G ⟨spot,s,rfl,y,hI,hs,rfl⟩
     obtain⟨st,hb⟩:=Fs.ex (P.ok spot s hs hI)
     obtain⟨r,b,lx,_⟩:=y.ex
     obtain⟨dx,fs,hp,l1,l2,l3,l4,l5⟩:=lx.ob
     obtain⟨as,xa,na⟩:=lx.rw
     obtain⟨ci,_,eci,_,hci⟩:=xa.row (K:=K) hi
     refine⟨_,rfl,_,rfl,_,_,rfl,rfl,_,rfl,?_⟩
     refine ite2 (fun h1=>?_) (fun h1=>?_)
     . have hlt:spot<i:=by have:((spot:Nat):Int)<(i:Int):=by simpa using h1
                           omega
       refine⟨_,rfl,p,Ab,dx,fs,_,rfl,hp,T.cl_Stairs,T.na_Stairs_starts,l3,_,rfl,q,_,_,_,rfl,rfl,.of y.st,Az (Bz hlt),_,rfl,p,Ab,dx,fs,_,rfl,hp,T.cl_Stairs,T.na_Stairs_rows,l1,_,rfl,r,_,_,_,rfl,rfl,.of xa.2.1,Az eci,ci,W,st,_,rfl,hci,hb,by omega,_,_,rfl,rfl,_,rfl,?_⟩
       refine ite2 (fun h2=>?_) (fun h2=>?_)
       . have hle:t spot<=st:=by have:((t spot:Nat):Int)<=(st:Int):=by simpa using h2
                                 omega
         refine⟨fun σ' G'=>∃ spot' s',σ'=[some (.ref p),some (.int i),some (.int ((spot':Nat):Int))]/\SX Ab H0 G' p q M n W t i s'/\I spot' s'/\spot'=spot+1,?_,?_⟩
         . rintro σ' G' ⟨spot',s',rfl,z1,z2,rfl⟩
           exact ⟨i-(spot+1),by omega,spot+1,s',rfl,z1,z2,hlt,rfl⟩
         refine An (t:=tIfS _ _ _) (fun σ' G'=>σ'=[some (.ref p),some (.int i),some (.int ((spot:Nat):Int))]/\∃ s',SX Ab H0 G' p q M n W t i s'/\I (spot+1) s') ?_ fun key2=>?_
         rotate_left
         . refine⟨_,rfl,p,Ab,dx,fs,_,rfl,hp,T.cl_Stairs,T.na_Stairs_starts,l3,_,rfl,q,_,_,_,rfl,rfl,.of y.st,Az (Bz hlt),_,rfl,p,Ab,dx,fs,_,rfl,hp,T.cl_Stairs,T.na_Stairs_rows,l1,_,rfl,r,_,_,_,rfl,rfl,.of xa.2.1,Az eci,ci,W,st,_,rfl,hci,hb,by omega,rfl,_,rfl,?_⟩
           refine ite2 (fun h3=>?_) (fun h3=>?_)
           . have he:t spot=st:=by
              have:((t spot:Nat):Int)=(st:Int):=by simpa using h3
              omega
             refine⟨_,rfl,p,dx,fs,rfl,hp,l4 _ (by decide +kernel),_,rfl,_,rfl,?_⟩
             refine⟨H0,p,q,M,n,W,t,spot,i,s,I (spot+1),rfl,y,hlt,hi,P.meet spot s hlt hI (fun c hc=>hb.1 c (by omega)) (by rw [he];exact hb.2.1),fun G' s' z1 z2=>?_⟩
             exact key2 _ _ ⟨rfl,s',z1,z2⟩
           . have he:¬t spot=st:=by
              have:¬((t spot:Nat):Int)=(st:Int):=by simpa using h3
              omega
             exact key2 _ _ ⟨rfl,s,y,P.skip spot s hlt hI fun c hc=>hb.1 c (by omega)⟩
         rintro _ G' ⟨rfl,s',z1,z2⟩
         exact ⟨_,rfl,_,_,rfl,rfl,spot+1,s',rfl,z1,z2,rfl⟩
       . have hle:¬t spot<=st:=by have:¬((t spot:Nat):Int)<=(st:Int):=by simpa using h2
                                  omega
         exact key _ _ ⟨spot,st,s,rfl,y,hI,hs,hb,fun _=>by omega⟩
     . have hlt:¬spot<i:=by have:¬((spot:Nat):Int)<(i:Int):=by simpa using h1
                            omega
       exact key _ _ ⟨spot,st,s,rfl,y,hI,hs,hb,fun z=>absurd z hlt⟩
   rintro _ G ⟨spot,st,s,rfl,y,hI,hs,hb,hex⟩
   obtain⟨r,b,lx,f1,f2⟩:=y.ex
   obtain⟨dx,fs,hp,l1,l2,l3,l4,l5⟩:=lx.ob
   obtain⟨as,xa,na⟩:=lx.rw
   obtain⟨bs,xb,nb⟩:=lx.bk
   obtain⟨pr,pb⟩:=lx.refs
   have rb:=lx.ne
   obtain⟨ci,rci,eci,mci,hci⟩:=xa.row (K:=K) hi
   obtain⟨di,rdi,edi,mdi,hdi⟩:=xb.row (K:=K) hi
   have six:∀ l:Nat,i<l->seqIndex? ((i:Nat):Int) l=some i:=fun l hl=>by
    unfold seqIndex?
    simp only [show ¬((i:Nat):Int)<0 by omega,if_false,Int.toNat_natCast]
    first | (rw [if_neg (by omega)]) | (rw [if_pos (by omega)]) | (simp;omega)
   refine An (fun σ' H'=>σ'=[some (.ref p),some (.int i),some (.int ((spot:Nat):Int))]/\(∀ a,a≠r->H' a=G a)/\H' r=some (.lst (insAt spot (.ref ci) ((as.map V.ref).eraseIdx i)))) ?_ fun key=>?_
   rotate_left
   . refine⟨_,rfl,p,Ab,dx,fs,_,rfl,hp,T.cl_Stairs,T.na_Stairs_rows,l1,.inl ⟨rfl,_,.of xa.2.1⟩,_,rfl,_,rfl,p,Ab,dx,fs,_,rfl,hp,T.cl_Stairs,T.na_Stairs_rows,l1,.inl ⟨rfl,_,.of xa.2.1⟩,_,rfl,r,_,_,i,_,rfl,rfl,xa.2.1,by omega,by omega,six _ (by rw [List.length_map,xa.1];exact hi),eci,?_⟩
     refine⟨r,_,spot,_,rfl,rfl,Ag,?_,small (by rw [List.length_eraseIdx_of_lt (by rw [List.length_map,xa.1];exact hi),List.length_map,xa.1];omega),key _ _ ⟨rfl,fun a ha=>by rw [Aq ha,Aq ha],Ag⟩⟩
     rw [List.length_eraseIdx_of_lt (by rw [List.length_map,xa.1];exact hi),List.length_map,xa.1];omega
   rintro _ G1 ⟨rfl,e1,r1⟩
   refine An (fun σ' H'=>σ'=[some (.ref p),some (.int i),some (.int ((spot:Nat):Int))]/\(∀ a,a≠b->H' a=G1 a)/\H' b=some (.lst (insAt spot (.ref di) ((bs.map V.ref).eraseIdx i)))) ?_ fun key=>?_
   rotate_left
   . have hp1:G1 p=_:=(e1 _ pr).trans hp
     have b1:G1 b=_:=(e1 _ rb.symm).trans xb.2.1
     refine⟨_,rfl,p,Ab,dx,fs,_,rfl,hp1,T.cl_Stairs,T.na_Stairs_backs,l2,.inl ⟨rfl,_,.of b1⟩,_,rfl,_,rfl,p,Ab,dx,fs,_,rfl,hp1,T.cl_Stairs,T.na_Stairs_backs,l2,.inl ⟨rfl,_,.of b1⟩,_,rfl,b,_,_,i,_,rfl,rfl,b1,by omega,by omega,six _ (by rw [List.length_map,xb.1];exact hi),edi,?_⟩
     refine⟨b,_,spot,_,rfl,rfl,Ag,?_,small (by rw [List.length_eraseIdx_of_lt (by rw [List.length_map,xb.1];exact hi),List.length_map,xb.1];omega),key _ _ ⟨rfl,fun a ha=>by rw [Aq ha,Aq ha],Ag⟩⟩
     rw [List.length_eraseIdx_of_lt (by rw [List.length_map,xb.1];exact hi),List.length_map,xb.1];omega
   rintro _ G2 ⟨rfl,e2,b2⟩
   have r2:=(e2 _ rb).trans r1
   have e02:∀ a,a≠r->a≠b->G2 a=G a:=fun a h1 h2=>(e2 a h2).trans (e1 a h1)
   have hp2:=(e02 _ pr pb).trans hp
   have qr:q≠r:=fun z=>lx.nr (z▸y.mq)
   have qb:q≠b:=fun z=>lx.nb (z▸y.mq)
   have q2:=(e02 _ qr qb).trans y.st
   obtain⟨ya,ma⟩:=xa.move hi hs rci r2 fun a ha=>e02 a (na a ha).1 (na a ha).2.1
   obtain⟨yb,mb⟩:=xb.move hi hs rdi b2 fun a ha=>e02 a (nb a ha).1 (nb a ha).2.1
   obtain⟨cs,_,ecs,_,hcs⟩:=ya.row (K:=K) (show spot<n by omega)
   have erow:Lat.moveR s.1 i spot spot=s.1 i:=by
    rw [Lat.move_row]
    unfold Lat.mvI
    rw [if_neg (by omega),if_pos rfl]
   rw [erow] at hcs
   refine An (fun σ' H'=>σ'=[some (.ref p),some (.int i),some (.int ((spot:Nat):Int))]/\SX Ab H0 H' p q M n W (Lat.insT t spot st) (i+1) (Lat.moveS i spot s)) ?_ fun key=>?_
   rotate_left
   . refine⟨_,rfl,p,Ab,dx,fs,_,rfl,hp2,T.cl_Stairs,T.na_Stairs_starts,l3,.inl ⟨rfl,_,.of q2⟩,_,rfl,_,rfl,p,Ab,dx,fs,_,rfl,hp2,T.cl_Stairs,T.na_Stairs_rows,l1,_,rfl,r,_,_,_,rfl,rfl,.of r2,Az (by rw [V3,Pm] at ecs;exact ecs),cs,W,st,_,rfl,hcs,hb,by omega,?_⟩
     refine⟨q,_,spot,_,rfl,rfl,q2,by rw [A5];exact hs,small (by rw [A5];omega),key _ _ ⟨rfl,?_⟩⟩
     rw [a9 hs]
     have qp:p≠q:=F6 hp y.st (by intro z;cases z)
     refine⟨⟨r,b,⟨⟨dx,fs,by rw [Aq qp];exact hp2,l1,l2,l3,l4,l5⟩,⟨_,ya.put qr.symm fun a ha z=>(na a (ma a ha)).2.2 (z.symm▸y.mq),fun a ha=>na a (ma a ha)⟩,⟨_,yb.put qb.symm fun a ha z=>(nb a (mb a ha)).2.2 (z.symm▸y.mq),fun a ha=>nb a (mb a ha)⟩,rb,lx.nr,lx.nb,fun a ha z=>?_⟩,f1,f2⟩,Ag,fun a o e=>?_,y.fp,y.fq,y.mq,⟨sm1,sm2,by omega⟩⟩
     . by_cases haq:a=q
       . rw [haq,Ag] at z;cases z
       . rw [Aq haq,e02 a (fun e=>lx.nr (e▸ha)) (fun e=>lx.nb (e▸ha))] at z
         exact lx.nn a ha z
     . rw [Aq (Ar e y.fq),e02 a (Ar e f1) (Ar e f2)]
       exact y.same _ _ e
   rintro _ G3 ⟨rfl,z⟩
   obtain⟨r3,b3,l3x,_⟩:=z.ex
   obtain⟨dx3,fs3,hp3,l1,l2,l3,l4,l5⟩:=l3x.ob
   obtain⟨as3,xa3,na3⟩:=l3x.rw
   obtain⟨c3,_,ec3,_,hc3⟩:=xa3.row (K:=K) (show spot<n by omega)
   have erow3:(Lat.moveS i spot s).1 spot=s.1 i:=erow
   rw [erow3] at hc3
   have est:Lat.insT t spot st spot=st:=by
    unfold Lat.insT
    rw [if_neg (by omega),if_pos rfl]
   refine⟨_,rfl,p,Ab,dx3,fs3,_,rfl,hp3,T.cl_Stairs,T.na_Stairs_rows,l1,_,rfl,r3,_,_,_,rfl,rfl,.of xa3.2.1,Az ec3,_,rfl,p,Ab,dx3,fs3,_,rfl,hp3,T.cl_Stairs,T.na_Stairs_starts,l3,_,rfl,q,_,_,_,rfl,rfl,.of z.st,Az (Bz (by omega)),c3,_,_,_,rfl,rfl,hc3,Az (by rw [est];exact Bz hb.2.2),_,_,rfl,rfl,_,rfl,?_⟩
   refine ite2 (fun h4=>?_) (fun h4=>?_)
   . have h5:s.1 i st<0:=by simpa using h4
     refine⟨_,rfl,p,dx3,fs3,rfl,hp3,l4 _ (by decide +kernel),_,rfl,Ec (by simp),fun T1 hT1=>?_⟩
     have s1:Same G3 (upd G3 T1 (.tup [.str "minus",.int ((spot:Nat):Int)])):=Same.new hT1
     have hT:Rep K (upd G3 T1 (.tup [.str "minus",.int ((spot:Nat):Int)])) (.ref T1) (dTn (.mi spot)):=⟨T1,_,rfl,.of Ag,⟨_,_,rfl,rfl,_,_,rfl,rfl,rfl⟩⟩
     generalize upd G3 T1 (.tup [.str "minus",.int ((spot:Nat):Int)])=G4 at s1 hT
     refine⟨p,.ref T1,Ab,r3,b3,_,n,W,_,_,.mi spot,rfl,.inr rfl,l3x.keep s1,hT,(show spot<n by omega),(show spot<n by omega),by omega,by omega,fun r' b' G5 sx n1 n2 w=>?_⟩
     refine k _ spot st s hs hI hb hex ((z.redo s1 sx n1 n2 w).re ?_)
     rw [Lat.insS,if_pos (by rw [erow3];exact h5)]
     rfl
   . have h5:¬s.1 i st<0:=by simpa using h4
     refine k _ spot st s hs hI hb hex (z.re ?_)
     rw [Lat.insS,if_neg (by rw [erow3];exact h5)]
abbrev F1:Stmt:=top 20
theorem d8:FnScope ["table","width","lines","stairs","i","papers"] ["table","width","lines"] (Aj F1):=⟨rfl,rfl,rfl,by decide +kernel,rfl,by decide +kernel,by decide +kernel⟩
theorem Md:(["table","width","lines","stairs","i","papers"]:List Str).Nodup:=by decide +kernel
theorem i0 {f:Addr}{fd:FuncData} (F:Fun K "stepped" "stepped" F1 f fd) (T:Txt K mg Ad Ab Ae) (hc_Stairs:HasC P w K mg base Ab ["self","rows","backs"] 2 (S9 K Ad Ab Ae)) (hc_Lines:HasC P w K mg base Ad ["self","rows","backs"] 1 (Hw K Ad Ab Ae)) (Ej:HasM P w K mg base Ab "put_in" ["self","i"] 6 (Lx K Ad Ab Ae)) (Ei:HasM P w K mg base Ab "shrink" ["self"] 5 (Lw K Ad Ab Ae)):FnOk P w K mg base CX0 7 f fd ["table","width","lines"] (J9 K Ad Ab Ae):=by
 refine F.ok d8 (fun vs H Q E h=>?_) (fun C5 A outer s H vs Q E hr h=>?_)
 . obtain⟨v,L,r,b,sv,N,n,w,M,P,PB,J,rfl,hv,lx,hn,hw,TJ,j0,jt,k⟩:=h
   rfl
 . obtain⟨v,L,r,b,sv,N,n,w,M,P,PB,J,rfl,hv,lx,hn,hw,TJ,j0,jt,k⟩:=h
   refine⟨_,(Af (Av (i:=3) Md (by rfl) (by first | exact Or.inl rfl | exact Or.inr rfl) (Ky hc_Stairs hr (by rfl) T.m_Stairs (Aa (Cj (N':=["row","paper"]) (cap:=[none,none]) (by rfl) (by kernel_rfl) (Ab8 (K:=K) (by rfl) T.n_zip (Aa (pv 0) (Aa (Ao (K:=K) (pv 2)) Ai))) (fun _ _ _ _=>(Mf (K:=K) (n:=2) (by rfl) (C7 (A3 (i:=0) A34 (by rfl) (by first | exact Or.inl rfl | exact Or.inr rfl)) (C7 (A3 (i:=1) A34 (by rfl) (by first | exact Or.inl rfl | exact Or.inr rfl)) L8)))) (fun _ _ _ _=>Cl) (fun _ _ _ _=>(Bb (Af4 (K:=K)) (pv 0) (pv 1)))) (Aa (Fb (Dg (K:=K)) (by rfl) T.n_list De (Aa (Ao (K:=K) (pv 2)) Ai)) Ai))))
    (Af (Fj PassesOwn.never rfl (C0 (by rfl) T.n_range (Aa (A6 (A0 (K:=K)) (by rfl) T.n_len PySem.boot_len (Aa (pv 0) Ai)) Ai)) (A3 (i:=4) Md (by rfl) (by first | exact Or.inl rfl | exact Or.inr rfl)) (Af (Bn (Ck (pv 3) T.cl_Stairs Ej hr (Aa (pv 4) Ai)))
    (Al (Bn (Hg (pv 3) T.cl_Stairs Ei hr)))))
    (Af (Av (i:=5) Md (by rfl) (by first | exact Or.inl rfl | exact Or.inr rfl) (Ky hc_Lines hr (by rfl) T.m_Lines (Aa (Cj (N':=["row","width"]) (cap:=[none,some 1]) (by rfl) (by kernel_rfl) (Df (K:=K) (Ao (K:=K) (pv 3))) (fun _ _ _ _=>(A3 (i:=0) Ax7 (by rfl) (by first | exact Or.inl rfl | exact Or.inr rfl))) (fun _ _ _ _=>Cl) (fun _ _ _ _=>(Ts (T4 (K:=K)) (pv 0) (Tp (pv 1)) Ab1))) (Aa (Ao (K:=K) (pv 3)) Ai))))
    (Al (Bd (F5 (Aa (Cj (N':=["row","width"]) (cap:=[none,some 1]) (by rfl) (by kernel_rfl) (Df (K:=K) (Ao (K:=K) (pv 3))) (fun _ _ _ _=>(A3 (i:=0) Ax7 (by rfl) (by first | exact Or.inl rfl | exact Or.inr rfl))) (fun _ _ _ _=>Cl) (fun _ _ _ _=>(Ts (T4 (K:=K)) (pv 0) Ab1 (Tp (pv 1))))) (Aa (pv 5) Ai)))))))),?_⟩
   obtain⟨ta,us,rfl,hqa,hul,hrow⟩:=Li hv
   obtain⟨dx,fs,hp,l1,l2,l3,l4,l5⟩:=lx.ob
   obtain⟨ps,xp,np⟩:=lx.rw
   obtain⟨bs,xb,nb⟩:=lx.bk
   have nN:∀ a,H a=none->¬N a:=fun a e z=>lx.nn a z e
   refine An (fun σ' H'=>∃ p q,σ'=[some (.ref ta),some (.int (w:Int)),some (.ref L),some (.ref p),none,none]/\SX Ab H H' p q (fun a=>a=q\/N a) n (w+n) (fun _=>0) 0 (Lat.beside w M P,PB)) ?_ fun key=>?_
   rotate_left
   . refine⟨_,rfl,_,rfl,L,Ad,dx,fs,_,rfl,hp,T.cl_Lines,T.na_Lines_rows,l1,ta,r,rfl,⟨_,hqa⟩,⟨_,.of xp.2.1⟩,fun D hD=>?_⟩
     refine Qa (K:=K) (a:=ta) (b:=r) (xs:=us) (ys:=ps.map V.ref) (n:=n) (by rw [hul,List.length_map,xp.1,Nat.min_self]) (fun i zs τ H1=>∃ cs,zs=cs.map V.ref/\cs.length=i/\Rows H H1 D cs (w+n) (Lat.beside w M P)/\∃ o1 o2,τ=[o1,o2])
      ⟨[],rfl,rfl,Rows.nil hD,none,none,rfl⟩ (fun i zs τ H1 _ ⟨cs,_,_,R,_⟩=>⟨R.same.seq hqa,R.same.seq (.of xp.2.1)⟩) ?_ ?_
     . rintro i x y zs τ H1 pr hx hy ⟨cs,rfl,hcl,R,o1,o2,rfl⟩ hpr
       obtain⟨hi,bx,rfl,hbx⟩:=hrow i x hx
       obtain⟨cy,_,ey,_,hcy⟩:=xp.row (K:=K) hi
       rw [ey] at hy
       cases hy
       have sp:Same H1 (upd H1 pr (.tup [.ref bx,.ref cy])):=Same.new hpr
       refine⟨pr,_,rfl,.of Ag,rfl,_,_,rfl,_,_,rfl,rfl,?_⟩
       refine⟨_,rfl,_,rfl,bx,cy,_,_,rfl,rfl,sp.seq (R.same.seq hbx),sp.seq (R.same.seq hcy),Ec (by rw [A5,A5];omega),fun E hE=>?_⟩
       have sE:Same (upd H1 pr (.tup [.ref bx,.ref cy])) (upd (upd H1 pr (.tup [.ref bx,.ref cy])) E (.lst (VI w (M i)++VI n (P i)))):=Same.new hE
       refine⟨sE _ _ (sp _ _ R.at),small (by rw [List.length_map];omega),cs++[E],by rw [List.map_append];rfl,by rw [List.length_append,hcl];rfl,?_,_,_,rfl⟩
       refine R.push (sp.free hE) (sp.trans sE) ?_
       rw [hcl,Ag,Am0 (h:=Lat.beside w M P i) (fun c hc=>Lat.beside_lo hc) (fun a _=>Lat.beside_hi w M P i a)]
     rintro zs τ H1 ⟨cs,rfl,hcl,R,_⟩
     have hp1:=R.same _ _ hp
     refine⟨_,rfl,L,Ad,dx,fs,_,rfl,hp1,T.cl_Lines,T.na_Lines_backs,l2,b,_,rfl,.inl (.of (R.same _ _ xb.2.1)),fun B hB=>?_⟩
     intro p dx' np' ndx nedx
     have s2:Same H1 (upd H1 B (.lst (bs.map V.ref))):=Same.new hB
     have hB2:upd H1 B (.lst (bs.map V.ref)) B=some (.lst (bs.map V.ref)):=Ag
     generalize upd H1 B (.lst (bs.map V.ref))=H2 at s2 hB2 np' ndx
     have s3:Same H2 (upd (upd H2 dx' (.own p)) p (.ins Ab dx' [])):=(Same.new ndx).turn np'
     have s03:=(R.same.trans s2).trans s3
     have f2:∀ a,H2 a=none->H a=none:=fun a e=>(R.same.trans s2).free e
     refine⟨p,dx',_,_,rfl,Ag,fun q H4 fs' hq hfs sx hq4 hp4=>⟨rfl,?_⟩⟩
     generalize upd (upd H2 dx' (.own p)) p (.ins Ab dx' [])=H3 at s3 s03 hq sx
     have f3:∀ a,H3 a=none->H a=none:=fun a e=>s03.free e
     have st:∀ a o,H2 a=some o->H4 a=some o:=fun a o e=>sx _ _ (Ar e np') (s3 _ _ e)
     have xc:=((TA.of R hcl).same s2)
     have xb2:TA H2 B bs n n PB:=⟨xb.1,hB2,fun i c e=>s2 _ _ (R.same _ _ (xb.2.2 i c e))⟩
     have hHB:H B=none:=R.same.free hB
     have hH2D:=s2 _ _ R.at
     have q2:H2 q=none:=s3.free hq
     have nM:∀ a,H2 a≠none->¬N a->¬(a=q\/N a):=fun a h1 h2 h3=>h3.elim (fun z=>h1 (z▸q2)) h2
     refine key _ _ ⟨p,q,rfl,⟨⟨D,B,⟨⟨dx',fs',hp4,?_,?_,?_,fun m hm=>?_,?_⟩,⟨cs,xc.same st,fun a ha=>?_⟩,⟨bs,xb2.same st,fun a ha=>?_⟩,?_,?_,?_,fun a ha z=>?_⟩,R.free,hHB⟩,hq4,fun a o e=>st _ _ (s2 _ _ (R.same _ _ e)),f2 _ np',f3 _ hq,.inl rfl,⟨by omega,by omega,Nat.zero_le _⟩⟩⟩
     . rw [hfs];((repeat (first | rw [Ah,if_pos rfl] | rw [Ah,if_neg (by decide +kernel)]))<;>first | rfl | assumption)
     . rw [hfs];((repeat (first | rw [Ah,if_pos rfl] | rw [Ah,if_neg (by decide +kernel)]))<;>first | rfl | assumption)
     . rw [hfs];((repeat (first | rw [Ah,if_pos rfl] | rw [Ah,if_neg (by decide +kernel)]))<;>first | rfl | assumption)
     . rw [hfs,Ah,if_neg (fun z=>absurd (z▸hm) (by decide +kernel)),Ah,if_neg (fun z=>absurd (z▸hm) (by decide +kernel)),Ah,if_neg (fun z=>absurd (z▸hm) (by decide +kernel))];rfl
     . rw [hfs];exact Nat.le_trans (A8 _ _ _) (Nat.le_trans (Nat.succ_le_succ (A8 _ _ _)) (Nat.le_trans (Nat.succ_le_succ (Nat.succ_le_succ (A8 _ _ _))) (by decide)))
     . obtain⟨i,hi,rfl⟩:=List.getElem_of_mem ha
       obtain⟨z1,z2,z3⟩:=R.row i _ (List.getElem?_eq_getElem hi)
       exact ⟨z2,Ar z3 hB,nM _ (by rw [s2 _ _ z3];exact fun z=>nomatch z) (nN _ z1)⟩
     . have:=xb.there.2 a ha
       refine⟨fun z=>this (z▸R.free),fun z=>this (z▸hHB),nM a (xb2.there.2 a ha) (nb a ha).2.2⟩
     . exact Ar R.at hB
     . exact nM D (by rw [hH2D];exact fun z=>nomatch z) (nN _ R.free)
     . exact nM B (by rw [hB2];exact fun z=>nomatch z) (nN _ hHB)
     . rcases ha with rfl | ha
       . rw [hq4] at z;cases z
       . cases e:H a with
         | none=>exact lx.nn a ha e
         | some o=>rw [st _ _ (s2 _ _ (R.same _ _ e))] at z;cases z
   rintro _ H1 ⟨p,q,rfl,x0⟩
   refine An (fun σ' H'=>∃ (o4:Option V) (t:Nat->Nat) (s:Lat.Mat × Lat.Mat),σ'=[some (.ref ta),some (.int (w:Int)),some (.ref L),some (.ref p),o4,none]/\SX Ab H H' p q (fun a=>a=q\/N a) n (w+n) t n s/\J n t s) ?_ fun key=>?_
   rotate_left
   . refine⟨_,rfl,ta,us,rfl,.inl (x0.same.seq hqa),_,rfl,by omega,by omega,?_⟩
     refine Dj (lo:=0) (n:=((us.length:Nat):Int).toNat) (fun i σ' G=>∃ (o4:Option V) (t:Nat->Nat) (s:Lat.Mat × Lat.Mat),σ'=[some (.ref ta),some (.int (w:Int)),some (.ref L),some (.ref p),o4,none]/\SX Ab H G p q (fun a=>a=q\/N a) n (w+n) t i s/\J i t s) ⟨none,_,_,rfl,x0,j0 _⟩ ?_ ?_
     . rintro i σ G hi ⟨o4,t,s,rfl,y,hJ⟩
       rw [Int.toNat_natCast,hul] at hi
       rw [Int.zero_add]
       obtain⟨I,hP,hD⟩:=TJ.step i t s hi hJ
       obtain⟨r3,b3,ly,_⟩:=y.ex
       obtain⟨dx3,fs3,hp3,_,_,_,m4,_⟩:=ly.ob
       refine⟨_,rfl,p,dx3,fs3,rfl,hp3,m4 _ (by decide +kernel),_,rfl,H,p,q,_,n,w+n,t,i,s,I,rfl,y,hi,hP,jt i t s hJ,fun G1 spot st s' hs hI hb hex z=>?_⟩
       obtain⟨d1,d2⟩:=hD spot st s' hs hI hb hex
       obtain⟨r4,b4,lz,_⟩:=z.ex
       obtain⟨dx4,fs4,hp4,_,_,_,m5,_⟩:=lz.ob
       refine⟨_,rfl,p,dx4,fs4,rfl,hp4,m5 _ (by decide +kernel),H,p,q,_,n,w+n,_,i,_,rfl,z,d1,fun G2 z2=>?_⟩
       exact ⟨_,_,_,rfl,z2,d2⟩
     . rintro σ G ⟨o4,t,s,rfl,y,hJ⟩
       rw [Int.toNat_natCast,hul] at y hJ
       exact key _ _ ⟨o4,t,s,rfl,y,hJ⟩
   rintro _ G ⟨o4,t,s,rfl,y,hJ⟩
   obtain⟨r,b,ly,f1,f2⟩:=y.ex
   obtain⟨dx,fs,hp,l1,l2,l3,l4,l5⟩:=ly.ob
   obtain⟨as,xa,na⟩:=ly.rw
   obtain⟨bs,xb,nb⟩:=ly.bk
   have s0:=y.same
   refine An (fun σ' H'=>∃ (L' E:Addr),σ'=[some (.ref ta),some (.int (w:Int)),some (.ref L),some (.ref p),o4,some (.ref L')]/\Same G H'/\H L'=none/\H E=none/\LX H' Ad L' E b none n n (fun x a=>s.1 x (w+a),s.2) N) ?_ fun key=>?_
   rotate_left
   . refine⟨_,rfl,p,Ab,dx,fs,_,rfl,hp,T.cl_Stairs,T.na_Stairs_rows,l1,r,rfl,⟨_,.of xa.2.1⟩,fun E hE=>?_⟩
     have xa':=xa.2.1
     refine Ct (K:=K) (a:=r) (xs:=as.map V.ref) (fun i zs τ G1=>∃ cs,zs=cs.map V.ref/\cs.length=i/\Rows G G1 E cs n (fun x a=>s.1 x (w+a))/\∃ o1,τ=[o1,some (.int (w:Int))]) ⟨[],rfl,rfl,Rows.nil hE,none,rfl⟩ (fun i zs τ G1 _ ⟨cs,_,_,R,_⟩=>R.same.seq (.of xa')) ?_ ?_
     . rintro i x zs τ G1 hx ⟨cs,rfl,hcl,R,o1,rfl⟩
       have hi:i<n:=by have:=(List.getElem?_eq_some_iff.mp hx).1;rw [List.length_map,xa.1] at this;exact this
       obtain⟨c,_,ec,_,hc⟩:=xa.row (K:=K) hi
       rw [ec] at hx
       cases hx
       refine⟨_,rfl,_,rfl,_,rfl,c,_,rfl,R.same.seq hc,fun F hF=>?_⟩
       have sF:Same G1 (upd G1 F (.lst (cutV (VI (w+n) (s.1 i)) (some (w:Int)) none))):=Same.new hF
       refine⟨sF _ _ R.at,small (by rw [List.length_map];omega),cs++[F],by rw [List.map_append];rfl,by rw [List.length_append,hcl];rfl,?_,_,rfl⟩
       refine R.push hF sF ?_
       rw [hcl,Ag,A08]
     rintro zs τ G1 ⟨cs,rfl,hcl,R,_⟩
     rw [List.length_map,xa.1] at hcl
     have hp1:=R.same _ _ hp
     refine⟨_,rfl,p,Ab,dx,fs,_,rfl,hp1,T.cl_Stairs,T.na_Stairs_backs,l2,?_⟩
     intro L' dxl nL ndx nedx
     have s3:Same G1 (upd (upd G1 dxl (.own L')) L' (.ins Ad dxl [])):=(Same.new ndx).turn nL
     refine⟨L',dxl,Ad,_,_,rfl,.inl rfl,Ag,fun H4 fs' hfs hH4=>⟨rfl,?_⟩⟩
     have sx:SameX L' (upd (upd G1 dxl (.own L')) L' (.ins Ad dxl [])) H4:=by rw [hH4];exact SameX.upd (SameX.upd (SameX.refl _ _))
     have hL4:H4 L'=some (.ins Ad dxl fs'):=by rw [hH4];exact Ag
     clear hH4
     generalize upd (upd G1 dxl (.own L')) L' (.ins Ad dxl [])=G3 at s3 sx
     have st:∀ a o,G1 a=some o->H4 a=some o:=fun a o e=>sx _ _ (Ar e nL) (s3 _ _ e)
     have nN':∀ a,G a=none->¬N a:=fun a e=>nN a (s0.free e)
     refine key _ _ ⟨L',E,rfl,R.same.trans st,s0.free (R.same.free nL),s0.free R.free,⟨⟨dxl,fs',hL4,?_,?_,?_,fun m hm=>?_,?_⟩,⟨cs,(TA.of R hcl).same st,fun a ha=>?_⟩,⟨bs,(xb.same R.same).same st,fun a ha=>?_⟩,?_,nN' _ R.free,?_,fun a ha z=>?_⟩⟩
     . rw [hfs];((repeat (first | rw [Ah,if_pos rfl] | rw [Ah,if_neg (by decide +kernel)]))<;>first | rfl | assumption)
     . rw [hfs];((repeat (first | rw [Ah,if_pos rfl] | rw [Ah,if_neg (by decide +kernel)]))<;>first | rfl | assumption)
     . rw [hfs];((repeat (first | rw [Ah,if_pos rfl] | rw [Ah,if_neg (by decide +kernel)]))<;>first | rfl | assumption)
     . rw [hfs,Ah,if_neg (fun z=>absurd (z▸hm) (by decide +kernel)),Ah,if_neg (fun z=>absurd (z▸hm) (by decide +kernel))];rfl
     . rw [hfs];exact Nat.le_trans (A8 _ _ _) (Nat.le_trans (Nat.succ_le_succ (A8 _ _ _)) (by decide))
     . obtain⟨i,hi,rfl⟩:=List.getElem_of_mem ha
       obtain⟨z1,z2,z3⟩:=R.row i _ (List.getElem?_eq_getElem hi)
       exact ⟨z2,fun z=>xb.there.1 (z▸z1),nN' _ z1⟩
     . exact ⟨fun z=>xb.there.2 a ha (z▸R.free),(nb a ha).2.1,fun z=>(nb a ha).2.2 (.inr z)⟩
     . exact fun z=>xb.there.1 (z▸R.free)
     . exact fun z=>ly.nb (.inr z)
     . cases e:H a with
       | none=>exact lx.nn a ha e
       | some o=>rw [st _ _ (R.same _ _ (s0 _ _ e))] at z;cases z
   rintro _ G4 ⟨L',E,rfl,s4,fL,fE,lx4⟩
   have hp4:=s4 _ _ hp
   have xa':=s4 _ _ xa.2.1
   refine⟨_,rfl,p,Ab,dx,fs,_,rfl,hp4,T.cl_Stairs,T.na_Stairs_rows,l1,r,rfl,⟨_,.of xa'⟩,fun D hD=>?_⟩
   refine Ct (K:=K) (a:=r) (xs:=as.map V.ref) (fun i zs τ G1=>∃ cs,zs=cs.map V.ref/\cs.length=i/\Rows G4 G1 D cs w (fun x a=>s.1 x a)/\∃ o1,τ=[o1,some (.int (w:Int))]) ⟨[],rfl,rfl,Rows.nil hD,none,rfl⟩ (fun i zs τ G1 _ ⟨cs,_,_,R,_⟩=>R.same.seq (.of xa')) ?_ ?_
   . rintro i x zs τ G1 hx ⟨cs,rfl,hcl,R,o1,rfl⟩
     have hi:i<n:=by have:=(List.getElem?_eq_some_iff.mp hx).1;rw [List.length_map,xa.1] at this;exact this
     obtain⟨c,_,ec,_,hc⟩:=xa.row (K:=K) hi
     rw [ec] at hx
     cases hx
     refine⟨_,rfl,_,rfl,_,rfl,c,_,rfl,R.same.seq (s4.seq hc),fun F hF=>?_⟩
     have sF:Same G1 (upd G1 F (.lst (cutV (VI (w+n) (s.1 i)) none (some (w:Int))))):=Same.new hF
     refine⟨sF _ _ R.at,small (by rw [List.length_map];omega),cs++[F],by rw [List.map_append];rfl,by rw [List.length_append,hcl];rfl,?_,_,rfl⟩
     refine R.push hF sF ?_
     rw [hcl,Ag,A95]
   rintro zs τ G1 ⟨cs,rfl,hcl,R,_⟩
   rw [List.length_map,xa.1] at hcl
   refine⟨_,rfl,Ec (by simp),fun tp htp=>?_⟩
   have s5:Same G1 (upd G1 tp (.tup [.ref D,.ref L'])):=Same.new htp
   have s45:=R.same.trans s5
   exact k tp D L' E b cs t s _ ((s0.trans s4).trans s45) hJ (.of Ag) ((TA.of R hcl).same s5) (lx4.keep s45) ((s0.trans s4).free R.free) fL fE f2
abbrev Dq:Stmt:=Dx (top 27) 2
theorem U6:FnScope ["self","height","by_rows","by_columns"] ["self"] (Aj Dq):=⟨rfl,rfl,rfl,by decide +kernel,rfl,by decide +kernel,by decide +kernel⟩
theorem Hk:(["self","height","by_rows","by_columns"]:List Str).Nodup:=by decide +kernel
theorem Vk {f:Addr}{fd:FuncData} (F:Fun K "step" "Work.step" Dq f fd) (T:Txt K mg Ad Ab Ae) (Lc:Has P w K mg base "stepped" ["table","width","lines"] 7 (J9 K Ad Ab Ae)) (Ee:Has P w K mg base "flipped" ["table","width"] 2 (F0 K)):FnOk P w K mg base CX0 8 f fd ["self"] (Ta K Ad Ab Ae):=by
 refine F.ok U6 (fun vs H Q E h=>?_) (fun C5 A outer s H vs Q E hr h=>?_)
 . obtain⟨H0,p,L,R,nm,n,w,M,l,r,ns,Nx,rfl,x,ok,k⟩:=h
   rfl
 . obtain⟨H0,p,L,R,nm,n,w,M,l,r,ns,Nx,rfl,x,ok,k⟩:=h
   refine⟨_,(Af (Av (i:=1) Hk (by rfl) (by first | exact Or.inl rfl | exact Or.inr rfl) (A6 (A0 (K:=K)) (by rfl) T.n_len PySem.boot_len (Aa (Ao (K:=K) (pv 0)) Ai)))
    (Af (Av (i:=2) Hk (by rfl) (by first | exact Or.inl rfl | exact Or.inr rfl) (Ap Lc hr (by rfl) (Aa (Ao (K:=K) (pv 0)) (Aa (Ao (K:=K) (pv 0)) (Aa (Ao (K:=K) (pv 0)) Ai)))))
    (Af (Av (i:=3) Hk (by rfl) (by first | exact Or.inl rfl | exact Or.inr rfl) (Ap Lc hr (by rfl) (Aa (Ap Ee hr (by rfl) (Aa (A2 (A4 (K:=K)) (pv 2) Am (fun _ _=>rfl)) (Aa (Ao (K:=K) (pv 0)) Ai))) (Aa (pv 1) (Aa (Ao (K:=K) (pv 0)) Ai)))))
    (Af (Dw (K:=K) (pv 0) (Ap Ee hr (by rfl) (Aa (A2 (A4 (K:=K)) (pv 3) Am (fun _ _=>rfl)) (Aa (pv 1) Ai))))
    (Af (Dw (K:=K) (pv 0) (A2 (A4 (K:=K)) (pv 2) Am (fun _ _=>rfl)))
    (Al (Dw (K:=K) (pv 0) (A2 (A4 (K:=K)) (pv 3) Am (fun _ _=>rfl))))))))),?_⟩
   obtain⟨sm1,sm2⟩:=x.sm
   obtain⟨tv,dx,fs,hp,l1,l2,l3,l4,l5,l6,l7,hrep⟩:=x.ob
   obtain⟨r1,b1,r2,b2,lx,ly,f1,f2,f3,f4⟩:=x.li
   replace hrep:=hrep _ rfl
   obtain⟨ta,us,rfl,hq,hul,_⟩:=Li hrep
   obtain⟨J1,T1,j10,j1t,j1n⟩:=ok.ex
   have hrepH:=Rep.same Fd hrep
   replace hq:=Fd.seq hq
   refine An (fun σ' H'=>σ'=[some (.ref p),some (.int (n:Int)),none,none]/\H=H') ?_ fun key=>?_
   rotate_left
   . refine⟨_,rfl,p,Ae,dx,fs,_,rfl,hp,T.cl_Work,T.na_Work_table,l1,ta,us,rfl,.inl hq,key _ _ ⟨by rw [hul];rfl,rfl⟩⟩
   rintro _ _ ⟨rfl,rfl⟩
   refine An (fun σ' H'=>∃ (tp D L' r1' b1':Addr) (as:List Addr) (t:Nat->Nat) (s:Lat.Mat × Lat.Mat),σ'=[some (.ref p),some (.int (n:Int)),some (.ref tp),none]/\Same H H'/\J1 n t s/\SqT K H' tp [.ref D,.ref L']/\TA H' D as n w s.1/\LX H' Ad L' r1' b1' none n n (fun x a=>s.1 x (w+a),s.2) (fun a=>a=nm\/a=r2\/a=b2)/\H L'=none/\H r1'=none/\H b1'=none) ?_ fun key=>?_
   rotate_left
   . refine⟨_,rfl,p,Ae,dx,fs,_,rfl,hp,T.cl_Work,T.na_Work_table,l1,_,rfl,p,Ae,dx,fs,_,rfl,hp,T.cl_Work,T.na_Work_width,l2,_,rfl,p,Ae,dx,fs,_,rfl,hp,T.cl_Work,T.na_Work_left,l3,.ref ta,L,r1,b1,none,_,n,w,M,l.1,l.2,J1,rfl,hrepH,lx,sm1,sm2,T1,j10,j1t,fun tp D L' r' b' as t s H1 s1 hJ hT xD lx1 _ fL fr fb=>?_⟩
     exact key _ _ ⟨tp,D,L',r',b',as,t,s,rfl,s1,hJ,hT,xD,lx1,fL,fr,fb⟩
   rintro _ H1 ⟨tp,D,L',r1',b1',as,t,s,rfl,s1,hJ,hT,xD,lx1,fL,fr,fb⟩
   obtain⟨J2,T2,j20,j2t,j2n⟩:=j1n t s hJ
   have hp1:=s1 _ _ hp
   refine An (fun σ' H'=>∃ (tp2 D2 R' r2' b2':Addr) (as2:List Addr) (t2:Nat->Nat) (s2:Lat.Mat × Lat.Mat),σ'=[some (.ref p),some (.int (n:Int)),some (.ref tp),some (.ref tp2)]/\Same H1 H'/\J2 w t2 s2/\SqT K H' tp2 [.ref D2,.ref R']/\TA H' D2 as2 w n s2.1/\LX H' Ad R' r2' b2' none w w (fun x a=>s2.1 x (n+a),s2.2) (fun a=>a=nm)/\H1 R'=none/\H1 r2'=none/\H1 b2'=none) ?_ fun key=>?_
   rotate_left
   . refine⟨_,rfl,tp,_,_,_,rfl,rfl,hT,rfl,_,rfl,p,Ae,dx,fs,_,rfl,hp1,T.cl_Work,T.na_Work_width,l2,.ref D,n,w,s.1,rfl,xD.rep,by omega,by omega,fun F fas H2 hl2 R2=>?_⟩
     have hp2:=R2.same _ _ hp1
     refine⟨_,rfl,_,rfl,p,Ae,dx,fs,_,rfl,hp2,T.cl_Work,T.na_Work_right,l4,.ref F,R,r2,b2,none,_,w,n,(fun i j=>s.1 j i),r.1,r.2,J2,rfl,R2.rep hl2,ly.keep (s1.trans R2.same),sm2,sm1,T2,j20,j2t,fun tp2 D2 R' r' b' as2 t2 s2 H3 s3 hJ2 hT2 xD2 lx2 _ fR fr2 fb2=>?_⟩
     exact key _ _ ⟨tp2,D2,R',r',b',as2,t2,s2,rfl,R2.same.trans s3,hJ2,hT2,xD2,lx2,R2.same.free fR,R2.same.free fr2,R2.same.free fb2⟩
   rintro _ H3 ⟨tp2,D2,R',r2',b2',as2,t2,s2,rfl,s3,hJ2,hT2,xD2,lx2,fR,fr2,fb2⟩
   have hp3:=s3 _ _ hp1
   have hT3:=s3.seqT hT
   refine⟨_,rfl,tp2,_,_,_,rfl,rfl,hT2,rfl,_,rfl,.ref D2,w,n,s2.1,rfl,xD2.rep,by omega,by omega,fun E eas H4 hl4 R4=>?_⟩
   have s34:=R4.same
   have hp4:=s34 _ _ hp3
   have s04:Same H0 H4:=((x.same.trans s1).trans s3).trans s34
   have n4:=(s1.trans (s3.trans s34)) _ _ x.nu
   have rep4:Rep K (hide H4 fun a=>a=nm) (.ref E) (dT n w fun i j=>s2.1 j i):=R4.hid hl4 fun a ha z=>by cases ha;rw [(s1.trans s3) _ _ x.nu] at z;cases z
   have hT4:=s34.seqT hT3
   have hT24:=s34.seqT hT2
   have ex:∀ a,a=nm\/a=r2'\/a=b2'->H4 a≠none:=fun a ha=>by
    rcases ha with rfl | rfl | rfl
    . rw [n4];exact fun z=>nomatch z
    . obtain⟨_,z,_⟩:=lx2.rw;exact (z.same s34).there.1
    . obtain⟨_,z,_⟩:=lx2.bk;exact (z.same s34).there.1
   have z1:LX H4 Ad L' r1' b1' none n n (fun x a=>s.1 x (w+a),s.2) (fun a=>a=nm\/a=r2'\/a=b2'):=lx1.more (s3.trans s34) (fun a ha=>by
    rcases ha with rfl | rfl | rfl
    . exact .inl (.inl rfl)
    . exact .inr fr2
    . exact .inr fb2) ex
   have z2:=lx2.keep s34
   have npL:p≠L':=Ar hp fL
   have npR:p≠R':=Ar hp1 fR
   have LR:L'≠R':=fun z=>by obtain⟨_,_,q,_⟩:=lx1.ob;rw [z,fR] at q;cases q
   refine⟨_,rfl,p,Ae,dx,fs,rfl,hp4,T.cl_Work,T.na_Work_table,by omega,?_⟩
   have sx5:SameX p H4 (upd H4 p (.ins Ae dx (putF "table" (.ref E) fs))):=SameX.upd (SameX.refl _ _)
   have hp5:upd H4 p (.ins Ae dx (putF "table" (.ref E) fs)) p=some (.ins Ae dx (putF "table" (.ref E) fs)):=Ag
   have kp5:Kp H4 (upd H4 p (.ins Ae dx (putF "table" (.ref E) fs))):=Kp.upd
   have e1:(putF "table" (V.ref E) fs).length=fs.length:=Ie l1
   generalize upd H4 p (.ins Ae dx (putF "table" (.ref E) fs))=H5 at sx5 hp5 kp5
   have hT5:=An1 hT4 hp4 sx5
   have hT25:=An1 hT24 hp4 sx5
   refine⟨_,rfl,tp,_,_,_,rfl,rfl,hT5,rfl,_,rfl,p,Ae,dx,_,rfl,hp5,T.cl_Work,T.na_Work_left,by omega,?_⟩
   have e2:(putF "left" (V.ref L') (putF "table" (V.ref E) fs)).length=(putF "table" (V.ref E) fs).length:=Ie (x:=.ref L) (by rw [Ah,if_neg (by decide +kernel)];exact l3)
   have sx6:SameX p H5 (upd H5 p (.ins Ae dx (putF "left" (.ref L') (putF "table" (.ref E) fs)))):=SameX.upd (SameX.refl _ _)
   have hp6:upd H5 p (.ins Ae dx (putF "left" (.ref L') (putF "table" (.ref E) fs))) p=some (.ins Ae dx (putF "left" (.ref L') (putF "table" (.ref E) fs))):=Ag
   have kp6:Kp H5 (upd H5 p (.ins Ae dx (putF "left" (.ref L') (putF "table" (.ref E) fs)))):=Kp.upd
   generalize upd H5 p (.ins Ae dx (putF "left" (.ref L') (putF "table" (.ref E) fs)))=H6 at sx6 hp6 kp6
   refine⟨_,rfl,tp2,_,_,_,rfl,rfl,An1 hT25 hp5 sx6,rfl,_,rfl,p,Ae,dx,_,rfl,hp6,T.cl_Work,T.na_Work_right,by omega,?_⟩
   have e3:(putF "right" (V.ref R') (putF "left" (V.ref L') (putF "table" (V.ref E) fs))).length=(putF "left" (V.ref L') (putF "table" (V.ref E) fs)).length:=Ie (x:=.ref R) (by rw [Ah,if_neg (by decide +kernel),Ah,if_neg (by decide +kernel)];exact l4)
   have sx:SameX p H4 (upd H6 p (.ins Ae dx (putF "right" (.ref R') (putF "left" (.ref L') (putF "table" (.ref E) fs))))):=SameX.upd (sx5.trans sx6)
   have kp:Kp H4 (upd H6 p (.ins Ae dx (putF "right" (.ref R') (putF "left" (.ref L') (putF "table" (.ref E) fs))))):=(kp5.trans kp6).trans Kp.upd
   have g0:∀ a,H a=none->H0 a=none:=fun a e=>x.same.free e
   have g1:∀ a,H1 a=none->H0 a=none:=fun a e=>(x.same.trans s1).free e
   have npn:nm≠p:=F6 x.nu hp (by intro z;cases z)
   refine k L' R' _ _ _ _ (j2n t2 s2 hJ2) ⟨⟨.ref E,dx,_,Ag,?_,?_,?_,?_,?_,fun m hm=>?_,by omega,fun M' e=>by
    cases e
    exact dT_x (p:=p) (dx:=dx) (C:=Ae) rep4 (by rw [T8 npn.symm];exact hp4) (fun a o ne e=>by
     by_cases z:a=nm
     . rw [Ag4 z] at e;cases e
     . rw [T8 z] at e ⊢;exact sx _ _ ne e)⟩,⟨r1',b1',r2',b2',z1.x hp4 npL sx kp,z2.x hp4 npR sx kp,g0 _ fr,g0 _ fb,g1 _ fr2,g1 _ fb2⟩,sx _ _ npn n4,sx.same s04 x.fr.1,⟨x.fr.1,g0 _ fL,g1 _ fR,x.fr.2.2.2⟩,⟨npL,npR,LR⟩,⟨sm1,sm2⟩⟩
   . ((repeat (first | rw [Ah,if_pos rfl] | rw [Ah,if_neg (by decide +kernel)]))<;>first | rfl | assumption)
   . ((repeat (first | rw [Ah,if_pos rfl] | rw [Ah,if_neg (by decide +kernel)]))<;>first | rfl | assumption)
   . ((repeat (first | rw [Ah,if_pos rfl] | rw [Ah,if_neg (by decide +kernel)]))<;>first | rfl | assumption)
   . ((repeat (first | rw [Ah,if_pos rfl] | rw [Ah,if_neg (by decide +kernel)]))<;>first | rfl | assumption)
   . ((repeat (first | rw [Ah,if_pos rfl] | rw [Ah,if_neg (by decide +kernel)]))<;>first | rfl | assumption)
   . iterate 3 rw [Ah,if_neg (fun z=>absurd (z▸hm) (by decide +kernel))]
     exact l6 m hm
abbrev Bs:Stmt:=Dx (top 27) 1
theorem Ks:FnScope ["self","i"] ["self"] (Aj Bs):=⟨rfl,rfl,rfl,by decide +kernel,rfl,by decide +kernel,by decide +kernel⟩
theorem K6:(["self","i"]:List Str).Nodup:=by decide +kernel
theorem Kz {f:Addr}{fd:FuncData} (F:Fun K "straighten" "Work.straighten" Bs f fd) (T:Txt K mg Ad Ab Ae) (Fl:HasM P w K mg base Ae "step" ["self"] 8 (Ta K Ad Ab Ae)) (Gn:Has P w K mg base "is_straight" ["table"] 1 (E8 K)):FnOk P w K mg base CX0 9 f fd ["self"] (Ft K Ad Ab Ae):=by
 refine F.ok Ks (fun vs H Q E h=>?_) (fun C5 A outer s H vs Q E hr h=>?_)
 . obtain⟨H0,p,L,R,nm,n,w,M,l,r,U,rfl,x,ok,nx,k⟩:=h
   rfl
 . obtain⟨H0,p,L,R,nm,n,w,M,l,r,U,rfl,x,ok,nx,k⟩:=h
   refine⟨_,(Af (Bn (Hg (pv 0) T.cl_Work Fl hr))
    (Af (Oj PassesOwn.never (Se (Kv (Ap Gn hr (by rfl) (Aa (Ao (K:=K) (pv 0)) Ai)))) (Al (Bn (Hg (pv 0) T.cl_Work Fl hr))))
    (Al (Fj PassesOwn.never rfl (C0 (by rfl) T.n_range (Aa (A6 (Ak3 (by rfl)) (by rfl) T.n_min Ak7 (Aa (A6 (A0 (K:=K)) (by rfl) T.n_len PySem.boot_len (Aa (Ao (K:=K) (pv 0)) Ai)) (Aa (Ao (K:=K) (pv 0)) Ai))) Ai)) (A3 (i:=1) K6 (by rfl) (by first | exact Or.inl rfl | exact Or.inr rfl)) (Al (Dt (A7 Vj (A2 (As (K:=K)) (A2 (As (K:=K)) (Ao (K:=K) (pv 0)) (pv 1) (fun _ _=>rfl)) (pv 1) (fun _ _=>rfl)) Am (Bg _)) (Al (Bn (K9 (K:=K) PySem.F.plainAttrs_list PySem.F.slot_list_append PySem.F.type_list_append Hl (Ao (K:=K) (pv 0)) (Aa (A2 (As (K:=K)) (A2 (As (K:=K)) (Ao (K:=K) (pv 0)) (pv 1) (fun _ _=>rfl)) (pv 1) (fun _ _=>rfl)) Ai)))) Bu)))))),?_⟩
   have sm:=x.sm
   obtain⟨_,dx,fs,hp,_,_,_,_,_,l6,_⟩:=x.ob
   refine An (fun σ' H'=>σ'=[some (.ref p),none]/\∃ L R m M l r,U m M l r/\WX K Ad Ae H0 H' p L R nm n w (some M) l r []) ?_ fun key=>?_
   rotate_left
   . exact ⟨_,rfl,p,dx,fs,rfl,hp,l6 _ (by decide +kernel),H0,p,L,R,nm,n,w,M,l,r,[],_,rfl,x,ok,fun L' R' M' l' r' H' ⟨m,hu⟩ y=>key _ _ ⟨rfl,L',R',m,M',l',r',hu,y⟩⟩
   rintro _ H1 ⟨rfl,L,R,m,M,l,r,hU,x⟩
   clear ok hp l6
   refine An (fun σ' H'=>σ'=[some (.ref p),none]/\∃ L R m M l r,U m M l r/\Lat.Straight n w M/\WX K Ad Ae H0 H' p L R nm n w (some M) l r []) ?_ fun key=>?_
   rotate_left
   . refine⟨fun m σ' G=>σ'=[some (.ref p),none]/\∃ L R M l r,U m M l r/\WX K Ad Ae H0 G p L R nm n w (some M) l r [],⟨m,rfl,L,R,M,l,r,hU,x⟩,?_⟩
     rintro m σ G ⟨rfl,L,R,M,l,r,hU,x⟩
     obtain⟨tv,dx,fs,hp,l1,l2,l3,l4,l5,l6,l7,hrep⟩:=x.ob
     replace hrep:=hrep _ rfl
     refine⟨_,rfl,p,Ae,dx,fs,_,rfl,hp,T.cl_Work,T.na_Work_table,l1,tv,n,w,M,rfl,Rep.same Fd hrep,by omega,by omega,fun hS G1 s1=>⟨_,rfl,?_⟩,fun hS G1 s1=>⟨_,rfl,?_⟩⟩
     . refine ifN (by simp) ?_
       exact key _ _ ⟨rfl,L,R,m,M,l,r,hU,hS,x.keep s1⟩
     . refine ifP (by simp) ?_
       refine⟨fun σ' G'=>σ'=[some (.ref p),none]/\∃ L R m' M l r,m'<m/\U m' M l r/\WX K Ad Ae H0 G' p L R nm n w (some M) l r [],?_,?_⟩
       . rintro σ' G' ⟨rfl,L,R,m',M,l,r,hm,hU,y⟩
         exact ⟨m',hm,rfl,L,R,M,l,r,hU,y⟩
       . exact ⟨_,rfl,p,dx,fs,rfl,s1 _ _ hp,l6 _ (by decide +kernel),H0,p,L,R,nm,n,w,M,l,r,[],_,rfl,x.keep s1,nx m M l r hU hS,fun L' R' M' l' r' H' ⟨m',hm,hu⟩ y=>⟨rfl,L',R',m',M',l',r',hm,hu,y⟩⟩
   rintro _ H2 ⟨rfl,L,R,m,M,l,r,hU,hS,x⟩
   obtain⟨tv,dx,fs,hp,l1,l2,l3,l4,l5,l6,l7,hrep⟩:=x.ob
   replace hrep:=hrep _ rfl
   obtain⟨ta,us,rfl,hq,hul,hrow⟩:=Li hrep
   replace hq:=Fd.seq hq
   have emin:(if (w:Int)<((us.length:Nat):Int) then (w:Int) else ((us.length:Nat):Int)).toNat=min n w:=by split<;>omega
   refine⟨_,rfl,p,Ae,dx,fs,_,rfl,hp,T.cl_Work,T.na_Work_table,l1,ta,us,rfl,.inl hq,_,rfl,p,Ae,dx,fs,_,rfl,hp,T.cl_Work,T.na_Work_width,l2,_,_,rfl,_,rfl,by split<;>omega,by split<;>omega,?_⟩
   refine Dj (lo:=0) (n:=(if (w:Int)<((us.length:Nat):Int) then (w:Int) else ((us.length:Nat):Int)).toNat) (fun i σ' G=>∃ o1,σ'=[some (.ref p),o1]/\WX K Ad Ae H0 G p L R nm n w (some M) l r (nzs i M)) ⟨none,rfl,x⟩ ?_ ?_
   . clear hp hrep hq hrow l1 l2 l3 l4 l5 l6 l7
     rintro i σ G hi ⟨o1,rfl,y⟩
     rw [emin] at hi
     rw [Int.zero_add]
     obtain⟨tv,dx,fs,hp,l1,l2,l3,l4,l5,l6,l7,hrep⟩:=y.ob
     replace hrep:=hrep _ rfl
     obtain⟨ta,us,rfl,hq,hul,hrow⟩:=Li (Rep.same Fd hrep)
     have e:=List.getElem?_eq_getElem (l:=us) (i:=i) (by omega)
     obtain⟨_,b,eb,hb⟩:=hrow i _ e
     rw [eb] at e
     refine⟨_,rfl,p,Ae,dx,fs,_,rfl,hp,T.cl_Work,T.na_Work_table,l1,_,rfl,ta,_,_,_,rfl,rfl,hq,Az e,_,rfl,b,_,_,_,rfl,rfl,hb,Az (Bz (by omega)),rfl,_,rfl,?_⟩
     refine ite2 (fun h1=>?_) (fun h1=>?_)
     . have h0:¬M i i=0:=by simpa using h1
       refine⟨_,rfl,p,Ae,dx,fs,_,rfl,hp,T.cl_Work,T.na_Work_numbers,l5,.inl ⟨rfl,_,.of y.nu⟩,_,rfl,p,Ae,dx,fs,_,rfl,hp,T.cl_Work,T.na_Work_table,l1,_,rfl,ta,_,_,_,rfl,rfl,hq,Az e,_,rfl,b,_,_,_,rfl,rfl,hb,Az (Bz (by omega)),nm,_,_,rfl,rfl,y.nu,?_,?_⟩
       . have:=Ax4 i M
         exact small (by rw [List.length_map];omega)
       . have z:=y.num (ns':=nzs (i+1) M)
         rw [K5,if_neg h0,List.map_append] at z
         exact ⟨_,rfl,by rw [K5,if_neg h0];exact z⟩
     . have h0:M i i=0:=by simpa using h1
       exact ⟨_,rfl,by rw [K5,if_pos h0];exact y⟩
   . rintro σ G ⟨o1,rfl,y⟩
     rw [emin] at y
     exact k L R m M l r _ hU hS y
abbrev E5:Stmt:=top 25
theorem Xi:FnScope ["table","width","work","left_back","right"] ["table","width"] (Aj E5):=⟨rfl,rfl,rfl,by decide +kernel,rfl,by decide +kernel,by decide +kernel⟩
theorem Kd:(["table","width","work","left_back","right"]:List Str).Nodup:=by decide +kernel
theorem Xv {f:Addr}{fd:FuncData} (F:Fun K "diagonal" "diagonal" E5 f fd) (T:Txt K mg Ad Ab Ae) (hc_Work:HasC P w K mg base Ae ["self","table","width"] 3 (Tb K Ad Ab Ae)) (Dh:HasM P w K mg base Ae "straighten" ["self"] 9 (Ft K Ad Ab Ae)) (Cw:HasM P w K mg base Ae "put_in_order" ["self"] 5 (Ox K Ad Ab Ae)) (Ee:Has P w K mg base "flipped" ["table","width"] 2 (F0 K)) (Mi:Has P w K mg base "is_table" ["thing","width"] 3 (J7 K)):FnOk P w K mg base CX0 10 f fd ["table","width"] (Fi K):=by
 refine F.ok Xi (fun vs H Q E h=>?_) (fun C5 A outer s H vs Q E hr h=>?_)
 . obtain⟨v,n,w,A,Fin,rfl,hv,hn,hw,hP,k⟩:=h
   rfl
 . obtain⟨v,n,w,A,Fin,rfl,hv,hn,hw,hP,k⟩:=h
   refine⟨_,(Af (Dt (Se (Kv (Ap Mi hr (by rfl) (Aa (pv 0) (Aa (pv 1) Ai))))) (Al An8) Bu)
    (Af (Av (i:=2) Kd (by rfl) (by first | exact Or.inl rfl | exact Or.inr rfl) (Ky hc_Work hr (by rfl) T.m_Work (Aa (pv 0) (Aa (pv 1) Ai))))
    (Af (Bn (Hg (pv 2) T.cl_Work Dh hr))
    (Af (Bn (Hg (pv 2) T.cl_Work Cw hr))
    (Af (Av (i:=3) Kd (by rfl) (by first | exact Or.inl rfl | exact Or.inr rfl) (Ap Ee hr (by rfl) (Aa (Ao (K:=K) (Ao (K:=K) (pv 2))) (Aa (A6 (A0 (K:=K)) (by rfl) T.n_len PySem.boot_len (Aa (pv 0) Ai)) Ai))))
    (Af (Av (i:=4) Kd (by rfl) (by first | exact Or.inl rfl | exact Or.inr rfl) (Ap Ee hr (by rfl) (Aa (Ao (K:=K) (Ao (K:=K) (pv 2))) (Aa (pv 1) Ai))))
    (Al (Bd (F5 (Aa (Ao (K:=K) (pv 2)) (Aa (Ao (K:=K) (Ao (K:=K) (pv 2))) (Aa (pv 3) (Aa (pv 4) (Aa (Ao (K:=K) (Ao (K:=K) (pv 2))) Ai)))))))))))))),?_⟩
   obtain⟨ta,us,rfl,hq,hul,_⟩:=Li hv
   obtain⟨U,Y,a1,a2,a3,a4,a5⟩:=hP.ex
   refine An (t:=tIfS _ _ _) (fun σ' H'=>σ'=[some (.ref ta),some (.int (w:Int)),none,none,none]/\Same H H') ?_ fun key=>?_
   rotate_left
   . refine⟨_,rfl,_,rfl,.ref ta,n,w,A,rfl,hv,hn,by omega,fun H1 s1=>⟨_,rfl,?_⟩⟩
     refine ifN (by simp) ?_
     exact key _ _ ⟨rfl,s1⟩
   rintro _ H1 ⟨rfl,s1⟩
   refine An (fun σ' H'=>∃ p L R nm,σ'=[some (.ref ta),some (.int (w:Int)),some (.ref p),none,none]/\WX K Ad Ae H1 H' p L R nm n w (some A) (Lat.one,Lat.one) (Lat.one,Lat.one) []) ?_ fun key=>?_
   rotate_left
   . refine⟨_,rfl,_,rfl,?_⟩
     intro p dx np ndx nedx
     have sN:Same H1 (upd (upd H1 dx (.own p)) p (.ins Ae dx [])):=(Same.new ndx).turn np
     exact ⟨H1,p,dx,.ref ta,n,w,A,rfl,sN,np,Ag,Rep.same s1 hv,by omega,hw,fun L R nm H' y=>⟨rfl,key _ _ ⟨p,L,R,nm,rfl,y⟩⟩⟩
   rintro _ H2 ⟨p,L,R,nm,rfl,x⟩
   refine An (fun σ' H'=>∃ L R k f l r,σ'=[some (.ref ta),some (.int (w:Int)),some (.ref p),none,none]/\k<=n/\k<=w/\Y k 0 f l r/\WX K Ad Ae H1 H' p L R nm n w none l r (lsI k f)) ?_ fun key=>?_
   rotate_left
   . obtain⟨tva,dxa,fsa,hpa,l1a,l2a,l3a,l4a,l5a,l6a,l7a,_⟩:=x.ob
     refine⟨_,rfl,p,dxa,fsa,rfl,hpa,l6a _ (by decide +kernel),H1,p,L,R,nm,n,w,A,_,_,U,rfl,x,a1,a2,fun L' R' m M l r H' hU hS y=>?_⟩
     obtain⟨k,f,e,k1,k2,hY⟩:=a3 m M l r hU hS
     rw [e] at y
     exact key _ _ ⟨L',R',k,f,l,r,rfl,k1,k2,hY,y.drop⟩
   rintro _ H3 ⟨L,R,kk,f,l,r,rfl,k1,k2,hY,x⟩
   refine An (fun σ' H'=>∃ f l r,σ'=[some (.ref ta),some (.int (w:Int)),some (.ref p),none,none]/\Fin kk f l r/\Lat.ChainTo kk kk f/\WX K Ad Ae H1 H' p L R nm n w none l r (lsI kk f)) ?_ fun key=>?_
   rotate_left
   . obtain⟨tva,dxa,fsa,hpa,l1a,l2a,l3a,l4a,l5a,l6a,l7a,_⟩:=x.ob
     refine⟨_,rfl,p,dxa,fsa,rfl,hpa,l6a _ (by decide +kernel),H1,p,L,R,nm,n,w,kk,l,r,f,Y kk,rfl,x,k1,k2,hY,a4 kk,fun d f' l' r' H' hY' hC y=>?_⟩
     exact key _ _ ⟨f',l',r',rfl,a5 _ _ _ _ _ hY',hC,y⟩
   rintro _ H4 ⟨f,l,r,rfl,hF,hC,x⟩
   obtain⟨tva,dxa,fsa,hpa,l1a,l2a,l3a,l4a,l5a,l6a,l7a,_⟩:=x.ob
   obtain⟨r1,b1,r2,b2,lx,ly,f1,f2,f3,f4⟩:=x.li
   obtain⟨dl,fl,hL,e1,e2,_⟩:=lx.ob
   obtain⟨dr,fr,hR,e3,e4,_⟩:=ly.ob
   obtain⟨as1,xa1,_⟩:=lx.rw
   obtain⟨bs1,xb1,_⟩:=lx.bk
   obtain⟨as2,xa2,_⟩:=ly.rw
   obtain⟨bs2,xb2,_⟩:=ly.bk
   have s14:=x.same
   refine⟨_,rfl,p,Ae,dxa,fsa,_,rfl,hpa,T.cl_Work,T.na_Work_left,l3a,L,Ad,dl,fl,_,rfl,hL,T.cl_Lines,T.na_Lines_backs,e2,_,rfl,ta,us,rfl,.inl ((s1.trans s14).seq hq),.ref b1,n,n,l.2,(by rw [hul]<;>rfl),xb1.rep,by omega,by omega,fun D1 c1 H5 hc1 R1=>?_⟩
   have s45:=R1.same
   refine⟨_,rfl,p,Ae,dxa,fsa,_,rfl,(s45 _ _ hpa),T.cl_Work,T.na_Work_right,l4a,R,Ad,dr,fr,_,rfl,(s45 _ _ hR),T.cl_Lines,T.na_Lines_rows,e3,_,rfl,.ref r2,w,w,r.1,rfl,(xa2.same s45).rep,by omega,by omega,fun D2 c2 H6 hc2 R2=>?_⟩
   have s46:=s45.trans R2.same
   refine⟨_,rfl,p,Ae,dxa,fsa,_,rfl,(s46 _ _ hpa),T.cl_Work,T.na_Work_numbers,l5a,_,rfl,p,Ae,dxa,fsa,_,rfl,(s46 _ _ hpa),T.cl_Work,T.na_Work_left,l3a,L,Ad,dl,fl,_,rfl,(s46 _ _ hL),T.cl_Lines,T.na_Lines_rows,e1,_,rfl,_,rfl,_,rfl,p,Ae,dxa,fsa,_,rfl,(s46 _ _ hpa),T.cl_Work,T.na_Work_right,l4a,R,Ad,dr,fr,_,rfl,(s46 _ _ hR),T.cl_Lines,T.na_Lines_backs,e4,Ec (by simp),fun tp htp=>?_⟩
   have s67:Same H6 (upd H6 tp (.tup [.ref nm,.ref r1,.ref D1,.ref D2,.ref b2])):=Same.new htp
   have s47:=s46.trans s67
   have sall:=(s1.trans s14).trans s47
   have g1:∀ a,H1 a=none->H a=none:=fun a e=>s1.free e
   refine k tp nm r1 D1 D2 b2 kk f l r _ hF hC k1 k2 ⟨sall,.of Ag,s47 _ _ x.nu,(xa1.same s47).rep,(R1.later (R2.same.trans s67)).rep hc1,(R2.later s67).rep hc2,(xb2.same s47).rep,fun a ha=>?_⟩
   rcases ha with rfl | rfl | rfl | rfl | rfl
   . exact ⟨g1 _ x.fr.2.2.2,_,s47 _ _ x.nu,by rw [A5];omega⟩
   . exact ⟨g1 _ f1,_,s47 _ _ xa1.2.1,by rw [List.length_map,xa1.1];omega⟩
   . exact ⟨g1 _ (s14.free R1.free),_,(R2.same.trans s67) _ _ R1.at,by rw [List.length_map,hc1];omega⟩
   . exact ⟨g1 _ (s14.free (s45.free R2.free)),_,s67 _ _ R2.at,by rw [List.length_map,hc2];omega⟩
   . exact ⟨g1 _ f4,_,s47 _ _ xb2.2.1,by rw [List.length_map,xb2.1];omega⟩
abbrev Sc:Stmt:=top 26
theorem Au8:FnScope ["table","width"] ["table","width"] (Aj Sc):=⟨rfl,rfl,rfl,by decide +kernel,rfl,by decide +kernel,by decide +kernel⟩
theorem Aw7 {f:Addr}{fd:FuncData} (F:Fun K "rank" "rank" Sc f fd) (T:Txt K mg Ad Ab Ae) (Dy:Has P w K mg base "diagonal" ["table","width"] 10 (Fi K)):FnOk P w K mg base CX0 11 f fd ["table","width"] (Tc K):=by
 refine F.ok Au8 (fun vs H Q E h=>?_) (fun C5 A outer s H vs Q E hr h=>?_)
 . obtain⟨v,n,w,A,Fin,rfl,hv,hn,hw,hP,k⟩:=h
   rfl
 . obtain⟨v,n,w,A,Fin,rfl,hv,hn,hw,hP,k⟩:=h
   refine⟨_,(Al (Bd (A6 (A0 (K:=K)) (by rfl) T.n_len PySem.boot_len (Aa (A2 (A4 (K:=K)) (Ap Dy hr (by rfl) (Aa (pv 0) (Aa (pv 1) Ai))) Am (fun _ _=>rfl)) Ai)))),?_⟩
   refine⟨_,rfl,_,rfl,v,n,w,A,Fin,rfl,hv,hn,hw,hP,fun tp nm r1 D1 D2 b2 kk f l r H' hF hC k1 k2 x=>?_⟩
   refine⟨tp,_,_,_,rfl,rfl,x.tup,rfl,nm,_,rfl,.inl (.of x.num),?_⟩
   rw [A5]
   exact k kk f l r H' hF hC k1 k2 x.same
abbrev Q2:Stmt:=top 40
theorem A18:FnScope ["_law_script","_law_many","_law_height","_law_width","_law_due","_law_table","_law_cell","_law_of_rows","_law_lines","_law_turn","_law_found","_law_over"] ["_law_script"] (Aj Q2):=⟨rfl,rfl,rfl,by decide +kernel,rfl,by decide +kernel,by decide +kernel⟩
theorem F7:(["_law_script","_law_many","_law_height","_law_width","_law_due","_law_table","_law_cell","_law_of_rows","_law_lines","_law_turn","_law_found","_law_over"]:List Str).Nodup:=by decide +kernel
theorem A30 {f:Addr}{fd:FuncData} (F:Fun K "law" "law" Q2 f fd) (T:Txt K mg Ad Ab Ae) (Ml:Has P w K mg base "_law_row_by" ["_law_cell","_law_many"] 1 (Lz K)) (Ua:Has P w K mg base "_law_laid" ["_law_numbers","_law_height","_law_width"] 1 (Td K)) (D7:Has P w K mg base "_law_numbers_of" ["_law_found"] 2 (Kb K)) (Dz:Has P w K mg base "_law_cell_at" ["_law_script","_law_k"] 1 (Hd K)) (Kf:Has P w K mg base "_law_turn_by" ["_law_cell","_law_lines","_law_number"] 1 (Hc K)) (Dy:Has P w K mg base "diagonal" ["table","width"] 10 (Fi K)) (Mj:Has P w K mg base "_law_turned" ["_law_table","_law_width","_law_of_rows","_law_turn"] 3 (J8 K)) (Ih:Has P w K mg base "_law_copy" ["_law_table"] 1 (Kq K)) (Fm:Has P w K mg base "_law_flip" ["_law_table","_law_width"] 1 (Ko K)) (Zv:Has P w K mg base "rank" ["table","width"] 11 (Tc K)):FnOk P w K mg base CX0 12 f fd ["_law_script"] (S7 K):=by
 refine F.ok A18 (fun vs H Q E h=>?_) (fun C5 A outer s H vs Q E hr h=>?_)
 . obtain⟨a,ns,rfl,hS,hl,hbit,k⟩:=h
   rfl
 . obtain⟨a,ns,rfl,hS,hl,hbit,k⟩:=h
   have hu8:(A.deeper (PyProof.Rows.envOfC "law" (Aj Q2) s.heap.objs.size f C5)).units+8<cLine:=by have:=hr.units;omega
   refine⟨_,(Af (Av (i:=1) F7 (by rfl) (by first | exact Or.inl rfl | exact Or.inr rfl) (Bb Ed (Ap Dz hr (by rfl) (Aa (pv 0) (Aa Am Ai))) Am))
    (Af (Av (i:=2) F7 (by rfl) (by first | exact Or.inl rfl | exact Or.inr rfl) (Bb En (pv 1) (Bb Ed (Ap Dz hr (by rfl) (Aa (pv 0) (Aa Am Ai))) (Bb Pd Am (pv 1)))))
    (Af (Av (i:=3) F7 (by rfl) (by first | exact Or.inl rfl | exact Or.inr rfl) (Bb En (pv 1) (Bb Ed (Ap Dz hr (by rfl) (Aa (pv 0) (Aa Am Ai))) (Bb Pd Am (pv 1)))))
    (Af (Av (i:=4) F7 (by rfl) (by first | exact Or.inl rfl | exact Or.inr rfl) (Ap Ml hr (by rfl) (Aa (Ap Dz hr (by rfl) (Aa (pv 0) (Aa Am Ai))) (Aa (pv 1) Ai))))
    (Af (Av (i:=5) F7 (by rfl) (by first | exact Or.inl rfl | exact Or.inr rfl) (Ap Ua hr (by rfl) (Aa (pv 4) (Aa (pv 2) (Aa (pv 3) Ai)))))
    (Af (Fj PassesOwn.never rfl (Df (K:=K) (Ts (T4 (K:=K)) (pv 0) (Tp Am) (Tp Am))) (A3 (i:=6) F7 (by rfl) (by first | exact Or.inl rfl | exact Or.inr rfl)) (Af (Av (i:=7) F7 (by rfl) (by first | exact Or.inl rfl | exact Or.inr rfl) (Pc Ha (Bb Ed (pv 6) Am) Am (Bg _)))
    (Af (Av (i:=8) F7 (by rfl) (by first | exact Or.inl rfl | exact Or.inr rfl) (pv 3))
    (Af (Dt (Kv (pv 7)) (Al (Av (i:=8) F7 (by rfl) (by first | exact Or.inl rfl | exact Or.inr rfl) (pv 2))) Bu)
    (Af (Av (i:=9) F7 (by rfl) (by first | exact Or.inl rfl | exact Or.inr rfl) (Ap Kf hr (by rfl) (Aa (Bb Kc (pv 6) Am) (Aa (pv 8) (Aa (Bb Pd (Bb Ed (Bb Ed (Bb op_mulX (pv 6) Am) Am) Am) Am) Ai)))))
    (Al (Dt (A7 Aw6 (pv 9) Sg (Bg _)) (Al (Av (i:=5) F7 (by rfl) (by first | exact Or.inl rfl | exact Or.inr rfl) (Ap Mj hr (by rfl) (Aa (pv 5) (Aa (pv 3) (Aa (pv 7) (Aa (pv 9) Ai))))))) Bu)))))))
    (Af (Av (i:=10) F7 (by rfl) (by first | exact Or.inl rfl | exact Or.inr rfl) (Ap D7 hr (by rfl) (Aa (Ap Dy hr (by rfl) (Aa (Ap Ih hr (by rfl) (Aa (pv 5) Ai)) (Aa (pv 3) Ai))) Ai)))
    (Af (Av (i:=11) F7 (by rfl) (by first | exact Or.inl rfl | exact Or.inr rfl) (Ap D7 hr (by rfl) (Aa (Ap Dy hr (by rfl) (Aa (Ap Fm hr (by rfl) (Aa (pv 5) (Aa (pv 3) Ai))) (Aa (pv 2) Ai))) Ai)))
    (Af (Dt (PW.pt (Tl (A7 As5 (pv 10) Sg (Bg _)) (Tl (A7 As5 (pv 11) Sg (Bg _)) (Tl (A7 (Af3 (K:=K) hu8) (pv 10) (pv 4) (Bg _)) (U9 (A7 (Af3 (K:=K) hu8) (pv 11) (pv 4) (Bg _))))))) (Al (Bd Ao2)) Bu)
    (Al (Bd (Vf (Pc Ha (Ap Zv hr (by rfl) (Aa (pv 5) (Aa (pv 3) Ai))) (pv 1) (Bg _)) (Zm (Pc Ha (Ap Zv hr (by rfl) (Aa (Ap Fm hr (by rfl) (Aa (pv 5) (Aa (pv 3) Ai))) (Aa (pv 2) Ai))) (pv 1) (Bg _))))))))))))))),?_⟩
   refine⟨_,rfl,a,ns,0,rfl,hS,by decide,hl,_,_,rfl,rfl,(by show (0:Int)<4;decide),?_⟩
   refine B4 (fun σ' H'=>∃ m:Nat,σ'=[some (.ref a),some (.int (m:Int)),none,none,none,none,none,none,none,none,none,none]/\H=H'/\m<=3) ?_ fun key0=>key0 _ _ ⟨(Do ns 0%4).toNat,by rw [Int.toNat_of_nonneg (by omega)];rfl,rfl,by omega⟩
   rintro _ _ ⟨m,rfl,rfl,hm⟩
   refine An (fun σ' H'=>∃ h:Nat,σ'=[some (.ref a),some (.int (m:Int)),some (.int (h:Int)),none,none,none,none,none,none,none,none,none]/\H=H'/\m<=h/\h<=4) ?_ fun key=>?_
   rotate_left
   . have q1:=Int.emod_nonneg (Do ns 1) (show (5:Int)-(m:Int)≠0 by omega)
     have q2:=Int.emod_lt_of_pos (Do ns 1) (show 0<(5:Int)-(m:Int) by omega)
     refine⟨_,rfl,_,rfl,a,ns,1,rfl,hS,by decide,hl,_,rfl,_,_,rfl,rfl,_,_,rfl,rfl,(by show (0:Int)<5-(m:Int);omega),_,_,rfl,rfl,?_⟩
     exact key _ _ ⟨((m:Int)+Do ns 1%(5-(m:Int))).toNat,by rw [Int.toNat_of_nonneg (by omega)];rfl,rfl,by omega,by omega⟩
   rintro _ _ ⟨h,rfl,rfl,mh,hh⟩
   refine An (fun σ' H'=>∃ w:Nat,σ'=[some (.ref a),some (.int (m:Int)),some (.int (h:Int)),some (.int (w:Int)),none,none,none,none,none,none,none,none]/\H=H'/\m<=w/\w<=5) ?_ fun key=>?_
   rotate_left
   . have q1:=Int.emod_nonneg (Do ns 2) (show (6:Int)-(m:Int)≠0 by omega)
     have q2:=Int.emod_lt_of_pos (Do ns 2) (show 0<(6:Int)-(m:Int) by omega)
     refine⟨_,rfl,_,rfl,a,ns,2,rfl,hS,by decide,hl,_,rfl,_,_,rfl,rfl,_,_,rfl,rfl,(by show (0:Int)<6-(m:Int);omega),_,_,rfl,rfl,?_⟩
     exact key _ _ ⟨((m:Int)+Do ns 2%(6-(m:Int))).toNat,by rw [Int.toNat_of_nonneg (by omega)];rfl,rfl,by omega,by omega⟩
   rintro _ _ ⟨w,rfl,rfl,mw,hw⟩
   refine An (fun σ' H'=>∃ Du:Addr,σ'=[some (.ref a),some (.int (m:Int)),some (.int (h:Int)),some (.int (w:Int)),some (.ref Du),none,none,none,none,none,none,none]/\Same H H'/\H' Du=some (.lst (VI m (fun x=>Gj (Do ns 3) (x+1))))) ?_ fun key=>?_
   rotate_left
   . exact ⟨_,rfl,a,ns,3,rfl,hS,by decide,hl,_,rfl,_,m,rfl,hm,fun L H' s hL=>key _ _ ⟨L,rfl,s,hL⟩⟩
   rintro _ H1 ⟨Du,rfl,s1,hDu⟩
   have dpos:∀ x,x<m->0<(fun x=>Gj (Do ns 3) (x+1)) x:=fun x _=>(T3 _ _).1
   have dle:∀ x,x<m->((fun x=>Gj (Do ns 3) (x+1)) x).natAbs<=2 ^ 30:=fun x hx=>Ap6 (by omega)
   have dch:∀ x y,x<y->y<m->(fun x=>Gj (Do ns 3) (x+1)) x∣(fun x=>Gj (Do ns 3) (x+1)) y:=fun x y hxy _=>by
    have:=Vz (Do ns 3) (x+1) (y-x)
    rw [show x+1+(y-x)=y+1 by omega] at this
    exact this
   generalize (fun x=>Gj (Do ns 3) (x+1))=d at hDu dpos dle dch
   refine An (fun σ' H'=>∃ tv:V,σ'=[some (.ref a),some (.int (m:Int)),some (.int (h:Int)),some (.int (w:Int)),some (.ref Du),some tv,none,none,none,none,none,none]/\Same H1 H'/\Rep K H' tv (dT h w (Lat.lay m d))) ?_ fun key=>?_
   rotate_left
   . exact ⟨_,rfl,_,rfl,_,rfl,Du,m,h,w,d,rfl,.of hDu,mw,by omega,by omega,fun D as H' hal R=>key _ _ ⟨.ref D,rfl,R.same,R.rep hal⟩⟩
   rintro _ H2 ⟨tv0,rfl,s2,rv0⟩
   refine An (t:=tFor _ _ _) (fun σ' G=>∃ (tv:V) (A:Lat.Mat) (o6 o7 o8 o9:Option V),σ'=[some (.ref a),some (.int (m:Int)),some (.int (h:Int)),some (.int (w:Int)),some (.ref Du),some tv,o6,o7,o8,o9,none,none]/\Same H2 G/\Rep K G tv (dT h w A)/\Gv h w m d 16 A) ?_ fun key=>?_
   rotate_left
   . refine⟨_,rfl,_,rfl,_,rfl,a,_,rfl,(s1.trans s2).seq hS,fun C hC=>?_⟩
     rw [Aq6]
     have hcl:=A94 ns
     have hcm:∀ x∈cutI ns (some 4) (some 20),x.natAbs<2 ^ Gq:=fun x hx=>hbit x (Aq7 hx)
     generalize cutI ns (some 4) (some 20)=cs at hcl hcm
     have sC:Same H2 (upd H2 C (.lst (cs.map V.int))):=Same.new hC
     have hC0:upd H2 C (.lst (cs.map V.int)) C=some (.lst (cs.map V.int)):=Ag
     generalize upd H2 C (.lst (cs.map V.int))=G0 at sC hC0
     refine⟨C,rfl,⟨_,.of hC0⟩,for_list (K:=K) (a:=C) (xs:=cs.map V.int) (fun i σ' G=>∃ (tv:V) (A:Lat.Mat) (o6 o7 o8 o9:Option V),σ'=[some (.ref a),some (.int (m:Int)),some (.int (h:Int)),some (.int (w:Int)),some (.ref Du),some tv,o6,o7,o8,o9,none,none]/\Same G0 G/\Rep K G tv (dT h w A)/\Gv h w m d i A)
      ⟨tv0,_,none,none,none,none,rfl,Same.refl _,Rep.same sC rv0,Gv.first hm dle⟩ (fun i σ G _ ⟨_,_,_,_,_,_,_,s,_⟩=>.of (s _ _ hC0)) ?_ ?_⟩
     . rintro i v σ G hv ⟨tv,A,o6,o7,o8,o9,rfl,s,rv,bt⟩
       have hi:i<cs.length:=by have:=(List.getElem?_eq_some_iff.mp hv).1;simpa using this
       rw [List.getElem?_map,List.getElem?_eq_getElem hi] at hv
       cases hv
       have hcb:=hcm _ (List.getElem_mem hi)
       generalize cs[i]=c at hcb
       dsimp only [Ay8]
       refine An (fun σ' G'=>∃ b:Bool,σ'=[some (.ref a),some (.int (m:Int)),some (.int (h:Int)),some (.int (w:Int)),some (.ref Du),some tv,some (.int c),some (.bl b),o8,o9,none,none]/\G=G') ?_ fun key=>?_
       rotate_left
       . exact ⟨_,rfl,_,_,rfl,rfl,(by show (0:Int)<2;decide),rfl,key _ _ ⟨_,rfl,rfl⟩⟩
       rintro _ _ ⟨b,rfl,rfl⟩
       refine An (fun σ' G'=>σ'=[some (.ref a),some (.int (m:Int)),some (.int (h:Int)),some (.int (w:Int)),some (.ref Du),some tv,some (.int c),some (.bl b),some (.int (w:Int)),o9,none,none]/\G=G') ?_ fun key=>?_
       rotate_left
       . exact ⟨_,rfl,key _ _ ⟨rfl,rfl⟩⟩
       rintro _ _ ⟨rfl,rfl⟩
       refine An (t:=tIfS _ _ _) (fun σ' G'=>σ'=[some (.ref a),some (.int (m:Int)),some (.int (h:Int)),some (.int (w:Int)),some (.ref Du),some tv,some (.int c),some (.bl b),some (.int ((if b then h else w:Nat):Int)),o9,none,none]/\G=G') ?_ fun key=>?_
       rotate_left
       . refine⟨_,rfl,_,rfl,?_⟩
         cases b with
         | true=>refine ifP rfl ?_;exact ⟨_,rfl,key _ _ ⟨rfl,rfl⟩⟩
         | false=>refine ifN (by decide) ?_;exact key _ _ ⟨rfl,rfl⟩
       rintro _ _ ⟨rfl,rfl⟩
       have hm60:(if b then h else w:Nat)<=60:=by cases b<;>simp<;>omega
       refine An (fun σ' G'=>∃ v,σ'=[some (.ref a),some (.int (m:Int)),some (.int (h:Int)),some (.int (w:Int)),some (.ref Du),some tv,some (.int c),some (.bl b),some (.int ((if b then h else w:Nat):Int)),some v,none,none]/\Same G G'/\(v=.non\/∃ t,okTn (if b then h else w) t/\tB 2 t/\Rep K G' v (dTn t))) ?_ fun key=>?_
       rotate_left
       . have hn1:0<=c*48271%1009%5:=Int.emod_nonneg _ (by decide)
         have hn2:c*48271%1009%5<5:=Int.emod_lt_of_pos _ (by decide)
         refine⟨_,rfl,_,_,rfl,rfl,⟨by decide,by decide⟩,_,rfl,_,rfl,_,_,rfl,rfl,Vv (m:=Gq) (n:=16) hcb (by decide) (by decide),_,_,rfl,rfl,(by show (0:Int)<1009;decide),_,_,rfl,rfl,(by show (0:Int)<5;decide),_,_,rfl,rfl,?_⟩
         refine⟨_,_,(if b then h else w),rfl,hm60,fun _=>key _ _ ⟨.non,rfl,Same.refl G,.inl rfl⟩,fun _ t v G' ht htb s rt=>key _ _ ⟨v,rfl,s,.inr ⟨t,ht,htb 2 (by show _<4;omega),rt⟩⟩⟩
       rintro _ G1 ⟨v,rfl,sv,hv⟩
       have rv1:=Rep.same sv rv
       refine⟨_,rfl,?_⟩
       rcases hv with rfl|⟨t,ht,htb,rt⟩
       . refine⟨rfl,_,rfl,?_⟩
         refine ifN (by simp) ?_
         exact ⟨tv,A,_,_,_,_,rfl,s.trans sv,rv1,bt.up⟩
       . obtain⟨va,rfl⟩:∃ va,v=.ref va:=by cases t<;>exact ⟨_,rt.choose_spec.choose_spec.1⟩
         refine⟨rfl,_,rfl,?_⟩
         refine ifP (by simp) ?_
         refine⟨_,rfl,_,rfl,_,rfl,_,rfl,tv,.ref va,h,w,95,A,b,t,rfl,rv1,rt,ht,bt.bits.mono (by omega),htb.mono (by omega),by decide,by omega,by omega,fun D G2 fD s2 r2=>?_⟩
         have r3:Rep K G2 (.ref D) (dT h w (if b then tnF t A else tnC t A)):=Rep.same Fd r2
         refine⟨.ref D,_,_,_,_,_,rfl,(s.trans sv).trans s2,r3,?_⟩
         cases b with
         | true=>exact bt.row ht htb
         | false=>exact bt.col ht htb
     . rintro σ G ⟨tv,A,o6,o7,o8,o9,rfl,s,rv,bt⟩
       have up:∀ j,cs.length+j<=16->Gv h w m d (cs.length+j) A:=fun j=>by
        induction j with
        | zero=>intro _;rw [List.length_map] at bt;exact bt
        | succ j ih=>intro q;exact (ih (by omega)).up
       have b16:=up (16-cs.length) (by omega)
       rw [show cs.length+(16-cs.length)=16 by omega] at b16
       exact key _ _ ⟨tv,A,o6,o7,o8,o9,rfl,sC.trans s,rv,b16⟩
   rintro _ H3 ⟨tv,A,o6,o7,o8,o9,rfl,s3,rv,bt⟩
   obtain⟨plan,planT⟩:=bt.plan (Nat.le_refl _) (show h<=5 by omega) hw
   obtain⟨due,dueT⟩:=bt.one mh mw dpos dch
   have hDu3:=s3 _ _ (s2 _ _ hDu)
   refine An (fun σ' H'=>∃ nm:Addr,σ'=[some (.ref a),some (.int (m:Int)),some (.int (h:Int)),some (.int (w:Int)),some (.ref Du),some tv,o6,o7,o8,o9,some (.ref nm),none]/\Same H3 H'/\H' nm=some (.lst (VI m d))) ?_ fun key=>?_
   rotate_left
   . refine⟨_,rfl,tv,h,w,A,rfl,rv,by omega,fun B bs H4 hbl R4=>?_⟩
     refine⟨_,rfl,.ref B,h,w,A,FinD h w A,rfl,R4.rep hbl,by omega,by omega,plan,fun tp nm r1 D1 D2 b2 k0 f l r H5 hF hC k1 k2 x=>?_⟩
     obtain⟨E,dg,hrest⟩:=id hF
     obtain⟨e,he⟩:=due _ _ _ _ hF hC
     subst e
     refine⟨tp,nm,r1,D1,D2,b2,h,w,k0,f,l,r,rfl,x.r,dg.pos,hC,key _ _ ⟨nm,rfl,R4.same.trans x.same,?_⟩⟩
     rw [←D9 he]
     exact x.num
   rintro _ H4 ⟨nm,rfl,s4,hnm⟩
   have rv4:=Rep.same s4 rv
   refine An (fun σ' H'=>∃ nm2:Addr,σ'=[some (.ref a),some (.int (m:Int)),some (.int (h:Int)),some (.int (w:Int)),some (.ref Du),some tv,o6,o7,o8,o9,some (.ref nm),some (.ref nm2)]/\Same H4 H'/\H' nm2=some (.lst (VI m d))) ?_ fun key=>?_
   rotate_left
   . refine⟨_,rfl,_,rfl,tv,h,w,A,rfl,rv4,by omega,by omega,fun F fs H5 hfl R5=>?_⟩
     refine⟨_,rfl,.ref F,w,h,_,FinD w h (Lat.tr A),rfl,R5.rep hfl,by omega,by omega,planT,fun tp nm r1 D1 D2 b2 k0 f l r H6 hF hC k1 k2 x=>?_⟩
     obtain⟨E,dg,hrest⟩:=id hF
     obtain⟨e,he⟩:=dueT _ _ _ _ hF hC
     subst e
     refine⟨tp,nm,r1,D1,D2,b2,w,h,k0,f,l,r,rfl,x.r,dg.pos,hC,key _ _ ⟨nm,rfl,R5.same.trans x.same,?_⟩⟩
     rw [←D9 he]
     exact x.num
   rintro _ H5 ⟨nm2,rfl,s5,hnm2⟩
   have rv5:=Rep.same s5 rv4
   have hDu5:=s5 _ _ (s4 _ _ hDu3)
   have hnm5:=s5 _ _ hnm
   refine An (t:=tIfS _ _ _) (fun σ' H'=>σ'=[some (.ref a),some (.int (m:Int)),some (.int (h:Int)),some (.int (w:Int)),some (.ref Du),some tv,o6,o7,o8,o9,some (.ref nm),some (.ref nm2)]/\H5=H') ?_ fun key=>?_
   rotate_left
   . refine⟨_,rfl,rfl,_,rfl,?_⟩
     refine ifN (by simp) ?_
     refine⟨_,rfl,rfl,_,rfl,?_⟩
     refine ifN (by simp) ?_
     refine⟨_,rfl,_,rfl,dL m d,dL m d,Uo (.of hnm5),Uo (.of hDu5),Ah5 _ _,_,rfl,?_⟩
     rw [Le]
     refine ifN (by simp) ?_
     refine⟨_,rfl,_,rfl,dL m d,dL m d,Uo (.of hnm2),Uo (.of hDu5),Ah5 _ _,_,rfl,?_⟩
     rw [Le]
     refine ifN (by simp) ?_
     exact key _ _ ⟨rfl,rfl⟩
   rintro _ _ ⟨rfl,rfl⟩
   refine⟨_,rfl,_,rfl,tv,h,w,A,FinD h w A,rfl,rv5,by omega,by omega,plan,fun k' f' l' r' H6 hF' hC' _ _ s6=>?_⟩
   obtain⟨e,_⟩:=due _ _ _ _ hF' hC'
   subst e
   refine⟨_,rfl,rfl,_,rfl,?_⟩
   refine ifP (by simp) ?_
   refine⟨_,rfl,_,rfl,tv,h,w,A,rfl,Rep.same s6 rv5,by omega,by omega,fun F fs H7 hfl R7=>?_⟩
   refine⟨_,rfl,.ref F,w,h,_,FinD w h (Lat.tr A),rfl,R7.rep hfl,by omega,by omega,planT,fun k2 f2 l2 r2 H8 hF2 hC2 _ _ s8=>?_⟩
   obtain⟨e2,_⟩:=dueT _ _ _ _ hF2 hC2
   subst e2
   refine⟨_,rfl,rfl,?_⟩
   rw [decide_eq_true rfl]
   exact k _
end
end Hb
namespace Hb
open PySem L2
theorem N5 {α:Type}{P:List α->Prop} (h:∀ a0,P [a0]) (us:List α) (hl:us.length=1):P us:=by
 cases us with
 | nil=>exact nomatch hl
 | cons a0 u0 =>
   cases u0 with
   | nil=>exact h a0
   | cons _ _=>simp at hl
theorem Ji {α:Type}{P:List α->Prop} (h:∀ a0 a1,P [a0,a1]) (us:List α) (hl:us.length=2):P us:=by
 cases us with
 | nil=>exact nomatch hl
 | cons a0 u0 =>
   cases u0 with
   | nil=>exact nomatch hl
   | cons a1 u1 =>
     cases u1 with
     | nil=>exact h a0 a1
     | cons _ _=>simp at hl
theorem Rp {α:Type}{P:List α->Prop} (h:∀ a0 a1 a2,P [a0,a1,a2]) (us:List α) (hl:us.length=3):P us:=by
 cases us with
 | nil=>exact nomatch hl
 | cons a0 u0 =>
   cases u0 with
   | nil=>exact nomatch hl
   | cons a1 u1 =>
     cases u1 with
     | nil=>exact nomatch hl
     | cons a2 u2 =>
       cases u2 with
       | nil=>exact h a0 a1 a2
       | cons _ _=>simp at hl
theorem A54 {α:Type}{P:List α->Prop} (h:∀ a0 a1 a2 a3,P [a0,a1,a2,a3]) (us:List α) (hl:us.length=4):P us:=by
 cases us with
 | nil=>exact nomatch hl
 | cons a0 u0 =>
   cases u0 with
   | nil=>exact nomatch hl
   | cons a1 u1 =>
     cases u1 with
     | nil=>exact nomatch hl
     | cons a2 u2 =>
       cases u2 with
       | nil=>exact nomatch hl
       | cons a3 u3 =>
         cases u3 with
         | nil=>exact h a0 a1 a2 a3
         | cons _ _=>simp at hl
theorem A53 {α:Type}{P:List α->Prop} (h:∀ a0 a1 a2 a3 a4,P [a0,a1,a2,a3,a4]) (us:List α) (hl:us.length=5):P us:=by
 cases us with
 | nil=>exact nomatch hl
 | cons a0 u0 =>
   cases u0 with
   | nil=>exact nomatch hl
   | cons a1 u1 =>
     cases u1 with
     | nil=>exact nomatch hl
     | cons a2 u2 =>
       cases u2 with
       | nil=>exact nomatch hl
       | cons a3 u3 =>
         cases u3 with
         | nil=>exact nomatch hl
         | cons a4 u4 =>
           cases u4 with
           | nil=>exact h a0 a1 a2 a3 a4
           | cons _ _=>simp at hl
set_option maxHeartbeats 4000000 in
theorem all_mk {l:PySem.W.OpenLaw}{w:World}{K:W.Frag}{h:Heap}{mg:Str->Option Value}{fa:Addr}{Ad:Addr}
 {Ab:Addr}
 {Ae:Addr}
 {Mp:Addr}{Xz Y4:Option Addr}{Xa:Array (Option Value)}{X5 Ye Yo Xm Qc Yv:Value}
 {Ek:Addr}{Mb Mw:Option Addr}{L1:Array (Option Value)}{Mc Mg Mu L7 F9 Mv:Value}
 {Uc:Addr}{Ad1 Al5:Option Addr}{y9:Array (Option Value)}{Ad7 Af6 Ai0 Ab3 Wl Ai7:Value}
 {Pz:Addr}{i8 u5:Option Addr}{c6:Array (Option Value)}{j5 m9 p7 f9 Sn r6:Value}
 {Yk:Addr}{Ao5 Ar3:Option Addr}{An3:Array (Option Value)}{Ao6 Ap7 Aq5 An9 Z0 Aq8:Value}
 {Ud:Addr}{Ad2 Al6:Option Addr}{z6:Array (Option Value)}{Ad8 Af7 Ai1 Ab4 Wm Ai8:Value}
 {C3:Addr}{Pf Qm:Option Addr}{Oy:Array (Option Value)}{Ph Pq P6 Pa Hn P8:Value}
 {Mo:Addr}{Xy Y3:Option Addr}{W9:Array (Option Value)}{X4 Yd Yn Xl Qb Yu:Value}
 {Go:Addr}{Ra Ry:Option Addr}{Qu:Array (Option Value)}{Rf Rl Rq Q3 Jz Ru:Value}
 {P1:Addr}{j3 u7:Option Addr}{c8:Array (Option Value)}{j7 n6 p9 g7 Sq t3:Value}
 {Ki:Addr}{Vp W1:Option Addr}{U4:Array (Option Value)}{Vs V2 Wg Vc M4 Wj:Value}
 {Ug:Addr}{Ad5 Al9:Option Addr}{z9:Array (Option Value)}{Ae1 Ag0 Ai4 Ab7 Wp Aj1:Value}
 {Kh:Addr}{Vo W0:Option Addr}{U3:Array (Option Value)}{Vr V1 Wf Vb M3 Wi:Value}
 {Uf:Addr}{Ad4 Al8:Option Addr}{z8:Array (Option Value)}{Ae0 Af9 Ai3 Ab6 Wo Aj0:Value}
 {Mt:Addr}{X3 Y8:Option Addr}{Xe:Array (Option Value)}{X9 Yi Ys Xq Qg Yz:Value}
 {Ue:Addr}{Ad3 Al7:Option Addr}{z7:Array (Option Value)}{Ad9 Af8 Ai2 Ab5 Wn Ai9:Value}
 {Db:Addr}{I0 Jq:Option Addr}{Il:Array (Option Value)}{Jc Jf Jj Iu Eo Jm:Value}
 {P0:Addr}{i9 u6:Option Addr}{c7:Array (Option Value)}{j6 n0 p8 g6 So t0:Value}
 {Ah0:Addr}{Ax1 A03:Option Addr}{Au5:Array (Option Value)}{Ax3 Ay4 Az4 Av6 Ak0 Az6:Value}
 {Ub:Addr}{Ad0 Al4:Option Addr}{y8:Array (Option Value)}{Ad6 Af5 Ah9 Ab2 Wk Ai6:Value}
 {Dn:Addr}{Re R8:Option Addr}{Qx:Array (Option Value)}{Ri Ro Rt Q6 J4 Rx:Value}
 {Dm:Addr}{Nr Og:Option Addr}{M9:Array (Option Value)}{Nw N3 N8 Ni G7 Oc:Value}
 {Fe:Addr}{Nt Oh:Option Addr}{Na:Array (Option Value)}{Ny N4 N9 Nj G8 Od:Value}
 {Fy:Addr}{Pg Qn:Option Addr}{Oz:Array (Option Value)}{Pi Pr P7 Pb Ho P9:Value}
 {Mq:Addr}{X0 Y5:Option Addr}{Xb:Array (Option Value)}{X6 Yf Yp Xn Qd Yw:Value}
 {Ef:Addr}{Tv Uv:Option Addr}{Tg:Array (Option Value)}{Tx T6 Um Tr Ll Uq:Value}
 {Ev:Addr}{Rb Rz:Option Addr}{Qv:Array (Option Value)}{Rg Rm Rr Q4 J0 Rv:Value}
 {Ms:Addr}{X2 Y7:Option Addr}{Xd:Array (Option Value)}{X8 Yh Yr Xp Qf Yy:Value}
 {Ce:Addr}{Jb Js:Option Addr}{Io:Array (Option Value)}{Je Jh Jl Iw Er Jo:Value}
 {Fn:Addr}{Tu Uu:Option Addr}{Tf:Array (Option Value)}{Tw T5 Ul Tq Lk Up:Value}
 {Ew:Addr}{Rc R6:Option Addr}{Qw:Array (Option Value)}{Rh Rn Rs Q5 J3 Rw:Value}
 {Dk:Addr}{Np Oe:Option Addr}{M7:Array (Option Value)}{Nu N1 N6 Ng Gz Oa:Value}
 {Cd:Addr}{Ja Jr:Option Addr}{Im:Array (Option Value)}{Jd Jg Jk Iv Ep Jn:Value}
 {Dl:Addr}{Nq Of:Option Addr}{M8:Array (Option Value)}{Nv N2 N7 Nh G6 Ob:Value}
 {Py:Addr}{i7 t9:Option Addr}{c5:Array (Option Value)}{j4 m8 p6 f8 Sm q9:Value}
 {Gp:Addr}{Vn Wz:Option Addr}{U2:Array (Option Value)}{Vq V0 We Va M1 Wh:Value}
 {Cs:Addr}{K3 Ln:Option Addr}{Kr:Array (Option Value)}{K4 La Lh Kx Fp Lj:Value}
 {Mr:Addr}{X1 Y6:Option Addr}{Xc:Array (Option Value)}{X7 Yg Yq Xo Qe Yx:Value}
 {Ag9:Addr}{Ax0 A02:Option Addr}{Au4:Array (Option Value)}{Ax2 Ay3 Az3 Av5 Aj9 Az5:Value}
 {Az1:Addr}{A31 At6:Option Addr}{A17:Array (Option Value)}{A32 At0 At3 As2 Ak1 At4:Value}
 {t_MOST_ROWS:Tok}
 {fc_GAPS:Addr}{nc_GAPS:Nat}{slc_GAPS:Array (Option Value)}{tc_GAPS_0 tc_GAPS_1 tc_GAPS_2 tc_GAPS_3 tc_GAPS_4:Tok}
 (X:K.In h) (G:h.Ns mainGlobals mg) (hfa:mg "law"=some (.ref fa))
 (ac_Lines:PySem.W.nsIn K mainGlobals "Lines"=some (some (.ref Ad)))
 (ac_Stairs:PySem.W.nsIn K mainGlobals "Stairs"=some (some (.ref Ab)))
 (ac_Work:PySem.W.nsIn K mainGlobals "Work"=some (some (.ref Ae)))
 (zq38:PySem.W.nsIn K mainGlobals "is_whole"=some (some (.ref Mp)))
 (zq2w:K.lookup Mp=some ⟨X5,Xz,.func (PySem.W.fnOf "is_whole" "is_whole" (Ax E3) (Aw E3) (Aj E3) .none Ye Yo Xm Y4 Qc Yv),Xa⟩)
 (zq32:PySem.W.codeIn K Qc "is_whole"=true)
 (zq2d:PySem.W.keepIn K (.ref Mp)=true)
 (zq0x:PySem.W.nsIn K mainGlobals "shared_divisor"=some (some (.ref Ek)))
 (zq0s:K.lookup Ek=some ⟨Mc,Mb,.func (PySem.W.fnOf "shared_divisor" "shared_divisor" (Ax Bv) (Aw Bv) (Aj Bv) .none Mg Mu L7 Mw F9 Mv),L1⟩)
 (zq0w:PySem.W.codeIn K F9 "shared_divisor"=true)
 (zq06:PySem.W.keepIn K (.ref Ek)=true)
 (zq49:PySem.W.nsIn K mainGlobals "column"=some (some (.ref Uc)))
 (zq3w:K.lookup Uc=some ⟨Ad7,Ad1,.func (PySem.W.fnOf "column" "column" (Ax Hz) (Aw Hz) (Aj Hz) .none Af6 Ai0 Ab3 Al5 Wl Ai7),y9⟩)
 (zq43:PySem.W.codeIn K Wl "column"=true)
 (zq3e:PySem.W.keepIn K (.ref Uc)=true)
 (zq3s:PySem.W.nsIn K mainGlobals "one_row"=some (some (.ref Pz)))
 (zq3k:K.lookup Pz=some ⟨j5,i8,.func (PySem.W.fnOf "one_row" "one_row" (Ax F2) (Aw F2) (Aj F2) .none m9 p7 f9 u5 Sn r6),c6⟩)
 (zq3o:PySem.W.codeIn K Sn "one_row"=true)
 (zq2s:PySem.W.keepIn K (.ref Pz)=true)
 (zq4g:PySem.W.nsIn K mainGlobals "mixed"=some (some (.ref Yk)))
 (zq4e:K.lookup Yk=some ⟨Ao6,Ao5,.func (PySem.W.fnOf "mixed" "mixed" (Ax L5) (Aw L5) (Aj L5) .none Ap7 Aq5 An9 Ar3 Z0 Aq8),An3⟩)
 (zq4f:PySem.W.codeIn K Z0 "mixed"=true)
 (zq41:PySem.W.keepIn K (.ref Yk)=true)
 (zq4a:PySem.W.nsIn K mainGlobals "across"=some (some (.ref Ud)))
 (zq3x:K.lookup Ud=some ⟨Ad8,Ad2,.func (PySem.W.fnOf "across" "across" (Ax Ia) (Aw Ia) (Aj Ia) .none Af7 Ai1 Ab4 Al6 Wm Ai8),z6⟩)
 (zq44:PySem.W.codeIn K Wm "across"=true)
 (zq3f:PySem.W.keepIn K (.ref Ud)=true)
 (zq1m:PySem.W.findIn K (.ref Ad) "__init__"=some (some (.ref C3)))
 (zq16:PySem.W.isFn K (.ref C3)=true)
 (zq1g:K.lookup C3=some ⟨Ph,Pf,.func (PySem.W.fnOf "__init__" "Lines.__init__" (Ax Ch) (Aw Ch) (Aj Ch) .none Pq P6 Pa Qm Hn P8),Oy⟩)
 (zq1k:PySem.W.codeIn K Hn "Lines.__init__"=true)
 (zq0o:PySem.W.keepIn K (.ref C3)=true)
 (zq37:PySem.W.nsIn K mainGlobals "start_of"=some (some (.ref Mo)))
 (zq2v:K.lookup Mo=some ⟨X4,Xy,.func (PySem.W.fnOf "start_of" "start_of" (Ax E2) (Aw E2) (Aj E2) .none Yd Yn Xl Y3 Qb Yu),W9⟩)
 (zq31:PySem.W.codeIn K Qb "start_of"=true)
 (zq2c:PySem.W.keepIn K (.ref Mo)=true)
 (zq21:PySem.W.nsIn K mainGlobals "is_straight"=some (some (.ref Go)))
 (zq1o:K.lookup Go=some ⟨Rf,Ra,.func (PySem.W.fnOf "is_straight" "is_straight" (Ax Co) (Aw Co) (Aj Co) .none Rl Rq Q3 Ry Jz Ru),Qu⟩)
 (zq1x:PySem.W.codeIn K Jz "is_straight"=true)
 (zq0y:PySem.W.keepIn K (.ref Go)=true)
 (zq3u:PySem.W.nsIn K mainGlobals "_law_whole"=some (some (.ref P1)))
 (zq3m:K.lookup P1=some ⟨j7,j3,.func (PySem.W.fnOf "_law_whole" "_law_whole" (Ax F4) (Aw F4) (Aj F4) .none n6 p9 g7 u7 Sq t3),c8⟩)
 (zq3q:PySem.W.codeIn K Sq "_law_whole"=true)
 (zq2u:PySem.W.keepIn K (.ref P1)=true)
 (zq2q:PySem.W.nsIn K mainGlobals "_law_cell_at"=some (some (.ref Ki)))
 (zq2k:K.lookup Ki=some ⟨Vs,Vp,.func (PySem.W.fnOf "_law_cell_at" "_law_cell_at" (Ax Ds) (Aw Ds) (Aj Ds) .none V2 Wg Vc W1 M4 Wj),U4⟩)
 (zq2n:PySem.W.codeIn K M4 "_law_cell_at"=true)
 (zq1v:PySem.W.keepIn K (.ref Ki)=true)
 (zq4d:PySem.W.nsIn K mainGlobals "_law_copy"=some (some (.ref Ug)))
 (zq40:K.lookup Ug=some ⟨Ae1,Ad5,.func (PySem.W.fnOf "_law_copy" "_law_copy" (Ax Id) (Aw Id) (Aj Id) .none Ag0 Ai4 Ab7 Al9 Wp Aj1),z9⟩)
 (zq47:PySem.W.codeIn K Wp "_law_copy"=true)
 (zq3i:PySem.W.keepIn K (.ref Ug)=true)
 (zq2p:PySem.W.nsIn K mainGlobals "_law_turn_by"=some (some (.ref Kh)))
 (zq2j:K.lookup Kh=some ⟨Vr,Vo,.func (PySem.W.fnOf "_law_turn_by" "_law_turn_by" (Ax Dr) (Aw Dr) (Aj Dr) .none V1 Wf Vb W0 M3 Wi),U3⟩)
 (zq2m:PySem.W.codeIn K M3 "_law_turn_by"=true)
 (zq1u:PySem.W.keepIn K (.ref Kh)=true)
 (zq4c:PySem.W.nsIn K mainGlobals "_law_flip"=some (some (.ref Uf)))
 (zq3z:K.lookup Uf=some ⟨Ae0,Ad4,.func (PySem.W.fnOf "_law_flip" "_law_flip" (Ax Ic) (Aw Ic) (Aj Ic) .none Af9 Ai3 Ab6 Al8 Wo Aj0),z8⟩)
 (zq46:PySem.W.codeIn K Wo "_law_flip"=true)
 (zq3h:PySem.W.keepIn K (.ref Uf)=true)
 (zq3c:PySem.W.nsIn K mainGlobals "_law_row_by"=some (some (.ref Mt)))
 (zq30:K.lookup Mt=some ⟨X9,X3,.func (PySem.W.fnOf "_law_row_by" "_law_row_by" (Ax E7) (Aw E7) (Aj E7) .none Yi Ys Xq Y8 Qg Yz),Xe⟩)
 (zq36:PySem.W.codeIn K Qg "_law_row_by"=true)
 (zq2h:PySem.W.keepIn K (.ref Mt)=true)
 (zq4b:PySem.W.nsIn K mainGlobals "_law_laid"=some (some (.ref Ue)))
 (zq3y:K.lookup Ue=some ⟨Ad9,Ad3,.func (PySem.W.fnOf "_law_laid" "_law_laid" (Ax Ib) (Aw Ib) (Aj Ib) .none Af8 Ai2 Ab5 Al7 Wn Ai9),z7⟩)
 (zq45:PySem.W.codeIn K Wn "_law_laid"=true)
 (zq3g:PySem.W.keepIn K (.ref Ue)=true)
 (zq0d:PySem.W.nsIn K mainGlobals "is_list_of_wholes"=some (some (.ref Db)))
 (zq07:K.lookup Db=some ⟨Jc,I0,.func (PySem.W.fnOf "is_list_of_wholes" "is_list_of_wholes" (Ax Bk) (Aw Bk) (Aj Bk) .none Jf Jj Iu Jq Eo Jm),Il⟩)
 (zq0a:PySem.W.codeIn K Eo "is_list_of_wholes"=true)
 (zq00:PySem.W.keepIn K (.ref Db)=true)
 (zq3t:PySem.W.nsIn K mainGlobals "flipped"=some (some (.ref P0)))
 (zq3l:K.lookup P0=some ⟨j6,i9,.func (PySem.W.fnOf "flipped" "flipped" (Ax F3) (Aw F3) (Aj F3) .none n0 p8 g6 u6 So t0),c7⟩)
 (zq3p:PySem.W.codeIn K So "flipped"=true)
 (zq2t:PySem.W.keepIn K (.ref P0)=true)
 (zq4o:PySem.W.nsIn K mainGlobals "ones"=some (some (.ref Ah0)))
 (zq4k:K.lookup Ah0=some ⟨Ax3,Ax1,.func (PySem.W.fnOf "ones" "ones" (Ax Sd) (Aw Sd) (Aj Sd) .none Ay4 Az4 Av6 A03 Ak0 Az6),Au5⟩)
 (zq4m:PySem.W.codeIn K Ak0 "ones"=true)
 (zq4i:PySem.W.keepIn K (.ref Ah0)=true)
 (zq48:PySem.W.nsIn K mainGlobals "turned"=some (some (.ref Ub)))
 (zq3v:K.lookup Ub=some ⟨Ad6,Ad0,.func (PySem.W.fnOf "turned" "turned" (Ax Hy) (Aw Hy) (Aj Hy) .none Af5 Ah9 Ab2 Al4 Wk Ai6),y8⟩)
 (zq42:PySem.W.codeIn K Wk "turned"=true)
 (zq3d:PySem.W.keepIn K (.ref Ub)=true)
 (zq24:PySem.W.findIn K (.ref Ad) "blend"=some (some (.ref Dn)))
 (zq0q:PySem.W.isFn K (.ref Dn)=true)
 (zq1r:K.lookup Dn=some ⟨Ri,Re,.func (PySem.W.fnOf "blend" "Lines.blend" (Ax Cr) (Aw Cr) (Aj Cr) .none Ro Rt Q6 R8 J4 Rx),Qx⟩)
 (zq20:PySem.W.codeIn K J4 "Lines.blend"=true)
 (zq0i:PySem.W.keepIn K (.ref Dn)=true)
 (zq1d:PySem.W.findIn K (.ref Ab) "__init__"=some (some (.ref Dm)))
 (zq0v:PySem.W.isFn K (.ref Dm)=true)
 (zq13:K.lookup Dm=some ⟨Nw,Nr,.func (PySem.W.fnOf "__init__" "Stairs.__init__" (Ax B7) (Aw B7) (Aj B7) .none N3 N8 Ni Og G7 Oc),M9⟩)
 (zq19:PySem.W.codeIn K G7 "Stairs.__init__"=true)
 (zq15:PySem.W.keepIn K (.ref Dm)=true)
 (zq1e:PySem.W.nsIn K mainGlobals "_law_rows_turned"=some (some (.ref Fe)))
 (zq14:K.lookup Fe=some ⟨Ny,Nt,.func (PySem.W.fnOf "_law_rows_turned" "_law_rows_turned" (Ax B8) (Aw B8) (Aj B8) .none N4 N9 Nj Oh G8 Od),Na⟩)
 (zq1a:PySem.W.codeIn K G8 "_law_rows_turned"=true)
 (zq0j:PySem.W.keepIn K (.ref Fe)=true)
 (zq1n:PySem.W.nsIn K mainGlobals "_law_numbers_of"=some (some (.ref Fy)))
 (zq1h:K.lookup Fy=some ⟨Pi,Pg,.func (PySem.W.fnOf "_law_numbers_of" "_law_numbers_of" (Ax Ci) (Aw Ci) (Aj Ci) .none Pr P7 Pb Qn Ho P9),Oz⟩)
 (zq1l:PySem.W.codeIn K Ho "_law_numbers_of"=true)
 (zq0p:PySem.W.keepIn K (.ref Fy)=true)
 (zq39:PySem.W.nsIn K mainGlobals "is_table"=some (some (.ref Mq)))
 (zq2x:K.lookup Mq=some ⟨X6,X0,.func (PySem.W.fnOf "is_table" "is_table" (Ax E4) (Aw E4) (Aj E4) .none Yf Yp Xn Y5 Qd Yw),Xb⟩)
 (zq33:PySem.W.codeIn K Qd "is_table"=true)
 (zq2e:PySem.W.keepIn K (.ref Mq)=true)
 (zq2b:PySem.W.findIn K (.ref Ad) "turn"=some (some (.ref Ef)))
 (zq10:PySem.W.isFn K (.ref Ef)=true)
 (zq26:K.lookup Ef=some ⟨Tx,Tv,.func (PySem.W.fnOf "turn" "Lines.turn" (Ax Dd) (Aw Dd) (Aj Dd) .none T6 Um Tr Uv Ll Uq),Tg⟩)
 (zq29:PySem.W.codeIn K Ll "Lines.turn"=true)
 (zq0r:PySem.W.keepIn K (.ref Ef)=true)
 (zq22:PySem.W.findIn K (.ref Ae) "__init__"=some (some (.ref Ev)))
 (zq1i:PySem.W.isFn K (.ref Ev)=true)
 (zq1p:K.lookup Ev=some ⟨Rg,Rb,.func (PySem.W.fnOf "__init__" "Work.__init__" (Ax Cp) (Aw Cp) (Aj Cp) .none Rm Rr Q4 Rz J0 Rv),Qv⟩)
 (zq1y:PySem.W.codeIn K J0 "Work.__init__"=true)
 (zq1t:PySem.W.keepIn K (.ref Ev)=true)
 (zq3b:PySem.W.nsIn K mainGlobals "_law_turned"=some (some (.ref Ms)))
 (zq2z:K.lookup Ms=some ⟨X8,X2,.func (PySem.W.fnOf "_law_turned" "_law_turned" (Ax E6) (Aw E6) (Aj E6) .none Yh Yr Xp Y7 Qf Yy),Xd⟩)
 (zq35:PySem.W.codeIn K Qf "_law_turned"=true)
 (zq2g:PySem.W.keepIn K (.ref Ms)=true)
 (zq0f:PySem.W.findIn K (.ref Ab) "shrink_row"=some (some (.ref Ce)))
 (zq05:PySem.W.isFn K (.ref Ce)=true)
 (zq09:K.lookup Ce=some ⟨Je,Jb,.func (PySem.W.fnOf "shrink_row" "Stairs.shrink_row" (Ax Bm) (Aw Bm) (Aj Bm) .none Jh Jl Iw Js Er Jo),Io⟩)
 (zq0c:PySem.W.codeIn K Er "Stairs.shrink_row"=true)
 (zq02:PySem.W.keepIn K (.ref Ce)=true)
 (zq2a:PySem.W.findIn K (.ref Ae) "share"=some (some (.ref Fn)))
 (zq1w:PySem.W.isFn K (.ref Fn)=true)
 (zq25:K.lookup Fn=some ⟨Tw,Tu,.func (PySem.W.fnOf "share" "Work.share" (Ax Dc) (Aw Dc) (Aj Dc) .none T5 Ul Tq Uu Lk Up),Tf⟩)
 (zq28:PySem.W.codeIn K Lk "Work.share"=true)
 (zq1f:PySem.W.keepIn K (.ref Fn)=true)
 (zq23:PySem.W.findIn K (.ref Ab) "meet"=some (some (.ref Ew)))
 (zq1j:PySem.W.isFn K (.ref Ew)=true)
 (zq1q:K.lookup Ew=some ⟨Rh,Rc,.func (PySem.W.fnOf "meet" "Stairs.meet" (Ax Cq) (Aw Cq) (Aj Cq) .none Rn Rs Q5 R6 J3 Rw),Qw⟩)
 (zq1z:PySem.W.codeIn K J3 "Stairs.meet"=true)
 (zq0z:PySem.W.keepIn K (.ref Ew)=true)
 (zq1b:PySem.W.findIn K (.ref Ab) "shrink"=some (some (.ref Dk)))
 (zq0t:PySem.W.isFn K (.ref Dk)=true)
 (zq11:K.lookup Dk=some ⟨Nu,Np,.func (PySem.W.fnOf "shrink" "Stairs.shrink" (Ax B5) (Aw B5) (Aj B5) .none N1 N6 Ng Oe Gz Oa),M7⟩)
 (zq17:PySem.W.codeIn K Gz "Stairs.shrink"=true)
 (zq0g:PySem.W.keepIn K (.ref Dk)=true)
 (zq0e:PySem.W.findIn K (.ref Ae) "put_in_order"=some (some (.ref Cd)))
 (zq04:PySem.W.isFn K (.ref Cd)=true)
 (zq08:K.lookup Cd=some ⟨Jd,Ja,.func (PySem.W.fnOf "put_in_order" "Work.put_in_order" (Ax Bl) (Aw Bl) (Aj Bl) .none Jg Jk Iv Jr Ep Jn),Im⟩)
 (zq0b:PySem.W.codeIn K Ep "Work.put_in_order"=true)
 (zq01:PySem.W.keepIn K (.ref Cd)=true)
 (zq1c:PySem.W.findIn K (.ref Ab) "put_in"=some (some (.ref Dl)))
 (zq0u:PySem.W.isFn K (.ref Dl)=true)
 (zq12:K.lookup Dl=some ⟨Nv,Nq,.func (PySem.W.fnOf "put_in" "Stairs.put_in" (Ax B6) (Aw B6) (Aj B6) .none N2 N7 Nh Of G6 Ob),M8⟩)
 (zq18:PySem.W.codeIn K G6 "Stairs.put_in"=true)
 (zq0h:PySem.W.keepIn K (.ref Dl)=true)
 (zq3r:PySem.W.nsIn K mainGlobals "stepped"=some (some (.ref Py)))
 (zq3j:K.lookup Py=some ⟨j4,i7,.func (PySem.W.fnOf "stepped" "stepped" (Ax F1) (Aw F1) (Aj F1) .none m8 p6 f8 t9 Sm q9),c5⟩)
 (zq3n:PySem.W.codeIn K Sm "stepped"=true)
 (zq2r:PySem.W.keepIn K (.ref Py)=true)
 (zq2o:PySem.W.findIn K (.ref Ae) "step"=some (some (.ref Gp)))
 (zq27:PySem.W.isFn K (.ref Gp)=true)
 (zq2i:K.lookup Gp=some ⟨Vq,Vn,.func (PySem.W.fnOf "step" "Work.step" (Ax Dq) (Aw Dq) (Aj Dq) .none V0 We Va Wz M1 Wh),U2⟩)
 (zq2l:PySem.W.codeIn K M1 "Work.step"=true)
 (zq1s:PySem.W.keepIn K (.ref Gp)=true)
 (zq0n:PySem.W.findIn K (.ref Ae) "straighten"=some (some (.ref Cs)))
 (zq0k:PySem.W.isFn K (.ref Cs)=true)
 (zq0l:K.lookup Cs=some ⟨K4,K3,.func (PySem.W.fnOf "straighten" "Work.straighten" (Ax Bs) (Aw Bs) (Aj Bs) .none La Lh Kx Ln Fp Lj),Kr⟩)
 (zq0m:PySem.W.codeIn K Fp "Work.straighten"=true)
 (zq03:PySem.W.keepIn K (.ref Cs)=true)
 (zq3a:PySem.W.nsIn K mainGlobals "diagonal"=some (some (.ref Mr)))
 (zq2y:K.lookup Mr=some ⟨X7,X1,.func (PySem.W.fnOf "diagonal" "diagonal" (Ax E5) (Aw E5) (Aj E5) .none Yg Yq Xo Y6 Qe Yx),Xc⟩)
 (zq34:PySem.W.codeIn K Qe "diagonal"=true)
 (zq2f:PySem.W.keepIn K (.ref Mr)=true)
 (zq4n:PySem.W.nsIn K mainGlobals "rank"=some (some (.ref Ag9)))
 (zq4j:K.lookup Ag9=some ⟨Ax2,Ax0,.func (PySem.W.fnOf "rank" "rank" (Ax Sc) (Aw Sc) (Aj Sc) .none Ay3 Az3 Av5 A02 Aj9 Az5),Au4⟩)
 (zq4l:PySem.W.codeIn K Aj9 "rank"=true)
 (zq4h:PySem.W.keepIn K (.ref Ag9)=true)
 (zq4s:PySem.W.nsIn K mainGlobals "law"=some (some (.ref Az1)))
 (zq4p:K.lookup Az1=some ⟨A32,A31,.func (PySem.W.fnOf "law" "law" (Ax Q2) (Aw Q2) (Aj Q2) .none At0 At3 As2 At6 Ak1 At4),A17⟩)
 (zq4r:PySem.W.codeIn K Ak1 "law"=true)
 (zq4q:PySem.W.keepIn K (.ref Az1)=true)
 (a_Stairs_blend:PySem.W.findIn K (.ref Ab) "blend"=some (some (.ref Dn)))
 (a_Stairs_turn:PySem.W.findIn K (.ref Ab) "turn"=some (some (.ref Ef)))
 (ird_Lines:PySem.W.readsIn K Ad (.type "type")=true)
 (ifc_Lines:PySem.W.findCls K (.ref Ad) (.type "type") "__init__"=some (.val (.ref C3)))
 (iga_Lines:PySem.W.specialIn K (.ref Ad) "__getattribute__"=some (some (.builtin "type.__getattribute__")))
 (mk_Lines:PySem.W.makesIn K Ad=true)
 (kc_Lines:PySem.W.keepIn K (.ref Ad)=true)
 (mk_Stairs:PySem.W.makesIn K Ab=true)
 (kc_Stairs:PySem.W.keepIn K (.ref Ab)=true)
 (mk_Work:PySem.W.makesIn K Ae=true)
 (kc_Work:PySem.W.keepIn K (.ref Ae)=true)
 (pg_Lines:PySem.W.plainGet K Ad Str.empty=true)
 (hd_Lines:PySem.W.hasDictIn K Ad=true)
 (po_Lines:PySem.W.plainOver K Ad=true)
 (sa_Lines:PySem.W.findIn K (.ref Ad) "__setattr__"=some (some (.builtin "object.__setattr__")))
 (na_Lines_rows:PySem.W.findIn K (.ref Ad) "rows"=some none)
 (na_Lines_backs:PySem.W.findIn K (.ref Ad) "backs"=some none)
 (pg_Stairs:PySem.W.plainGet K Ab Str.empty=true)
 (hd_Stairs:PySem.W.hasDictIn K Ab=true)
 (po_Stairs:PySem.W.plainOver K Ab=true)
 (sa_Stairs:PySem.W.findIn K (.ref Ab) "__setattr__"=some (some (.builtin "object.__setattr__")))
 (na_Stairs_rows:PySem.W.findIn K (.ref Ab) "rows"=some none)
 (na_Stairs_backs:PySem.W.findIn K (.ref Ab) "backs"=some none)
 (na_Stairs_starts:PySem.W.findIn K (.ref Ab) "starts"=some none)
 (pg_Work:PySem.W.plainGet K Ae Str.empty=true)
 (hd_Work:PySem.W.hasDictIn K Ae=true)
 (po_Work:PySem.W.plainOver K Ae=true)
 (sa_Work:PySem.W.findIn K (.ref Ae) "__setattr__"=some (some (.builtin "object.__setattr__")))
 (na_Work_table:PySem.W.findIn K (.ref Ae) "table"=some none)
 (na_Work_width:PySem.W.findIn K (.ref Ae) "width"=some none)
 (na_Work_left:PySem.W.findIn K (.ref Ae) "left"=some none)
 (na_Work_right:PySem.W.findIn K (.ref Ae) "right"=some none)
 (na_Work_numbers:PySem.W.findIn K (.ref Ae) "numbers"=some none)
 (ac_GAPS:PySem.W.nsIn K mainGlobals "GAPS"=some (some (.ref fc_GAPS)))
 (lc_GAPS:K.lookup fc_GAPS=some ⟨.type "tuple",none,.seq #[.int 32 tc_GAPS_0,.int 16 tc_GAPS_1,.int 8 tc_GAPS_2,.int 4 tc_GAPS_3,.int 2 tc_GAPS_4] nc_GAPS,slc_GAPS⟩)
 (aq_MOST_ROWS:PySem.W.nsIn K mainGlobals "MOST_ROWS"=some (some (.int 40 t_MOST_ROWS)))
 (z_isinstance:PySem.W.nsIn K mainGlobals "isinstance"=some none)
 (z_int:PySem.W.nsIn K mainGlobals "int"=some none)
 (z_bool:PySem.W.nsIn K mainGlobals "bool"=some none)
 (z_tuple:PySem.W.nsIn K mainGlobals "tuple"=some none)
 (z_zip:PySem.W.nsIn K mainGlobals "zip"=some none)
 (z_all:PySem.W.nsIn K mainGlobals "all"=some none)
 (z_list:PySem.W.nsIn K mainGlobals "list"=some none)
 (z_len:PySem.W.nsIn K mainGlobals "len"=some none)
 (z_range:PySem.W.nsIn K mainGlobals "range"=some none)
 (z_min:PySem.W.nsIn K mainGlobals "min"=some none)
 (z_enumerate:PySem.W.nsIn K mainGlobals "enumerate"=some none)
 (z_any:PySem.W.nsIn K mainGlobals "any"=some none) :
 ∃ fd:FuncData,(∀ (s:Shared) (v:Value),BindsTo s fd ⟨[v],[]⟩ [("_law_script",v)])/\∀ base:Heap,K.In base->base.Ns mainGlobals mg->FnOk l.prog w K mg base CX0 12 fa fd ["_law_script"] (S7 K):=by
 have e:=hfa.symm.trans (PySem.W.mg_of X G zq4s)
 cases e
 have T:Txt K mg Ad Ab Ae:=⟨PySem.W.mg_of X G ac_Lines,⟨pg_Lines,hd_Lines,po_Lines,sa_Lines⟩,na_Lines_rows,na_Lines_backs,PySem.W.mg_of X G ac_Stairs,⟨pg_Stairs,hd_Stairs,po_Stairs,sa_Stairs⟩,na_Stairs_rows,na_Stairs_backs,na_Stairs_starts,PySem.W.mg_of X G ac_Work,⟨pg_Work,hd_Work,po_Work,sa_Work⟩,na_Work_table,na_Work_width,na_Work_left,na_Work_right,na_Work_numbers,⟨fc_GAPS,PySem.W.mg_of X G ac_GAPS,fun H=>.inr ⟨_,_,_,lc_GAPS,rfl,rfl,rfl,(by show (5:Nat)<=sizeLine;decide),.cons ⟨_,rfl⟩ (.cons ⟨_,rfl⟩ (.cons ⟨_,rfl⟩ (.cons ⟨_,rfl⟩ (.cons ⟨_,rfl⟩ (.nil)))))⟩⟩,⟨_,PySem.W.mg_of X G aq_MOST_ROWS⟩,PySem.W.mg_none_of X G z_isinstance,PySem.W.mg_none_of X G z_int,PySem.W.mg_none_of X G z_bool,PySem.W.mg_none_of X G z_tuple,PySem.W.mg_none_of X G z_zip,PySem.W.mg_none_of X G z_all,PySem.W.mg_none_of X G z_list,PySem.W.mg_none_of X G z_len,PySem.W.mg_none_of X G z_range,PySem.W.mg_none_of X G z_min,PySem.W.mg_none_of X G z_enumerate,PySem.W.mg_none_of X G z_any⟩
 have Su:=Be (st:=E3) zq2w zq32 zq2d
 have G9:=Be (st:=Bv) zq0s zq0w zq06
 have Z3:=Be (st:=Hz) zq3w zq43 zq3e
 have W5:=Be (st:=F2) zq3k zq3o zq2s
 have Am3:=Be (st:=L5) zq4e zq4f zq41
 have Z4:=Be (st:=Ia) zq3x zq44 zq3f
 have Ea:=Be (st:=Ch) zq1g zq1k zq0o
 have Ss:=Be (st:=E2) zq2v zq31 zq2c
 have Lq:=Be (st:=Co) zq1o zq1x zq0y
 have W7:=Be (st:=F4) zq3m zq3q zq2u
 have Qt:=Be (st:=Ds) zq2k zq2n zq1v
 have Z7:=Be (st:=Id) zq40 zq47 zq3i
 have Qs:=Be (st:=Dr) zq2j zq2m zq1u
 have Z6:=Be (st:=Ic) zq3z zq46 zq3h
 have Sz:=Be (st:=E7) zq30 zq36 zq2h
 have Z5:=Be (st:=Ib) zq3y zq45 zq3g
 have Ff:=Be (st:=Bk) zq07 zq0a zq00
 have W6:=Be (st:=F3) zq3l zq3p zq2t
 have At9:=Be (st:=Sd) zq4k zq4m zq4i
 have Z2:=Be (st:=Hy) zq3v zq42 zq3d
 have Ez:=Be (st:=Cr) zq1r zq20 zq0i
 have Hu:=Be (st:=B7) zq13 zq19 zq15
 have Hv:=Be (st:=B8) zq14 zq1a zq0j
 have J5:=Be (st:=Ci) zq1h zq1l zq0p
 have Sw:=Be (st:=E4) zq2x zq33 zq2e
 have Fq:=Be (st:=Dd) zq26 zq29 zq0r
 have Lr:=Be (st:=Cp) zq1p zq1y zq1t
 have Sy:=Be (st:=E6) zq2z zq35 zq2g
 have Fh:=Be (st:=Bm) zq09 zq0c zq02
 have M6:=Be (st:=Dc) zq25 zq28 zq1f
 have Ls:=Be (st:=Cq) zq1q zq1z zq0z
 have Hs:=Be (st:=B5) zq11 zq17 zq0g
 have Fg:=Be (st:=Bl) zq08 zq0b zq01
 have Ht:=Be (st:=B6) zq12 zq18 zq0h
 have W4:=Be (st:=F1) zq3j zq3n zq2r
 have Qr:=Be (st:=Dq) zq2i zq2l zq1s
 have Gc:=Be (st:=Bs) zq0l zq0m zq03
 have Sx:=Be (st:=E5) zq2y zq34 zq2f
 have At8:=Be (st:=Sc) zq4j zq4l zq4h
 have A96:=Be (st:=Q2) zq4p zq4r zq4q
 refine⟨PySem.W.fnOf "law" "law" (Ax Q2) (Aw Q2) (Aj Q2) .none At0 At3 As2 At6 Ak1 At4,fun s v=>.of_eq rfl,fun base _ _=>?_⟩
 have Mh:Has l.prog w K mg base "is_whole" ["thing"] 1 (Gd K):=⟨_,_,PySem.W.mg_of X G zq38,zq2d,Su.binds (ps:=["thing"]) (fun _ _ _ _ _ _=>N5 (fun _=>rfl)),Xt Su T ⟩
 have C8:Has l.prog w K mg base "shared_divisor" ["one","other"] 1 (Ka K):=⟨_,_,PySem.W.mg_of X G zq0x,zq06,G9.binds (ps:=["one","other"]) (fun _ _ _ _ _ _=>Ji (fun _ _=>rfl)),Ma G9 T ⟩
 have T9:Has l.prog w K mg base "column" ["table","j"] 1 (Ou K):=⟨_,_,PySem.W.mg_of X G zq49,zq3e,Z3.binds (ps:=["table","j"]) (fun _ _ _ _ _ _=>Ji (fun _ _=>rfl)),Ac4 Z3 T ⟩
 have Pt:Has l.prog w K mg base "one_row" ["size","i"] 1 (Lu K):=⟨_,_,PySem.W.mg_of X G zq3s,zq2s,W5.binds (ps:=["size","i"]) (fun _ _ _ _ _ _=>Ji (fun _ _=>rfl)),i4 W5 T ⟩
 have Fx:Has l.prog w K mg base "mixed" ["a","one","b","other"] 1 (Oi K):=⟨_,_,PySem.W.mg_of X G zq4g,zq41,Am3.binds (ps:=["a","one","b","other"]) (fun _ _ _ _ _ _=>A54 (fun _ _ _ _=>rfl)),Ao4 Am3 T ⟩
 have Om:Has l.prog w K mg base "across" ["turn"] 1 (Ov K):=⟨_,_,PySem.W.mg_of X G zq4a,zq3f,Z4.binds (ps:=["turn"]) (fun _ _ _ _ _ _=>N5 (fun _=>rfl)),Ac5 Z4 T ⟩
 have hi_Lines:HasI l.prog w K mg base Ad "__init__" ["self","rows","backs"] 1 (Hw K Ad Ab Ae):=⟨_,_,⟨ird_Lines,ifc_Lines,iga_Lines,zq0o⟩,Ea.binds (ps:=["self","rows","backs"]) (fun _ _ _ _ _ _=>Rp (fun _ _ _=>rfl)),Hi Ea T ⟩
 have hc_Lines:HasC l.prog w K mg base Ad ["self","rows","backs"] 1 (Hw K Ad Ab Ae):=⟨_,_,⟨mk_Lines,zq1m,zq16,kc_Lines⟩,Ea.binds (ps:=["self","rows","backs"]) (fun _ _ _ _ _ _=>Rp (fun _ _ _=>rfl)),Hi Ea T ⟩
 have F8:Has l.prog w K mg base "start_of" ["row"] 1 (He K):=⟨_,_,PySem.W.mg_of X G zq37,zq2c,Ss.binds (ps:=["row"]) (fun _ _ _ _ _ _=>N5 (fun _=>rfl)),Xs Ss T ⟩
 have Gn:Has l.prog w K mg base "is_straight" ["table"] 1 (E8 K):=⟨_,_,PySem.W.mg_of X G zq21,zq0y,Lq.binds (ps:=["table"]) (fun _ _ _ _ _ _=>N5 (fun _=>rfl)),Q7 Lq T ⟩
 have Pw:Has l.prog w K mg base "_law_whole" ["_law_found"] 1 (Lv K):=⟨_,_,PySem.W.mg_of X G zq3u,zq2u,W7.binds (ps:=["_law_found"]) (fun _ _ _ _ _ _=>N5 (fun _=>rfl)),i6 W7 T ⟩
 have Dz:Has l.prog w K mg base "_law_cell_at" ["_law_script","_law_k"] 1 (Hd K):=⟨_,_,PySem.W.mg_of X G zq2q,zq1v,Qt.binds (ps:=["_law_script","_law_k"]) (fun _ _ _ _ _ _=>Ji (fun _ _=>rfl)),Vm Qt T ⟩
 have Ih:Has l.prog w K mg base "_law_copy" ["_law_table"] 1 (Kq K):=⟨_,_,PySem.W.mg_of X G zq4d,zq3i,Z7.binds (ps:=["_law_table"]) (fun _ _ _ _ _ _=>N5 (fun _=>rfl)),Ac8 Z7 T ⟩
 have Kf:Has l.prog w K mg base "_law_turn_by" ["_law_cell","_law_lines","_law_number"] 1 (Hc K):=⟨_,_,PySem.W.mg_of X G zq2p,zq1u,Qs.binds (ps:=["_law_cell","_law_lines","_law_number"]) (fun _ _ _ _ _ _=>Rp (fun _ _ _=>rfl)),Vl Qs T ⟩
 have Fm:Has l.prog w K mg base "_law_flip" ["_law_table","_law_width"] 1 (Ko K):=⟨_,_,PySem.W.mg_of X G zq4c,zq3h,Z6.binds (ps:=["_law_table","_law_width"]) (fun _ _ _ _ _ _=>Ji (fun _ _=>rfl)),Ac7 Z6 T ⟩
 have Ml:Has l.prog w K mg base "_law_row_by" ["_law_cell","_law_many"] 1 (Lz K):=⟨_,_,PySem.W.mg_of X G zq3c,zq2h,Sz.binds (ps:=["_law_cell","_law_many"]) (fun _ _ _ _ _ _=>Ji (fun _ _=>rfl)),Xx Sz T ⟩
 have Ua:Has l.prog w K mg base "_law_laid" ["_law_numbers","_law_height","_law_width"] 1 (Td K):=⟨_,_,PySem.W.mg_of X G zq4b,zq3g,Z5.binds (ps:=["_law_numbers","_law_height","_law_width"]) (fun _ _ _ _ _ _=>Rp (fun _ _ _=>rfl)),Ac6 Z5 T ⟩
 have Da:Has l.prog w K mg base "is_list_of_wholes" ["thing","many"] 2 (Cu K):=⟨_,_,PySem.W.mg_of X G zq0d,zq00,Ff.binds (ps:=["thing","many"]) (fun _ _ _ _ _ _=>Ji (fun _ _=>rfl)),Ix Ff T Mh⟩
 have Ee:Has l.prog w K mg base "flipped" ["table","width"] 2 (F0 K):=⟨_,_,PySem.W.mg_of X G zq3t,zq2t,W6.binds (ps:=["table","width"]) (fun _ _ _ _ _ _=>Ji (fun _ _=>rfl)),i5 W6 T T9⟩
 have Sk:Has l.prog w K mg base "ones" ["size"] 2 (W8 K):=⟨_,_,PySem.W.mg_of X G zq4o,zq4i,At9.binds (ps:=["size"]) (fun _ _ _ _ _ _=>N5 (fun _=>rfl)),Aw8 At9 T Pt⟩
 have Lb:Has l.prog w K mg base "turned" ["lines","turn"] 2 (Ly K):=⟨_,_,PySem.W.mg_of X G zq48,zq3d,Z2.binds (ps:=["lines","turn"]) (fun _ _ _ _ _ _=>Ji (fun _ _=>rfl)),Ac3 Z2 T Fx⟩
 have Fw:HasM l.prog w K mg base Ad "blend" ["self","i","j","one","other"] 2 (Hf K Ad Ab Ae):=⟨_,_,⟨zq24,zq0q,zq0i⟩,Ez.binds (ps:=["self","i","j","one","other"]) (fun _ _ _ _ _ _=>A53 (fun _ _ _ _ _=>rfl)),Jw Ez T C8 Fx⟩
 have hm_Stairs_blend:HasM l.prog w K mg base Ab "blend" ["self","i","j","one","other"] 2 (Hf K Ad Ab Ae):=⟨_,_,⟨a_Stairs_blend,zq0q,zq0i⟩,Ez.binds (ps:=["self","i","j","one","other"]) (fun _ _ _ _ _ _=>A53 (fun _ _ _ _ _=>rfl)),Jw Ez T C8 Fx⟩
 have hc_Stairs:HasC l.prog w K mg base Ab ["self","rows","backs"] 2 (S9 K Ad Ab Ae):=⟨_,_,⟨mk_Stairs,zq1d,zq0v,kc_Stairs⟩,Hu.binds (ps:=["self","rows","backs"]) (fun _ _ _ _ _ _=>Rp (fun _ _ _=>rfl)),Nn Hu T hi_Lines⟩
 have Di:Has l.prog w K mg base "_law_rows_turned" ["_law_table","_law_turn"] 2 (Eg K):=⟨_,_,PySem.W.mg_of X G zq1e,zq0j,Hv.binds (ps:=["_law_table","_law_turn"]) (fun _ _ _ _ _ _=>Ji (fun _ _=>rfl)),No Hv T Ih⟩
 have D7:Has l.prog w K mg base "_law_numbers_of" ["_law_found"] 2 (Kb K):=⟨_,_,PySem.W.mg_of X G zq1n,zq0p,J5.binds (ps:=["_law_found"]) (fun _ _ _ _ _ _=>N5 (fun _=>rfl)),Pe J5 T Pw⟩
 have Mi:Has l.prog w K mg base "is_table" ["thing","width"] 3 (J7 K):=⟨_,_,PySem.W.mg_of X G zq39,zq2e,Sw.binds (ps:=["thing","width"]) (fun _ _ _ _ _ _=>Ji (fun _ _=>rfl)),Xu Sw T Da⟩
 have Eu:HasM l.prog w K mg base Ad "turn" ["self","turn"] 3 (Ge K Ad Ab Ae):=⟨_,_,⟨zq2b,zq10,zq0r⟩,Fq.binds (ps:=["self","turn"]) (fun _ _ _ _ _ _=>Ji (fun _ _=>rfl)),K0 Fq T Lb Om⟩
 have hm_Stairs_turn:HasM l.prog w K mg base Ab "turn" ["self","turn"] 3 (Ge K Ad Ab Ae):=⟨_,_,⟨a_Stairs_turn,zq10,zq0r⟩,Fq.binds (ps:=["self","turn"]) (fun _ _ _ _ _ _=>Ji (fun _ _=>rfl)),K0 Fq T Lb Om⟩
 have hc_Work:HasC l.prog w K mg base Ae ["self","table","width"] 3 (Tb K Ad Ab Ae):=⟨_,_,⟨mk_Work,zq22,zq1i,kc_Work⟩,Lr.binds (ps:=["self","table","width"]) (fun _ _ _ _ _ _=>Rp (fun _ _ _=>rfl)),Q8 Lr T hc_Lines Sk⟩
 have Mj:Has l.prog w K mg base "_law_turned" ["_law_table","_law_width","_law_of_rows","_law_turn"] 3 (J8 K):=⟨_,_,PySem.W.mg_of X G zq3b,zq2g,Sy.binds (ps:=["_law_table","_law_width","_law_of_rows","_law_turn"]) (fun _ _ _ _ _ _=>A54 (fun _ _ _ _=>rfl)),Xw Sy T Fm Di⟩
 have A9:HasM l.prog w K mg base Ab "shrink_row" ["self","i","first"] 4 (D6 K Ad Ab Ae):=⟨_,_,⟨zq0f,zq05,zq02⟩,Fh.binds (ps:=["self","i","first"]) (fun _ _ _ _ _ _=>Rp (fun _ _ _=>rfl)),Iz Fh T hm_Stairs_turn⟩
 have Et:HasM l.prog w K mg base Ae "share" ["self","i","j"] 4 (Ow K Ad Ab Ae):=⟨_,_,⟨zq2a,zq1w,zq1f⟩,M6.binds (ps:=["self","i","j"]) (fun _ _ _ _ _ _=>Rp (fun _ _ _=>rfl)),Tt M6 T Eu Fw⟩
 have Fv:HasM l.prog w K mg base Ab "meet" ["self","spot","i"] 5 (S8 K Ad Ab Ae):=⟨_,_,⟨zq23,zq1j,zq0z⟩,Ls.binds (ps:=["self","spot","i"]) (fun _ _ _ _ _ _=>Rp (fun _ _ _=>rfl)),Q9 Ls T A9 hm_Stairs_turn hm_Stairs_blend⟩
 have Ei:HasM l.prog w K mg base Ab "shrink" ["self"] 5 (Lw K Ad Ab Ae):=⟨_,_,⟨zq1b,zq0t,zq0g⟩,Hs.binds (ps:=["self"]) (fun _ _ _ _ _ _=>N5 (fun _=>rfl)),Nl Hs T A9⟩
 have Cw:HasM l.prog w K mg base Ae "put_in_order" ["self"] 5 (Ox K Ad Ab Ae):=⟨_,_,⟨zq0e,zq04,zq01⟩,Fg.binds (ps:=["self"]) (fun _ _ _ _ _ _=>N5 (fun _=>rfl)),Iy Fg T Et⟩
 have Ej:HasM l.prog w K mg base Ab "put_in" ["self","i"] 6 (Lx K Ad Ab Ae):=⟨_,_,⟨zq1c,zq0u,zq0h⟩,Ht.binds (ps:=["self","i"]) (fun _ _ _ _ _ _=>Ji (fun _ _=>rfl)),Nm Ht T F8 hm_Stairs_turn Fv⟩
 have Lc:Has l.prog w K mg base "stepped" ["table","width","lines"] 7 (J9 K Ad Ab Ae):=⟨_,_,PySem.W.mg_of X G zq3r,zq2r,W4.binds (ps:=["table","width","lines"]) (fun _ _ _ _ _ _=>Rp (fun _ _ _=>rfl)),i0 W4 T hc_Stairs hc_Lines Ej Ei⟩
 have Fl:HasM l.prog w K mg base Ae "step" ["self"] 8 (Ta K Ad Ab Ae):=⟨_,_,⟨zq2o,zq27,zq1s⟩,Qr.binds (ps:=["self"]) (fun _ _ _ _ _ _=>N5 (fun _=>rfl)),Vk Qr T Lc Ee⟩
 have Dh:HasM l.prog w K mg base Ae "straighten" ["self"] 9 (Ft K Ad Ab Ae):=⟨_,_,⟨zq0n,zq0k,zq03⟩,Gc.binds (ps:=["self"]) (fun _ _ _ _ _ _=>N5 (fun _=>rfl)),Kz Gc T Fl Gn⟩
 have Dy:Has l.prog w K mg base "diagonal" ["table","width"] 10 (Fi K):=⟨_,_,PySem.W.mg_of X G zq3a,zq2f,Sx.binds (ps:=["table","width"]) (fun _ _ _ _ _ _=>Ji (fun _ _=>rfl)),Xv Sx T hc_Work Dh Cw Ee Mi⟩
 have Zv:Has l.prog w K mg base "rank" ["table","width"] 11 (Tc K):=⟨_,_,PySem.W.mg_of X G zq4n,zq4h,At8.binds (ps:=["table","width"]) (fun _ _ _ _ _ _=>Ji (fun _ _=>rfl)),Aw7 At8 T Dy⟩
 exact A30 A96 T Ml Ua D7 Dz Kf Dy Mj Ih Fm Zv
theorem walk {l:PySem.W.OpenLaw}{q:Program}{loose:List Str}{XP:(Str->Option Value)->Heap->Prop}{YP:World->Heap->Prop}{d:DefRec}{K:Params->PySem.W.Frag} (hn:l.most=some 63) (hdf:d.params.defaults=[])
 (hY:∀ (w:World) (h:Heap),YP w h->(K w.params).In h)
 (F:∀ (w:World) (mg:Str->Option Value) (fa:Addr) (h:Heap),(K w.params).In h->h.Ns mainGlobals mg->mg d.name=some (.ref fa) →
   ∃ fd:FuncData,(∀ (s:Shared) (u:Value),BindsTo s fd ⟨[u],[]⟩ [("_law_script",u)])/\∀ base:Heap,(K w.params).In base->base.Ns mainGlobals mg->FnOk l.prog w (K w.params) mg base CX0 12 fa fd ["_law_script"] (S7 (K w.params))) :
 PySem.W.WalkO q loose XP YP l.row.toRowW d [] (fun f vs=>PySem.call f vs) :=
 L2.walk_ofB (n:=63) (k:=12) (x:="_law_script") (CX:=fun _=>CX0) (sp:=fun w=>S7 (K w.params)) hn (by decide) hdf ⟨rfl,by decide,by decide,rfl⟩ hY F (fun _ _ a ns hl hbit _ hS=>⟨a,ns,rfl,hS,hl,hbit,fun _=>rfl⟩) fun _ _ _ _ _ z=>z
end Hb
namespace PySem.W.Fast
def tw16605697319952247033:=0
def tw12261490188600334134:=0
def tw18056264936728779364:=0
def tw1759083182972213200:=0
def tw4070452704325284421:=0
def tw3086350347910705394:=0
def tw2958439809949579170:=0
def tw8779931283149243635:=0
def tw7709192401086611089:=0
def tw16774381938382581815:=0
def tw16500246411967500315:=0
def tw3035389560965475506:=0
def tw13485293278944052849:=0
def tw14875524347526928601:=0
def tw13927026251799751921:=0
def tw13805529636724576721:=0
def tw8536250766687385270:=0
def tw9453257932177163092:=0
def tw9502747130099027446:=0
def tw4336865149517244255:=0
def tw2131008746029822928:=0
def tw8641640532932175436:=0
def tw14904601520678552767:=0
def tw18338607964853089825:=0
def tw17573223834680039926:=0
def tw18429920757923223999:=0
def tw6127151674327088834:=0
def tw3644271476371796902:=0
def tw10068782864516830320:=0
def tw7486766817077612326:=0
def tw18305870940024325802:=0
def tw5434533576113931183:=0
def tw3001616763853851970:=0
def tw5227271929110839740:=0
def tw3940520333955784384:=0
def tw7569935009894906203:=0
def tw6184145947828301692:=0
def tw8301626532677042882:=0
def tw17554589767490712755:=0
def tw3528244404880980584:=0
def tw10710741067955034080:=0
def tw12122889601351191757:=0
def tw10907397913945799443:=0
def tw1184494087992589608:=0
def tw8913288067871527207:=0
def tw785671614681238738:=0
def tw712574550009114145:=0
def tw6159882527451115856:=0
def tw355538983555376213:=0
def tw788940847404405305:=0
def tw9272196780648763232:=0
def tw16935625568609424865:=0
def tw9495471543961769589:=0
def tw6225653103702860695:=0
def tw714319421805533455:=0
def tw16296155133905295316:=0
def tw5663072045593822355:=0
def tw228380718333693590:=0
def tw10880154049902674575:=0
def tw5085721054390529697:=0
def tw2042424883936718234:=0
def tw9384345061663480225:=0
def tw3774185283679386900:=0
def tw13990819716377967151:=0
def tw5552886532455398353:=0
def tw14057090996946045716:=0
def tw18272401278641473763:=0
def tw2683183803188145102:=0
def tw3862543851993606991:=0
def tw5679776563451723057:=0
def tw13175484817538144467:=0
def tw16588971689526190115:=0
def tw10803460725823252917:=0
def tw11901376913835742907:=0
def tw10866508360492605261:=0
def tw9874951987042899274:=0
def tw6949692438199025641:=0
def tw6957367762457999828:=0
def tw1304444019878996902:=0
def tw8330003838700527969:=0
def tw9502253537285033714:=0
def tw14942224211697915127:=0
def tw5185994929943487708:=0
def tw15943395119363980467:=0
def tw2705230832422018229:=0
def tw7100786927169578607:=0
def tw822630700551899446:=0
def tw7716130889055324080:=0
def tw7112524706338452186:=0
def tw7259710615680933534:=0
def tw4998028596054862269:=0
def tw1851382783830113869:=0
def tw13972405363064251043:=0
def tw14966509980761418674:=0
def tw16491230547615903266:=0
def tw10596433028702545035:=0
def tw5633596691845038043:=0
def tw7487412854593609227:=0
def tw10349826782292229385:=0
def tw15604666034958563851:=0
def tw907341479498158054:=0
def tw1499022078178399734:=0
def tw6228137400706349179:=0
def tw11269632542226494051:=0
def tw14406472394571699034:=0
def tw3867685027877887230:=0
def tw882316685753962646:=0
def tw12786402475417017974:=0
def tw556075395792987530:=0
def tw13005584233752505516:=0
def tw9964007265684033331:=0
def tw5136381013640724651:=0
def tw4661800802223389485:=0
def tw12254750159703005875:=0
def tw14449065364937880793:=0
def tw11554575510013647510:=0
def tw17243702126955279936:=0
def tw10931253231339426219:=0
def tw3595299995456902067:=0
def tw14860441093182301700:=0
def tw18333152842471780796:=0
def tw14055883839639946167:=0
def tw8772288544011745445:=0
def tw4663409982452612591:=0
def tw7329209687538310001:=0
def tw5438644758197789817:=0
def tw1640336186761550423:=0
def tw18271240966297859123:=0
def tw3611217486957228247:=0
def tw7284605320264735732:=0
def tw15279030197909482818:=0
def tw6189388397901259051:=0
def tw18259820708352916534:=0
def tw5950769739160599095:=0
def tw16290233505014902978:=0
def tw5460661153791045698:=0
def tw10312360797535760636:=0
def tw17556628113597863034:=0
def tw71037971527280875:=0
def tw6284271876716494466:=0
def tw3758380692654592082:=0
def tw17984949003340843805:=0
def tw4415653388182455800:=0
def tw4576985586902397452:=0
def tw10343364245590613334:=0
def tw13229346902201611906:=0
def tw14160859580594235340:=0
def tw9983755842680379452:=0
def tw2215814673233771132:=0
def tw4885621952940366781:=0
def tw11146629543103933371:=0
def tw10503924500386328028:=0
def tw12979715420385789260:=0
def tw12932653990862482336:=0
def tw5295181951603639287:=0
def tw11809873222307767189:=0
def tw2346586927276709204:=0
def tw7582072452462080638:=0
def tw15142754653075321421:=0
def tw17752379019313270014:=0
def tw8715419567091861085:=0
def tw14881793147292378962:=0
def tw15594284481164388744:=0
def tw12875287340768544641:=0
def tw5430737771348150780:=0
def tw12164798175354830683:=0
def tw5303271269888811524:=0
def tw12013070043025745872:=0
def tw15397804569230852000:=0
def tw5602895389289955524:=0
def tw6813649634510440891:=0
def tw11247561156963321496:=0
def tw7641012037327990718:=0
def tw4450183001881016084:=0
def tw14696536337457966502:=0
def tw13957082182524256249:=0
def tw17584138605894684730:=0
def tw11205700937443449040:=0
def tw15511871557404401610:=0
def tw904334299203122385:=0
def tw840696746257311499:=0
def tw454088251042355759:=0
def tw5254782603276000003:=0
def tw17889833013333392515:=0
def tw16154363049133576373:=0
def tw5894552944536842081:=0
def tw14081442969194718044:=0
def tw14298634866774849465:=0
def tw6000327105183438904:=0
def tw2130896143602334828:=0
def tw5042886267028945856:=0
def tw6356825198981390090:=0
def tw1207408734442220705:=0
def tw8195048434003336106:=0
def tw1322207469141875229:=0
def tw10008650629654109518:=0
def tw3339825201856839610:=0
def tw2315677122021609835:=0
def tw12368686911274393688:=0
def tw3654499383048420110:=0
def tw1696008233356947719:=0
def tw1238827023277043956:=0
def tw6246142773496771894:=0
def tw10152331783444242491:=0
def tw18361626855046320685:=0
def tw6693368712710002797:=0
def tw3520754367057899585:=0
def tw5884796253965936218:=0
def tw16840478683730781603:=0
def tw13581078414549100836:=0
def tw11003060120467385148:=0
def tw14761488092197538864:=0
def tw14915836956589552057:=0
def tw4143673777718297404:=0
def tw5012724984343799477:=0
def tw15097116655700339116:=0
def tw16220881474278608833:=0
def tw11872645158682188660:=0
def tw10672932241871939208:=0
def tw8662575202502060546:=0
def tw2589702921698380618:=0
def tw14722328706382942138:=0
def tw4167142257882860010:=0
def tw4260011322678089963:=0
def tw17208743840029337631:=0
def tw16110487480000101686:=0
def tw15447296209735788085:=0
def tw8562848499693567463:=0
def tw15536786843493607386:=0
def tw5671883449707703040:=0
def tw14081138886768512873:=0
def tw7729446507206378928:=0
def tw11625224734340418492:=0
def tw8455131332092798714:=0
def tw16058951595418849611:=0
def tw9194155276877490859:=0
def tw1866108773180208837:=0
def tw2676784859304348347:=0
def tw298400079408279261:=0
def tw8604837358206770876:=0
def tw16467733479277908293:=0
def tw371779369235879788:=0
def tw16420840499068692323:=0
def tw11813254098663797317:=0
def tw15887778720151715027:=0
def tw997254207225925180:=0
def tw7714653862038391223:=0
def tw9169264298523425880:=0
def tw1204757038129196050:=0
def tw13585417464515527488:=0
def tw559643626172762623:=0
def tw3850483923423236790:=0
def tw2120081707548003690:=0
def tw6336629931472237435:=0
def tw649656449957772983:=0
def tw9701654157531212418:=0
def tw3710034222038127733:=0
def tw11576549739139957832:=0
def tw13569322228612905579:=0
def tw11588207363075186397:=0
def tw11590883243630919763:=0
def tw6013353665642112257:=0
def tw4369048212070802808:=0
def tw852771718970890711:=0
def tw1864080240539564420:=0
def tw16247576082550414913:=0
def tw14015783747989168537:=0
def tw7977481887893197225:=0
def tw8439328758970710434:=0
def tw7901263802073467495:=0
def tw863491324911763779:=0
def tw6619921369613964776:=0
def tw15788588783463057058:=0
def tw11015808097201753468:=0
def tw10726159089159306332:=0
def tw15039936954537713793:=0
def tw7792102178147709045:=0
def tw10226479622112909561:=0
def tw18049534005523281503:=0
def tw10253966802946827294:=0
def tw12101697953068369376:=0
def tw2559651545187471490:=0
def tw11954958057760869495:=0
def tw3279290576321201337:=0
def tw13993248035222372019:=0
def tw10329510969328956146:=0
def tw9084047094794798076:=0
def tw17857470866475843300:=0
def tw3059961859664968180:=0
def tw15690581574293851783:=0
def tw3750372801662531535:=0
def tw14715166674084619232:=0
def tw5347727326386927055:=0
def tw749381318546824105:=0
def tw4186710095913122792:=0
def tw2286133107286751970:=0
def tw11258125415524056327:=0
def tw14645774435866202365:=0
def tw1139761950107370984:=0
def tw3633876833032378022:=0
def tw476172886449675207:=0
def tw3095840767520626518:=0
def tw7929023876624812515:=0
def tw17022551263140573257:=0
def tw11606285687342172094:=0
def tw6742502698188543999:=0
def tw7172882965986013436:=0
def tw14058912988519648739:=0
def tw4175147611540283744:=0
def tw1879615410419658785:=0
def tw11582204332825171784:=0
def tw10132810239325106108:=0
def tw11074845588940791111:=0
def tw15492020376151545395:=0
def tw17776332378245053443:=0
def tw3733240842984796323:=0
def tw1372733109311397642:=0
def tw14151134850732807805:=0
def tw8397283382724815316:=0
def tw8314029352224918279:=0
def tw294064079750927010:=0
def tw15472964258927847690:=0
def tw9633147752644153942:=0
def tw11407834230261491779:=0
def tw14184098717281760907:=0
def tw18218487815301213501:=0
def tw14264824058770036685:=0
def tw1985989140241993634:=0
def tw16128996642161853347:=0
def tw11729673743163303239:=0
def tw10208349426067586087:=0
def tw8926977240350864743:=0
def tw4792909840927567714:=0
def tw9754065287476430406:=0
def tw1928972350995927396:=0
def tw14758614522256811578:=0
def tw6126393524853670434:=0
def tw13932410028377842341:=0
def tw4126440569458083820:=0
def tw5522570477556204930:=0
def tw18024203699705358159:=0
def tw3999940798559481363:=0
def tw17833194399397341273:=0
def tw13942997227112471640:=0
def tw13861545585647381767:=0
def tw18296906694769696896:=0
def tw5532509539258406635:=0
def tw1301887273035221822:=0
def tw2960736724756774337:=0
def tw4813016427396386864:=0
def tw13716724979104817131:=0
def tw16996633971776605880:=0
def tw1719897299098459593:=0
def tw8533879642301420396:=0
def tw8340205848967638063:=0
def tw17075198236002323392:=0
def tw5676236750431293721:=0
def tw18281053320820754440:=0
def tw768303904845909887:=0
def tw17690480304776925306:=0
def tw2766787126510077521:=0
def tw16129888080994241019:=0
def tw9905807252575468541:=0
def tw2684763201209878978:=0
end PySem.W.Fast
open PySem PySem.W PyProof.Rows
set_option maxRecDepth 100000 in
set_option maxHeartbeats 0 in
theorem PySem.Challenge.cw_holebook_k25_whole_built_diagonal_holds : PySem.Challenge.rw_holebook_k25_whole_built_diagonal.Holds := by
 w_on;o_law;k_head;(case hw=>w_witness2)
 k_fill
 refine Hb.walk (l:=PySem.Challenge.rw_holebook_k25_whole_built_diagonal) rfl rfl (fun w h Y=>PySem.W.kIn_of Y) ?F
 case F =>
  intro w mg fa h KX G hmg
  refine' Hb.all_mk KX G hmg ?ac_Lines ?ac_Stairs ?ac_Work ?zq38 ?zq2w ?zq32 ?zq2d ?zq0x ?zq0s ?zq0w ?zq06 ?zq49 ?zq3w ?zq43 ?zq3e ?zq3s ?zq3k ?zq3o ?zq2s ?zq4g ?zq4e ?zq4f ?zq41 ?zq4a ?zq3x ?zq44 ?zq3f ?zq1m ?zq16 ?zq1g ?zq1k ?zq0o ?zq37 ?zq2v ?zq31 ?zq2c ?zq21 ?zq1o ?zq1x ?zq0y ?zq3u ?zq3m ?zq3q ?zq2u ?zq2q ?zq2k ?zq2n ?zq1v ?zq4d ?zq40 ?zq47 ?zq3i ?zq2p ?zq2j ?zq2m ?zq1u ?zq4c ?zq3z ?zq46 ?zq3h ?zq3c ?zq30 ?zq36 ?zq2h ?zq4b ?zq3y ?zq45 ?zq3g ?zq0d ?zq07 ?zq0a ?zq00 ?zq3t ?zq3l ?zq3p ?zq2t ?zq4o ?zq4k ?zq4m ?zq4i ?zq48 ?zq3v ?zq42 ?zq3d ?zq24 ?zq0q ?zq1r ?zq20 ?zq0i ?zq1d ?zq0v ?zq13 ?zq19 ?zq15 ?zq1e ?zq14 ?zq1a ?zq0j ?zq1n ?zq1h ?zq1l ?zq0p ?zq39 ?zq2x ?zq33 ?zq2e ?zq2b ?zq10 ?zq26 ?zq29 ?zq0r ?zq22 ?zq1i ?zq1p ?zq1y ?zq1t ?zq3b ?zq2z ?zq35 ?zq2g ?zq0f ?zq05 ?zq09 ?zq0c ?zq02 ?zq2a ?zq1w ?zq25 ?zq28 ?zq1f ?zq23 ?zq1j ?zq1q ?zq1z ?zq0z ?zq1b ?zq0t ?zq11 ?zq17 ?zq0g ?zq0e ?zq04 ?zq08 ?zq0b ?zq01 ?zq1c ?zq0u ?zq12 ?zq18 ?zq0h ?zq3r ?zq3j ?zq3n ?zq2r ?zq2o ?zq27 ?zq2i ?zq2l ?zq1s ?zq0n ?zq0k ?zq0l ?zq0m ?zq03 ?zq3a ?zq2y ?zq34 ?zq2f ?zq4n ?zq4j ?zq4l ?zq4h ?zq4s ?zq4p ?zq4r ?zq4q ?a_Stairs_blend ?a_Stairs_turn ?ird_Lines ?ifc_Lines ?iga_Lines ?mk_Lines ?kc_Lines ?mk_Stairs ?kc_Stairs ?mk_Work ?kc_Work ?pg_Lines ?hd_Lines ?po_Lines ?sa_Lines ?na_Lines_rows ?na_Lines_backs ?pg_Stairs ?hd_Stairs ?po_Stairs ?sa_Stairs ?na_Stairs_rows ?na_Stairs_backs ?na_Stairs_starts ?pg_Work ?hd_Work ?po_Work ?sa_Work ?na_Work_table ?na_Work_width ?na_Work_left ?na_Work_right ?na_Work_numbers ?ac_GAPS ?lc_GAPS ?aq_MOST_ROWS ?z_isinstance ?z_int ?z_bool ?z_tuple ?z_zip ?z_all ?z_list ?z_len ?z_range ?z_min ?z_enumerate ?z_any
  (case ac_Lines=>k_is);(case ac_Stairs=>k_is);(case ac_Work=>k_is);(case ac_GAPS=>k_is)
  (case zq38=>k_is);(case zq2w=>k_is);(case zq32=>k_is);(case zq2d=>k_is)
  (case zq0x=>k_is);(case zq0s=>k_is);(case zq0w=>k_is);(case zq06=>k_is)
  (case zq49=>k_is);(case zq3w=>k_is);(case zq43=>k_is);(case zq3e=>k_is)
  (case zq3s=>k_is);(case zq3k=>k_is);(case zq3o=>k_is);(case zq2s=>k_is)
  (case zq4g=>k_is);(case zq4e=>k_is);(case zq4f=>k_is);(case zq41=>k_is)
  (case zq4a=>k_is);(case zq3x=>k_is);(case zq44=>k_is);(case zq3f=>k_is)
  (case zq1m=>k_is);(case zq16=>k_is);(case zq1g=>k_is);(case zq1k=>k_is)
  (case zq0o=>k_is);(case zq37=>k_is);(case zq2v=>k_is);(case zq31=>k_is)
  (case zq2c=>k_is);(case zq21=>k_is);(case zq1o=>k_is);(case zq1x=>k_is)
  (case zq0y=>k_is);(case zq3u=>k_is);(case zq3m=>k_is);(case zq3q=>k_is)
  (case zq2u=>k_is);(case zq2q=>k_is);(case zq2k=>k_is);(case zq2n=>k_is)
  (case zq1v=>k_is);(case zq4d=>k_is);(case zq40=>k_is);(case zq47=>k_is)
  (case zq3i=>k_is);(case zq2p=>k_is);(case zq2j=>k_is);(case zq2m=>k_is)
  (case zq1u=>k_is);(case zq4c=>k_is);(case zq3z=>k_is);(case zq46=>k_is)
  (case zq3h=>k_is);(case zq3c=>k_is);(case zq30=>k_is);(case zq36=>k_is)
  (case zq2h=>k_is);(case zq4b=>k_is);(case zq3y=>k_is);(case zq45=>k_is)
  (case zq3g=>k_is);(case zq0d=>k_is);(case zq07=>k_is);(case zq0a=>k_is)
  (case zq00=>k_is);(case zq3t=>k_is);(case zq3l=>k_is);(case zq3p=>k_is)
  (case zq2t=>k_is);(case zq4o=>k_is);(case zq4k=>k_is);(case zq4m=>k_is)
  (case zq4i=>k_is);(case zq48=>k_is);(case zq3v=>k_is);(case zq42=>k_is)
  (case zq3d=>k_is);(case zq24=>k_is);(case zq0q=>k_is);(case zq1r=>k_is)
  (case zq20=>k_is);(case zq0i=>k_is);(case zq1d=>k_is);(case zq0v=>k_is)
  (case zq13=>k_is);(case zq19=>k_is);(case zq15=>k_is);(case zq1e=>k_is)
  (case zq14=>k_is);(case zq1a=>k_is);(case zq0j=>k_is);(case zq1n=>k_is)
  (case zq1h=>k_is);(case zq1l=>k_is);(case zq0p=>k_is);(case zq39=>k_is)
  (case zq2x=>k_is);(case zq33=>k_is);(case zq2e=>k_is);(case zq2b=>k_is)
  (case zq10=>k_is);(case zq26=>k_is);(case zq29=>k_is);(case zq0r=>k_is)
  (case zq22=>k_is);(case zq1i=>k_is);(case zq1p=>k_is);(case zq1y=>k_is)
  (case zq1t=>k_is);(case zq3b=>k_is);(case zq2z=>k_is);(case zq35=>k_is)
  (case zq2g=>k_is);(case zq0f=>k_is);(case zq05=>k_is);(case zq09=>k_is)
  (case zq0c=>k_is);(case zq02=>k_is);(case zq2a=>k_is);(case zq1w=>k_is)
  (case zq25=>k_is);(case zq28=>k_is);(case zq1f=>k_is);(case zq23=>k_is)
  (case zq1j=>k_is);(case zq1q=>k_is);(case zq1z=>k_is);(case zq0z=>k_is)
  (case zq1b=>k_is);(case zq0t=>k_is);(case zq11=>k_is);(case zq17=>k_is)
  (case zq0g=>k_is);(case zq0e=>k_is);(case zq04=>k_is);(case zq08=>k_is)
  (case zq0b=>k_is);(case zq01=>k_is);(case zq1c=>k_is);(case zq0u=>k_is)
  (case zq12=>k_is);(case zq18=>k_is);(case zq0h=>k_is);(case zq3r=>k_is)
  (case zq3j=>k_is);(case zq3n=>k_is);(case zq2r=>k_is);(case zq2o=>k_is)
  (case zq27=>k_is);(case zq2i=>k_is);(case zq2l=>k_is);(case zq1s=>k_is)
  (case zq0n=>k_is);(case zq0k=>k_is);(case zq0l=>k_is);(case zq0m=>k_is)
  (case zq03=>k_is);(case zq3a=>k_is);(case zq2y=>k_is);(case zq34=>k_is)
  (case zq2f=>k_is);(case zq4n=>k_is);(case zq4j=>k_is);(case zq4l=>k_is)
  (case zq4h=>k_is);(case zq4s=>k_is);(case zq4p=>k_is);(case zq4r=>k_is)
  (case zq4q=>k_is);(case a_Stairs_blend=>k_is);(case a_Stairs_turn=>k_is);(case ird_Lines=>first | k_is | k_qdec | kernel_rfl | decide +kernel)
  (case ifc_Lines=>first | k_is | k_qdec | kernel_rfl | decide +kernel);(case iga_Lines=>first | k_is | k_qdec | kernel_rfl | decide +kernel);(case mk_Lines=>k_is);(case kc_Lines=>k_is)
  (case mk_Stairs=>k_is);(case kc_Stairs=>k_is);(case mk_Work=>k_is);(case kc_Work=>k_is)
  (case pg_Lines=>k_is);(case hd_Lines=>k_is);(case po_Lines=>k_is);(case sa_Lines=>k_is)
  (case na_Lines_rows=>k_is);(case na_Lines_backs=>k_is);(case pg_Stairs=>k_is);(case hd_Stairs=>k_is)
  (case po_Stairs=>k_is);(case sa_Stairs=>k_is);(case na_Stairs_rows=>k_is);(case na_Stairs_backs=>k_is)
  (case na_Stairs_starts=>k_is);(case pg_Work=>k_is);(case hd_Work=>k_is);(case po_Work=>k_is)
  (case sa_Work=>k_is);(case na_Work_table=>k_is);(case na_Work_width=>k_is);(case na_Work_left=>k_is)
  (case na_Work_right=>k_is);(case na_Work_numbers=>k_is);(case lc_GAPS=>k_is);(case aq_MOST_ROWS=>k_is)
  (case z_isinstance=>k_is);(case z_int=>k_is);(case z_bool=>k_is);(case z_tuple=>k_is)
  (case z_zip=>k_is);(case z_all=>k_is);(case z_list=>k_is);(case z_len=>k_is)
  (case z_range=>k_is);(case z_min=>k_is);(case z_enumerate=>k_is);(case z_any=>k_is)