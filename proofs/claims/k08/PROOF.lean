import PyProof.Rows.All
import Wide.All
import OpenK.AllK
import Wide.FinOn
import Lean
import PyProof.EqAt
import PyProof.EqKinds
import PyProof.TupleCall
import PySem.Challenge.RW_holebook_k08_what_a_text_tells
set_option linter.all false
set_option Elab.async false
set_option maxRecDepth 100000
set_option maxHeartbeats 4000000
noncomputable section
namespace L2
open PySem PySem.Spec PyProof.Rows
abbrev Key:=Sum Int Str
def Yo:Key->Value->Bool
 | .inl k,v=>Value.isInt k v
 | .inr x,v=>Value.isStrOf x v
def keyH (w:World):Key->Int
 | .inl k=>hashInt k
 | .inr x=>hashStr w x
theorem B2:∀{k:Key}{v:Value},Yo k v=true->(∃ i t,k=Sum.inl i/\v=Value.int i t)\/(∃ x t,k=Sum.inr x/\v=Value.str x t)
 | .inl i,v,h=>by
   obtain⟨t,e⟩:=Value.isInt_shape (k:=i) (v:=v) h
   exact .inl ⟨i,t,rfl,e⟩
 | .inr x,v,h=>by
   obtain⟨t,e⟩:=Value.isStrOf_shape (x:=x) (v:=v) h
   exact .inr ⟨x,t,rfl,e⟩
theorem d4 (i:Int) (t:Tok):Yo (.inl i) (.int i t)=true:=by simp [Yo,Value.isInt]
theorem c9 (x:Str) (t:Tok):Yo (.inr x) (.str x t)=true:=by simp [Yo,Value.isStrOf]
theorem Al3 (a b:Int):decide ((Sum.inl a:Key)=Sum.inl b)=(a==b):=by
 by_cases e:a=b
 . subst e;simp
 . have h:¬(Sum.inl a:Key)=Sum.inl b:=fun q=>e (Sum.inl.inj q)
   rw [decide_eq_false h]
   exact (beq_eq_false_iff_ne.mpr e).symm
theorem Al0 (a b:Str):decide ((Sum.inr a:Key)=Sum.inr b)=decide (a=b):=by
 by_cases e:a=b
 . subst e;simp
 . have h:¬(Sum.inr a:Key)=Sum.inr b:=fun q=>e (Sum.inr.inj q)
   rw [decide_eq_false h,decide_eq_false e]
theorem Al2 (a:Int) (b:Str):decide ((Sum.inl a:Key)=Sum.inr b)=false:=decide_eq_false (fun q=>nomatch q)
theorem Al1 (a:Str) (b:Int):decide ((Sum.inr a:Key)=Sum.inl b)=false:=decide_eq_false (fun q=>nomatch q)
def mixKind (prog:Program) (w:World):PySem.KeyKind prog w Key where
 is:=Yo
 hash:=keyH w
 inj:=fun v a b ha hb=>by
  rcases B2 ha with ⟨i,t,rfl,rfl⟩|⟨x,t,rfl,rfl⟩
  . rcases B2 hb with ⟨j,u,rfl,e⟩|⟨y,u,rfl,e⟩
    . injection e with e1 _;rw [e1]
    . exact nomatch e
  . rcases B2 hb with ⟨j,u,rfl,e⟩|⟨y,u,rfl,e⟩
    . exact nomatch e
    . injection e with e1 _;rw [e1]
 byValue:=fun k v h=>by
  rcases B2 h with ⟨i,t,rfl,rfl⟩|⟨x,t,rfl,rfl⟩<;>rfl
 pyHash:=fun hv h=>by
  rcases B2 hv with ⟨i,t,rfl,rfl⟩|⟨x,t,rfl,rfl⟩
  . exact wpAny_pyHash_int h
  . exact wpAny_pyHash_str h
 eqBool:=fun hu hv h=>by
  rcases B2 hu with ⟨i,t,rfl,rfl⟩|⟨x,t,rfl,rfl⟩
  . rcases B2 hv with ⟨j,u,rfl,rfl⟩|⟨y,u,rfl,rfl⟩
    . rw [Al3] at h;exact wpAny_eqBool_int h
    . rw [Al2] at h;exact SeqAt.EqAt.int_str i t y u _ _ _ _ h
  . rcases B2 hv with ⟨j,u,rfl,rfl⟩|⟨y,u,rfl,rfl⟩
    . rw [Al1] at h;exact SeqAt.EqAt.str_int x t j u _ _ _ _ h
    . rw [Al0] at h;exact wpAny_eqBool_str h
 «strs»:=fun k x t v h=>by
  rcases B2 h with ⟨i,u,rfl,e⟩|⟨y,u,rfl,e⟩
  . exact nomatch e
  . injection e with e1 _
    subst e1
    cases v<;>rfl
theorem Vu (prog:Program) (w:World) (i:Int) (t:Tok):(mixKind prog w).is (.inl i) (.int i t)=true:=d4 i t
theorem Vt (prog:Program) (w:World) (x:Str) (t:Tok):(mixKind prog w).is (.inr x) (.str x t)=true:=c9 x t
end L2
namespace L2
open PySem PySem.Spec PyProof.Rows
inductive V where
 | non | bl (b:Bool) | int (i:Int) | str (x:Str) | byt (b:Array UInt8) | flt (b:UInt64) | ref (a:Addr) | ty (n:String)
 deriving DecidableEq
def RelV:V->Value->Prop
 | .non,u=>u=Value.none
 | .bl b,u=>u=Value.bool b
 | .int i,u=>∃ t,u=Value.int i t
 | .str x,u=>∃ t,u=Value.str x t
 | .byt b,u=>∃ t,u=Value.bytes b t
 | .flt b,u=>∃ t,u=Value.float b t
 | .ref a,u=>u=Value.ref a
 | .ty n,u=>u=Value.type n
abbrev Vals:List V->List Value->Prop:=Paired RelV
theorem Vals.length {xs:List V}{us:List Value} (r:Vals xs us):xs.length=us.length:=Paired.length r
theorem Vals.get:∀{xs:List V}{us:List Value}{i:Nat}{x:V},Vals xs us->xs[i]?=some x->∃ u,us[i]?=some u/\RelV x u
 | _,_,_,_,.nil,e=>by simp at e
 | _,_,0,_,.cons r _,e=>by simp at e;subst e;exact ⟨_,rfl,r⟩
 | _,_,i+1,x,.cons _ t,e=>by
   obtain⟨u,h1,h2⟩:=Vals.get (i:=i) (x:=x) t (by simpa using e)
   exact ⟨u,by simpa using h1,h2⟩
theorem Vals.set {x:V}{u:Value} (r:RelV x u):∀{xs:List V}{us:List Value} (i:Nat),Vals xs us->Vals (xs.set i x) (us.set i u)
 | _,_,_,.nil=>.nil
 | _,_,0,.cons _ t=>.cons r t
 | _,_,i+1,.cons q t=>.cons q (Vals.set r i t)
theorem Vals.append:∀{xs ys:List V}{us ws:List Value},Vals xs us->Vals ys ws->Vals (xs++ys) (us++ws)
 | _,_,_,_,.nil,s=>s
 | _,_,_,_,.cons r t,s=>.cons r (Vals.append t s)
theorem Vals.take:∀{xs:List V}{us:List Value} (n:Nat),Vals xs us->Vals (xs.take n) (us.take n)
 | _,_,0,_=>.nil
 | _,_,_+1,.nil=>.nil
 | _,_,n+1,.cons r t=>.cons r (Vals.take n t)
theorem Vals.drop:∀{xs:List V}{us:List Value} (n:Nat),Vals xs us->Vals (xs.drop n) (us.drop n)
 | _,_,0,r=>r
 | _,_,_+1,.nil=>.nil
 | _,_,n+1,.cons _ t=>Vals.drop n t
def RelO:Option V->Option Value->Prop
 | some v,some u=>RelV v u
 | none,none=>True
 | _,_=>False
def KV {κ:Type}:List (κ × V)->List (κ × Value)->Prop:=Paired fun (p:κ × V) (q:κ × Value)=>p.1=q.1/\RelV p.2 q.2
def kV:Key->V
 | .inl i=>.int i
 | .inr x=>.str x
inductive HO where
 | lst (xs:List V)
 | tup (xs:List V)
 | dK (A0:List (Key × V)) | dT (A0:List (List Key × V))
 | set (S:Int->Bool) (n:Nat)
 | ins (C dx:Addr) (fs:List (Str × V))
 | own (x:Addr)
 | xd (fs:List (Str × V))
 | met (f x:Addr)
 | rng (lo hi:Int)
 | frz (o:Obj) (u:HO)
 | tbl (ps:Array Value)
 | ext (φ:Heap->Prop)
abbrev Hp:=Addr->Option HO
def upd (H:Hp) (a:Addr) (o:HO):Hp:=fun b=>if b=a then some o else H b
theorem Ae {H:Hp}{a:Addr}{o:HO}:upd H a o a=some o:=by unfold upd;rw [if_pos rfl]
theorem Ax {H:Hp}{a b:Addr}{o:HO} (h:b≠a):upd H a o b=H b:=by unfold upd;rw [if_neg h]
theorem b8 {H:Hp}{a b:Addr}{o u:HO} (h:H a=some o) (h':H b=some u) (d:o≠u):a≠b:=by
 intro e;subst e;rw [h] at h';exact d (Option.some.inj h')
theorem A8 {H:Hp}{a b:Addr}{o:HO} (h:H a=some o) (h':H b=none):a≠b:=by
 intro e;subst e;rw [h] at h';cases h'
def G9 (h:Heap) (a:Addr) (items:Array Value):Prop:=∃ o,h.get? a=some o/\o.cls=.type "tuple"/\o.dict=none/\∃ n,o.data=.seq items n
theorem G9.tup {h:Heap}{a:Addr}{items:Array Value} (x:G9 h a items):IsTup h a items:=let ⟨o,e,c,_,d⟩:=x;⟨o,e,c,d⟩
theorem G9.lt {h:Heap}{a:Addr}{items:Array Value} (x:G9 h a items):a<h.objs.size:=x.tup.lt
theorem G9.new (h:Heap) (items:Array Value):G9 (h.push { cls:=.type "tuple",data:=.seq items }) h.objs.size items:=⟨_,Heap.get?_push_size _ rfl,rfl,rfl,_,rfl⟩
section
variable (P:Program) (w:World)
def ObjOk (H:Hp) (h:Heap) (a:Addr):HO->Prop
 | .lst xs=>xs.length<=sizeLine/\∃ (its:List Value) (n:Nat),Vals xs its/\h.get? a=some { cls:=.type "list",data:=.seq its.toArray n }
 | .tup xs=>xs.length<=sizeLine/\∃ its:List Value,Vals xs its/\G9 h a its.toArray
 | .dK A0=>A0.length<=sizeLine/\(a==sysModules)=false/\∃ vs,KV A0 vs/\h.DictOf (mixKind P w) a vs
 | .dT A0=>A0.length<=sizeLine/\(a==sysModules)=false/\∃ xs:List (List Key × Addr × Value),
    Paired (fun (p:List Key × V) (q:List Key × Addr × Value)=>p.1=q.1/\H q.2.1=some (.tup (p.1.map kV))/\RelV p.2 q.2.2) A0 xs ∧
    ∃ o es ep,h.get? a=some o/\o.ExactDict/\o.data=.dict es ep/\es.toList=xs.map (entryOfKey (tupleKind (mixKind P w)))/\(xs.map (·.1)).Nodup
 | .set S n=>h.SetOf (intKind P w) a S n
 | .ins C dx fs=>H dx=some (.own a)/\fs.length<=1000/\dx≠a/\h.get? a=some (PySem.W.instObj C dx) ∧
    ∃ mA,h.Ns1 dx mA/\(∀ f,RelO (fs.lookup f) (mA f))/\PySem.Within mA (fs.map (·.1))
 | .own _=>∃ o,h.get? a=some o
 | .xd fs=>∃ mA,h.Ns1 a mA/\∀ f,RelO (fs.lookup f) (mA f)
 | .rng lo hi=>∃ t u v,h.get? a=some { cls:=.type "range",data:=.fields #[.int lo t,.int hi u,.int 1 v] }
 | .frz o u=>h.get? a=some o/\ObjOk H h a u
 | .tbl ps=>h.get? a=some { cls:=.none,data:=.fields ps }
 | .met f x=>h.get? a=some (PySem.W.methodObj (.ref f) (.ref x))
 | .ext φ=>φ h/\(∃ o,h.get? a=some o)/\∀ h1 h2:Heap,φ h1->(∀ o,h1.get? a=some o->h2.get? a=some o)->φ h2
def HOk (H:Hp) (h:Heap):Prop:=∀ a o,H a=some o->ObjOk P w H h a o
end
section
variable {P:Program}{w:World}{H H':Hp}{h h':Heap}{a:Addr}{o:HO}
theorem ObjOk.lt (x:ObjOk P w H h a o):a<h.objs.size:=by
 cases o with
 | lst xs=>obtain⟨_,_,_,_,e⟩:=x;exact Heap.lt_size e
 | tup xs=>obtain⟨_,_,_,p⟩:=x;exact p.lt
 | dK A0=>obtain⟨_,_,_,_,o,_,_,e,_⟩:=x;exact Heap.lt_size e
 | dT A0=>obtain⟨_,_,_,_,o,_,_,e,_⟩:=x;exact Heap.lt_size e
 | set S n=>obtain⟨o,_,_,_,e,_⟩:=x;exact Heap.lt_size e
 | ins C dx fs=>obtain⟨_,_,_,e,_⟩:=x;exact Heap.lt_size e
 | own y=>obtain⟨_,e⟩:=x;exact Heap.lt_size e
 | xd fs=>obtain⟨_,⟨_,_,_,e,_⟩,_⟩:=x;exact Heap.lt_size e
 | rng lo hi=>obtain⟨_,_,_,e⟩:=x;exact Heap.lt_size e
 | frz ob u=>obtain⟨e,_⟩:=x;exact Heap.lt_size e
 | tbl ps=>exact Heap.lt_size (show h.get? a=some _ from x)
 | met f y=>exact Heap.lt_size (show h.get? a=some _ from x)
 | ext φ=>obtain⟨_,⟨_,e⟩,_⟩:=x;exact Heap.lt_size e
theorem Paired.mapP {α β:Type}{F G:α->β->Prop}:∀{l₁:List α}{l₂:List β},Paired F l₁ l₂->(∀ a b,F a b->G a b)->Paired G l₁ l₂
 | _,_,.nil,_=>.nil
 | _,_,.cons r t,f=>.cons (f _ _ r) (Paired.mapP t f)
theorem ObjOk.stay (x:ObjOk P w H h a o) (k:∀ b u,(b=a\/H b=some (.own a))->h.get? b=some u->h'.get? b=some u)
 (ho:∀ b,H b=some (.own a)->H' b=some (.own a)) (ht:∀ b xs,H b=some (.tup xs)->H' b=some (.tup xs)):ObjOk P w H' h' a o:=by
 induction o with
 | lst xs=>obtain⟨z,its,n,r,e⟩:=x;exact ⟨z,its,n,r,k _ _ (.inl rfl) e⟩
 | tup xs=>obtain⟨z,its,r,ob,e,c⟩:=x;exact ⟨z,its,r,ob,k _ _ (.inl rfl) e,c⟩
 | dK A0=>obtain⟨z,y,vs,r,ob,es,ep,e,c⟩:=x;exact ⟨z,y,vs,r,ob,es,ep,k _ _ (.inl rfl) e,c⟩
 | dT A0 =>
   obtain⟨z,y,xs,r,ob,es,ep,e,c⟩:=x
   exact ⟨z,y,xs,Paired.mapP r fun p q z=>⟨z.1,ht _ _ z.2.1,z.2.2⟩,ob,es,ep,k _ _ (.inl rfl) e,c⟩
 | set S n=>obtain⟨ob,es,ep,t,e,c⟩:=x;exact ⟨ob,es,ep,t,k _ _ (.inl rfl) e,c⟩
 | ins C dx fs =>
   obtain⟨d,z,ne,e,mA,⟨od,es,ep,e2,c⟩,r⟩:=x
   exact ⟨ho _ d,z,ne,k _ _ (.inl rfl) e,mA,⟨od,es,ep,k _ _ (.inr d) e2,c⟩,r⟩
 | own y=>obtain⟨ob,e⟩:=x;exact ⟨ob,k _ _ (.inl rfl) e⟩
 | xd fs=>obtain⟨mA,⟨od,es,ep,e,c⟩,r⟩:=x;exact ⟨mA,⟨od,es,ep,k _ _ (.inl rfl) e,c⟩,r⟩
 | rng lo hi=>obtain⟨t,u,v,e⟩:=x;exact ⟨t,u,v,k _ _ (.inl rfl) e⟩
 | frz ob u ih=>obtain⟨e,q⟩:=x;exact ⟨k _ _ (.inl rfl) e,ih q⟩
 | tbl ps =>
   have e:h.get? a=some { cls:=.none,data:=.fields ps }:=x
   show h'.get? a=some { cls:=.none,data:=.fields ps }
   exact k a _ (.inl rfl) e
 | met f y =>
   have e:h.get? a=some (PySem.W.methodObj (.ref f) (.ref y)):=x
   show h'.get? a=some (PySem.W.methodObj (.ref f) (.ref y))
   exact k a _ (.inl rfl) e
 | ext φ=>obtain⟨p,⟨o,e⟩,st⟩:=x;exact ⟨st _ _ p fun o q=>k _ _ (.inl rfl) q,⟨o,k _ _ (.inl rfl) e⟩,st⟩
theorem HOk.lt (x:HOk P w H h) (e:H a=some o):a<h.objs.size:=(x a o e).lt
theorem HOk.fresh (x:HOk P w H h) (e:h.objs.size<=a):H a=none:=by
 cases q:H a with
 | none=>rfl
 | some u=>exact absurd (Nat.lt_of_lt_of_le (x.lt q) e) (Nat.lt_irrefl _)
theorem HOk.kept (x:HOk P w H h) (k:∀ b u,h.get? b=some u->h'.get? b=some u):HOk P w H h':=fun a o e =>
 (x a o e).stay (fun b u _ q=>k b u q) (fun _ q=>q) fun _ _ q=>q
theorem HOk.laid (x:HOk P w H h) (k:∀ b u,h.get? b=some u->h'.get? b=some u) (hp:h.objs.size<=a) (new:ObjOk P w (upd H a o) h' a o):HOk P w (upd H a o) h':=fun b u e=>by
 have hn:=x.fresh hp
 by_cases hb:b=a
 . subst hb;rw [Ae] at e;cases e;exact new
 . rw [Ax hb] at e
   exact (x b u e).stay (fun c v _ q=>k c v q) (fun c q=>by rw [Ax (A8 q hn)];exact q) fun c xs q=>by rw [Ax (A8 q hn)];exact q
end
def Rd (H:Hp) (a:Addr) (u:HO):Prop:=H a=some u\/∃ o,H a=some (.frz o u)
theorem Rd.ok {P:Program}{w:World}{H:Hp}{h:Heap}{a:Addr}{u:HO} (r:Rd H a u) (x:HOk P w H h):ObjOk P w H h a u:=by
 rcases r with r|⟨o,r⟩
 . exact x a u r
 . obtain⟨_,q⟩:=x a _ r
   exact q
def Mut:Option HO->Prop
 | some (.lst _)=>True
 | some (.dK _)=>True
 | some (.dT _)=>True
 | some (.set _ _)=>True
 | some (.ins _ _ _)=>True
 | some (.ext _)=>True
 | _=>False
section
variable {P:Program}{w:World}{H:Hp}{h h':Heap}{x e:Addr}{o':HO}
theorem HOk.write (ok:HOk P w H h) (mu:Mut (H x)) (he:e=x\/H e=some (.own x)) (k:∀ b u,b≠e->h.get? b=some u->h'.get? b=some u) (heo:∃ u,h'.get? e=some u)
 (new:ObjOk P w (upd H x o') h' x o'):HOk P w (upd H x o') h':=fun b u q=>by
 have nown:∀ c y,H c=some (.own y)->c≠x:=fun c y r z=>by subst z;rw [r] at mu;exact mu
 have ntup:∀ c xs,H c=some (.tup xs)->c≠x:=fun c xs r z=>by subst z;rw [r] at mu;exact mu
 by_cases hb:b=x
 . subst hb;rw [Ae] at q;cases q;exact new
 . rw [Ax hb] at q
   by_cases hbe:b=e
   . have q':H b=some (.own x):=by
      rcases he with z | z
      . exact absurd (hbe.trans z) hb
      . rw [hbe];exact z
     rw [q] at q';cases q'
     obtain⟨v,hv⟩:=heo
     exact ⟨v,by rw [hbe];exact hv⟩
   . refine (ok b u q).stay (fun c v hc r=>k c v ?_ r) (fun c r=>by rw [Ax (nown c b r)];exact r) fun c xs r=>by rw [Ax (ntup c xs r)];exact r
     rcases hc with rfl | hc
     . exact hbe
     . rintro rfl
       rcases he with z | z
       . exact nown c b hc z
       . rw [hc] at z;cases z;exact hb rfl
end
structure Un (fs ex:List Addr) (H H':Hp) (h h':Heap):Prop where
 keep:∀ b o,h.get? b=some o->H b=none->b ∉ fs->b ∉ ex->h'.get? b=some o
 slot:∀ b o,h.get? b=some o->H b=none->b∈fs->b ∉ ex->∃ sl,h'.get? b=some { o with slots:=sl }
 free:∀ b o,h.get? b=some o->H b=none->b ∉ ex->H' b=none
 there:∀ b o,h.get? b=some o->b ∉ ex->∃ o',h'.get? b=some o'
 tups:∀ b xs,H b=some (.tup xs)->H' b=some (.tup xs)
 frzs:∀ b o u,H b=some (.frz o u)->H' b=some (.frz o u)
 tbls:∀ b ps,H b=some (.tbl ps)->∃ more,H' b=some (.tbl (ps++more))
section
variable {fs fs' ex ex':List Addr}{H H1 H2:Hp}{h h1 h2 h':Heap}{a x e:Addr}{o:HO}
theorem Un.any (u:Un fs ex H H1 h h1) {b:Addr}{ob:Obj} (q:h.get? b=some ob) (n:H b=none) (hx:b ∉ ex):∃ sl,h1.get? b=some { ob with slots:=sl }:=by
 by_cases hb:b∈fs
 . exact u.slot b ob q n hb hx
 . exact ⟨ob.slots,u.keep b ob q n hb hx⟩
theorem Un.kept (k:∀ b u,h.get? b=some u->h'.get? b=some u):Un fs ex H H h h' :=
 ⟨fun b ob q _ _ _=>k b ob q,fun b ob q _ _ _=>⟨ob.slots,k b ob q⟩,fun _ _ _ n _=>n,fun b ob q _=>⟨ob,k b ob q⟩,fun _ _ q=>q,fun _ _ _ q=>q,fun _ ps q=>⟨#[],by rw [q];simp⟩⟩
theorem Un.refl:Un fs ex H H h h:=Un.kept fun _ _ q=>q
theorem Un.laid (k:∀ b u,h.get? b=some u->h'.get? b=some u) (hp:h.objs.size<=a) (hn:H a=none):Un fs ex H (upd H a o) h h' where
 keep:=fun b u q _ _ _=>k b u q
 slot:=fun b u q _ _ _=>⟨u.slots,k b u q⟩
 free:=fun b u q n _=>by rw [Ax (Nat.ne_of_lt (Nat.lt_of_lt_of_le (Heap.lt_size q) hp))];exact n
 there:=fun b u q _=>⟨u,k b u q⟩
 tups:=fun b xs q=>by rw [Ax (A8 q hn)];exact q
 frzs:=fun b u xs q=>by rw [Ax (A8 q hn)];exact q
 tbls:=fun b ps q=>⟨#[],by rw [Ax (A8 q hn),q];simp⟩
theorem Un.write (mu:Mut (H x)) (he:e=x\/H e=some (.own x)) (k:∀ b u,b≠e->h.get? b=some u->h'.get? b=some u) (heo:∃ u,h'.get? e=some u):Un fs ex H (upd H x o) h h':=by
 have hx:∀ b,H b=none->b≠x:=fun b n z=>by subst z;rw [n] at mu;exact mu
 have hb:∀ b,H b=none->b≠e:=fun b n z=>by
  subst z
  rcases he with r | r
  . exact hx b n r
  . rw [n] at r;cases r
 have hm:∀ b u,H b=some u->¬Mut (some u)->b≠x:=fun b u q nm z=>by subst z;rw [q] at mu;exact nm mu
 refine⟨fun b u q n _ _=>k b u (hb b n) q,fun b u q n _ _=>⟨u.slots,k b u (hb b n) q⟩,fun b u q n _=>by rw [Ax (hx b n)];exact n,fun b u q _=>?_,
  fun b xs q=>by rw [Ax (hm b _ q fun z=>z)];exact q,fun b u xs q=>by rw [Ax (hm b _ q fun z=>z)];exact q,fun b ps q=>⟨#[],by rw [Ax (hm b _ q fun z=>z),q];simp⟩⟩
 by_cases hbe:b=e
 . subst hbe;exact heo
 . exact ⟨u,k b u hbe q⟩
end
def trk (h:Heap) (H:Hp):List Addr:=(List.range h.objs.size).filter fun a=>(H a).isSome
def hidT (h:Heap) (H:Hp):Heap:=PySem.W.hideAll h (trk h H)
theorem e9 (h:Heap) (H:Hp):(hidT h H).objs.size=h.objs.size:=PySem.W.hideAll_size _ _
theorem u7 {h:Heap}{H:Hp}{b:Addr}{o:Obj} (e:h.get? b=some o) (n:H b=none):(hidT h H).get? b=some o :=
 PySem.W.hideAll_get _ e fun hm=>by
  have q:(H b).isSome=true:=(List.mem_filter.mp hm).2
  rw [n] at q;simp at q
theorem Ad9 {h:Heap}{H:Hp}{b:Addr}{o:Obj} (e:(hidT h H).get? b=some o):h.get? b=some o/\H b=none:=by
 have e':h.get? b=some o:=PySem.W.of_hideAll (trk h H) e
 refine⟨e',?_⟩
 cases q:H b with
 | none=>rfl
 | some x =>
   have hm:b∈trk h H:=List.mem_filter.mpr ⟨List.mem_range.mpr (Heap.lt_size e'),by simp [q]⟩
   have z:(hidT h H).get? b=none:=PySem.W.hideAll_none (trk h H) hm
   rw [z] at e;cases e
def Ag8 (g h:Heap) (L:Addr):List (Addr × Obj):=(List.range h.objs.size).filterMap fun a=>if a=L\/(g.get? a).isSome=true then none else (h.get? a).map fun o=>(a,o)
def rest (g h:Heap) (L d:Addr):List (Addr × Obj):=(Ag8 g h L).filter fun p=>decide (p.1≠d)
end L2
namespace L2
open PySem PySem.Spec PyProof.Rows
structure Mod (K:W.Frag) (mg:Str->Option Value) (base:Heap):Prop where
 kin:K.In base
 glob:base.Ns mainGlobals mg
 blt:∃ mb,base.Ns builtinsNs mb/\∀ x:Str,x≠"__name__"->mb x=bootBuiltins x
 nolimit:base.NoLimit
structure Cx where
 prog:Program
 w:World
 K:PySem.W.Frag
 mg:Str->Option Value
 base:Heap
 A:Around
 N:List Str
 s₀:Shared
 H₀:Hp
 env:Env
 outer:List Env
 stack:List Env
 ex:List Addr
 fn:Str->Bool
 calm:Bool
 pn:List (Addr × Obj)
 xe:Value->Shared->Prop
def frs (l:List Env):List Addr:=l.filterMap (·.frame)
abbrev Cx.fs (X:Cx):List Addr:=frs X.outer
def Vis (sc:Scope) (x:Str):Prop:=sc.names.lookup x=some .local\/sc.names.lookup x=some .cell\/sc.names.lookup x=some .free
def Loc (sc:Scope) (x:Str):Prop:=sc.names.lookup x=some .local\/sc.names.lookup x=some .cell
def Look (env:Env) (h:Heap) (m:Str->Option Value) (x:Str) (u:Value):Prop :=
 (env.kindOf x=some .local/\m x=some u)\/((env.kindOf x=some .cell\/env.kindOf x=some .free)/\∃ c,env.cells.lookup x=some c/\h.IsCell c (some u))
structure Cx.Ok (X:Cx):Prop where
 mod:Mod X.K X.mg X.base
 kind:X.env.scope.kind=.function
 glob:X.env.globals=mainGlobals
 blt:X.env.builtins=builtinsNs
 above:X.s₀.heap.objs.size<=X.env.locals
 inj:∀ x y c,X.env.cells.lookup x=some c->X.env.cells.lookup y=some c->x=y
 has:∀ x,(X.env.kindOf x=some .cell\/X.env.kindOf x=some .free)->∃ c,X.env.cells.lookup x=some c
 cab:∀ x c,X.fn x=true->X.env.cells.lookup x=some c->X.s₀.heap.objs.size<=c
 hd:X.calm=true->X.A.handled=none
 frames:X.A.frames=some X.stack
 stk:X.stack=X.outer\/(X.stack=X.env::X.outer/\X.env.frame=some X.env.locals)
 exf:∀ b∈X.ex,b≠X.env.locals/\∀ x c,X.env.cells.lookup x=some c->c≠b
 bs:∀ b o,X.base.get? b=some o->X.s₀.heap.get? b=some o/\X.H₀ b=none
 bsz:X.base.objs.size<=X.s₀.heap.objs.size
 noex:∀ b o,X.base.get? b=some o->b ∉ X.ex
 exfs:∀ b∈X.ex,b ∉ X.fs
 funs:X.s₀.heap.FunFrames X.base X.outer
 frf:∀ b∈X.fs,X.H₀ b=none
structure Inv (X:Cx) (Aa:List (Addr × Obj)) (σ:List (Option V)) (H:Hp) (s:Shared):Prop where
 ok:X.Ok
 os:s.os=X.s₀.os
 bare:AllBare s.gens
 base:Un X.fs X.ex X.H₀ H X.s₀.heap s.heap
 loc:∃ m,s.heap.Ns X.env.locals m/\∀ (i:Nat) (x:Str) (v:V),X.N[i]?=some x->σ[i]?=some (some v)->Vis X.env.scope x->∃ u,RelV v u/\Look X.env s.heap m x u
 cell:∀ x c,X.env.cells.lookup x=some c->∃ v,s.heap.IsCell c v
 free:H X.env.locals=none
 freeC:∀ x c,X.env.cells.lookup x=some c->H c=none
 pin:∀ p∈X.pn++Aa,s.heap.get? p.1=some p.2/\H p.1=none/\p.1≠X.env.locals/\p.1 ∉ X.fs/\∀ v,p.2.data≠.cell v
 hok:HOk X.prog X.w H s.heap
 len:σ.length=X.N.length
section
variable {X:Cx}{Aa:List (Addr × Obj)}{σ:List (Option V)}{H H':Hp}{s:Shared}{h':Heap}
theorem Cx.Ok.nofr (ok:X.Ok) {b:Addr}{o:Obj} (e:X.base.get? b=some o):b ∉ X.fs:=fun hb=>by
 have:=(ok.funs.mem hb).1
 rw [e] at this;cases this
theorem Inv.bs (I:Inv X Aa σ H s):∀ b o,X.base.get? b=some o->s.heap.get? b=some o/\H b=none:=fun b o e =>
 ⟨I.base.keep b o (I.ok.bs b o e).1 (I.ok.bs b o e).2 (I.ok.nofr e) (I.ok.noex b o e),I.base.free b o (I.ok.bs b o e).1 (I.ok.bs b o e).2 (I.ok.noex b o e)⟩
theorem Inv.bk (I:Inv X Aa σ H s):∀ b o,X.base.get? b=some o->s.heap.get? b=some o:=fun b o e=>(I.bs b o e).1
theorem Inv.mod (I:Inv X Aa σ H s):Mod X.K X.mg X.base:=I.ok.mod
theorem Inv.kIn (I:Inv X Aa σ H s):X.K.In s.heap:=I.ok.mod.kin.keeps I.bk
theorem Inv.lt (I:Inv X Aa σ H s):X.env.locals<s.heap.objs.size:=let ⟨_,hn,_⟩:=I.loc;hn.lt
theorem Inv.sz (I:Inv X Aa σ H s):X.s₀.heap.objs.size<=s.heap.objs.size:=Nat.le_trans I.ok.above (Nat.le_of_lt I.lt)
theorem Inv.nofs (I:Inv X Aa σ H s) {a:Addr} (h:s.heap.objs.size<=a):a ∉ X.fs:=fun hb=>by
 obtain⟨_,o,ho,_⟩:=I.ok.funs.mem hb
 exact absurd (Nat.lt_of_lt_of_le (Heap.lt_size ho) (Nat.le_trans I.sz h)) (Nat.lt_irrefl _)
theorem Inv.cne (I:Inv X Aa σ H s):∀ x c,X.env.cells.lookup x=some c->c≠X.env.locals:=fun x c e z=>by
 obtain⟨v,o,ho,hd⟩:=I.cell x c e
 obtain⟨m,⟨o',es,ep,ho',hd',_⟩,_⟩:=I.loc
 rw [z,ho'] at ho;cases ho;rw [hd'] at hd;cases hd
theorem Inv.funs (I:Inv X Aa σ H s):s.heap.FunFrames X.base X.outer:=by
 have all:∀ (l:List Env),(∀ b∈frs l,b∈X.fs)->X.s₀.heap.FunFrames X.base l->s.heap.FunFrames X.base l:=by
  intro l
  induction l with
  | nil=>intro _ _;trivial
  | cons env r ih =>
    intro hs hl
    obtain⟨hk,⟨L,o,hf,hn,ho,hd⟩,hr⟩:=hl
    have hL:L∈X.fs:=hs L (by unfold frs;rw [List.filterMap_cons,hf];exact List.mem_cons_self)
    obtain⟨sl,e⟩:=I.base.slot L o ho (I.ok.frf L hL) hL fun z=>I.ok.exfs L z hL
    exact ⟨hk,⟨L,_,hf,hn,e,hd⟩,ih (fun b hb=>hs b (by unfold frs;rw [List.filterMap_cons,hf];exact List.mem_cons_of_mem _ hb)) hr⟩
 exact all X.outer (fun _ hb=>hb) I.ok.funs
theorem Inv.stack (I:Inv X Aa σ H s):s.heap.FunFrames X.base X.stack:=by
 rcases I.ok.stk with e|⟨e,hf⟩
 . rw [e];exact I.funs
 . rw [e]
   obtain⟨m,hn,_⟩:=I.loc
   refine .cons (by rw [I.ok.kind];decide) hf hn ?_ I.funs
   exact Heap.get?_none_of_le (Nat.le_trans I.ok.bsz I.ok.above)
theorem Inv.stkSub (I:Inv X Aa σ H s):∀ b∈frs X.stack,b∈X.env.locals::X.fs:=fun b hb=>by
 rcases I.ok.stk with e|⟨e,hf⟩
 . rw [e] at hb;exact List.mem_cons_of_mem _ hb
 . rw [e] at hb
   unfold frs at hb
   rw [List.filterMap_cons,hf] at hb
   exact hb
theorem Inv.stkFree (I:Inv X Aa σ H s):∀ b∈frs X.stack,H b=none:=fun b hb=>by
 rcases List.mem_cons.mp (I.stkSub b hb) with e | hb
 . rw [e];exact I.free
 . obtain⟨_,o,ho,_⟩:=I.ok.funs.mem hb
   exact I.base.free b o ho (I.ok.frf b hb) fun z=>I.ok.exfs b z hb
theorem Inv.step {g':Array GenState}{t':Nat}{d':Drawn}{ch:List Addr} (I:Inv X Aa σ H s)
 (hch:∀ b∈ch,(b∈X.ex\/X.s₀.heap.objs.size<=b)/\b≠X.env.locals/\(∀ x c,X.env.cells.lookup x=some c->c≠b)/\∀ p∈X.pn++Aa,p.1≠b)
 (keep:∀ b o,b≠X.env.locals->b ∉ X.fs->b ∉ ch->s.heap.get? b=some o->H b=none->h'.get? b=some o)
 (slot:∀ b o,b≠X.env.locals->b∈X.fs->b ∉ ch->s.heap.get? b=some o->H b=none->∃ sl,h'.get? b=some { o with slots:=sl }) (free:∀ b o,b ∉ ch->s.heap.get? b=some o->H b=none->H' b=none)
 (there:∀ b o,b ∉ ch->s.heap.get? b=some o->∃ o',h'.get? b=some o')
 (tups:∀ b xs,H b=some (.tup xs)->H' b=some (.tup xs)) (frzs:∀ b o u,H b=some (.frz o u)->H' b=some (.frz o u)) (tbls:∀ b ps,H b=some (.tbl ps)->∃ more,H' b=some (.tbl (ps++more)))
 (ns:∀ m,s.heap.Ns X.env.locals m->h'.Ns X.env.locals m) (hok:HOk X.prog X.w H' h') (hg:AllBare g') :
 Inv X Aa σ H' { s with heap:=h',gens:=g',drawn:=d',toks:=t' }:=by
 have neL:∀ b o,X.s₀.heap.get? b=some o->b≠X.env.locals:=fun b o e=>Nat.ne_of_lt (Nat.lt_of_lt_of_le (Heap.lt_size e) I.ok.above)
 have neC:∀ b o,X.s₀.heap.get? b=some o->b ∉ X.ex->b ∉ ch:=fun b o e hx hb=>by
  rcases (hch b hb).1 with z | z
  . exact hx z
  . exact absurd (Nat.lt_of_lt_of_le (Heap.lt_size e) z) (Nat.lt_irrefl _)
 have cellK:∀ x c,X.env.cells.lookup x=some c->∀ v,s.heap.IsCell c v->h'.IsCell c v:=fun x c e v ⟨o,ho,hd⟩=>by
  have nch:c ∉ ch:=fun z=>(hch c z).2.2.1 x c e rfl
  by_cases hc:c∈X.fs
  . obtain⟨sl,q⟩:=slot c o (I.cne x c e) hc nch ho (I.freeC x c e)
    exact ⟨_,q,hd⟩
  . exact ⟨o,keep c o (I.cne x c e) hc nch ho (I.freeC x c e),hd⟩
 refine⟨I.ok,I.os,hg,⟨fun b o e n hb hx=>?_,fun b o e n hb hx=>?_,fun b o e n hx=>?_,fun b o e hx=>?_,fun b xs e=>tups b xs (I.base.tups b xs e),fun b o xs e=>frzs b o xs (I.base.frzs b o xs e),fun b ps e=>?_⟩,?_,fun x c e=>?_,?_,fun x c e=>?_,fun p hp=>?_,hok,I.len⟩
 . exact keep b o (neL b o e) hb (neC b o e hx) (I.base.keep b o e n hb hx) (I.base.free b o e n hx)
 . obtain⟨sl,e1⟩:=I.base.slot b o e n hb hx
   obtain⟨sl',e2⟩:=slot b _ (neL b o e) hb (neC b o e hx) e1 (I.base.free b o e n hx)
   exact ⟨sl',e2⟩
 . obtain⟨o',e1⟩:=I.base.there b o e hx
   exact free b o' (neC b o e hx) e1 (I.base.free b o e n hx)
 . obtain⟨o',e1⟩:=I.base.there b o e hx
   exact there b o' (neC b o e hx) e1
 . obtain⟨m1,e1⟩:=I.base.tbls b ps e
   obtain⟨m2,e2⟩:=tbls b _ e1
   exact ⟨m1++m2,by rw [e2,Array.append_assoc]⟩
 . obtain⟨m,hn,hl⟩:=I.loc
   refine⟨m,ns m hn,fun i x v e1 e2 e3=>?_⟩
   obtain⟨u,r,l⟩:=hl i x v e1 e2 e3
   refine⟨u,r,?_⟩
   rcases l with l|⟨k,c,e,z⟩
   . exact .inl l
   . exact .inr ⟨k,c,e,cellK x c e _ z⟩
 . obtain⟨v,z⟩:=I.cell x c e
   exact ⟨v,cellK x c e v z⟩
 . obtain⟨m,⟨o,_,_,ho,_⟩,_⟩:=I.loc
   exact free _ o (fun z=>(hch _ z).2.1 rfl) ho I.free
 . obtain⟨v,o,ho,hd⟩:=I.cell x c e
   exact free c o (fun z=>(hch c z).2.2.1 x c e rfl) ho (I.freeC x c e)
 . obtain⟨e,n,ne,nf,d⟩:=I.pin p hp
   have nch:p.1 ∉ ch:=fun z=>(hch p.1 z).2.2.2 p hp rfl
   exact ⟨keep p.1 p.2 ne nf nch e n,free p.1 p.2 nch e n,ne,nf,d⟩
theorem Inv.un {t':Nat} (I:Inv X Aa σ H s) (u:Un X.fs [] H H' s.heap h') (hok:HOk X.prog X.w H' h'):Inv X Aa σ H' { s with heap:=h',toks:=t' }:=by
 obtain⟨m,⟨o,es,ep,ho,r⟩,_⟩:=id I.loc
 obtain⟨sl,hL⟩:=u.any ho I.free (by simp)
 exact I.step (g':=s.gens) (d':=s.drawn) (ch:=[]) (fun _ z=>nomatch z) (fun b o _ hb _ e n=>u.keep b o e n hb (by simp)) (fun b o _ hb _ e n=>u.slot b o e n hb (by simp)) (fun b o _ e n=>u.free b o e n (by simp)) (fun b o _ e=>u.there b o e (by simp)) u.tups u.frzs u.tbls (fun m' hm=>by
  obtain⟨o',es',ep',ho',r'⟩:=hm
  rw [ho] at ho';cases ho'
  exact ⟨_,es',ep',hL,r'⟩) hok I.bare
theorem Inv.call {g':Array GenState}{t':Nat}{d':Drawn}{ch:List Addr} (I:Inv X Aa σ H s) (u:Un (frs X.stack) ch H H' s.heap h') (hok:HOk X.prog X.w H' h') (hg:AllBare g')
 (hch:∀ b∈ch,(b∈X.ex\/X.s₀.heap.objs.size<=b)/\b≠X.env.locals/\(∀ x c,X.env.cells.lookup x=some c->c≠b)/\∀ p∈X.pn++Aa,p.1≠b) :
 Inv X Aa σ H' { s with heap:=h',gens:=g',drawn:=d',toks:=t' }:=by
 obtain⟨m,⟨o,es,ep,ho,r⟩,_⟩:=id I.loc
 obtain⟨sl,hL⟩:=u.any ho I.free fun z=>(hch _ z).2.1 rfl
 exact I.step (ch:=ch) hch (fun b o hL hb hc e n=>u.keep b o e n (fun z=>(List.mem_cons.mp (I.stkSub b z)).elim hL hb) hc) (fun b o _ _ hc e n=>u.any e n hc) (fun b o hc e n=>u.free b o e n hc) (fun b o hc e=>u.there b o e hc) u.tups u.frzs u.tbls (fun m' hm=>by
  obtain⟨o',es',ep',ho',r'⟩:=hm
  rw [ho] at ho';cases ho'
  exact ⟨_,es',ep',hL,r'⟩) hok hg
theorem Inv.turned {t':Nat}{it:Addr} (I:Inv X Aa σ H s) (k:∀ b o,b≠it->s.heap.get? b=some o->h'.get? b=some o) (hn:H it=none) (hL:it≠X.env.locals)
 (h1:it∈X.ex\/X.s₀.heap.objs.size<=it) (h2:∀ x c,X.env.cells.lookup x=some c->c≠it) (h3:∀ p∈X.pn++Aa,p.1≠it):Inv X Aa σ H { s with heap:=h',toks:=t' }:=by
 have nit:∀ b u,H b=some u->b≠it:=fun b u e z=>by rw [z,hn] at e;cases e
 refine I.step (g':=s.gens) (d':=s.drawn) (ch:=[it]) (fun b hb=>?_) (fun b o _ _ hc e _=>k b o (fun z=>hc (by simp [z])) e) (fun b o _ _ hc e _=>⟨o.slots,k b o (fun z=>hc (by simp [z])) e⟩) (fun _ _ _ _ n=>n)
  (fun b o hc e=>⟨o,k b o (fun z=>hc (by simp [z])) e⟩) (fun _ _ e=>e) (fun _ _ _ e=>e) (fun b ps e=>⟨#[],by rw [e];simp⟩) (fun m hm=>?_) (fun b u e=>?_) I.bare
 . have e:b=it:=by simpa using hb
   subst e
   exact ⟨h1,hL,h2,h3⟩
 . obtain⟨o,es,ep,ho,r⟩:=hm
   exact ⟨o,es,ep,k _ o (Ne.symm hL) ho,r⟩
 . refine (I.hok b u e).stay (fun c v hc q=>k c v ?_ q) (fun _ q=>q) fun _ _ q=>q
   rcases hc with z | z
   . rw [z];exact nit b u e
   . exact nit c _ z
theorem Inv.tok (I:Inv X Aa σ H s) (t:Nat):Inv X Aa σ H { s with toks:=t }:=I.un (h':=s.heap) (t':=t) Un.refl I.hok
theorem Inv.kept {t':Nat} (I:Inv X Aa σ H s) (k:∀ b u,s.heap.get? b=some u->h'.get? b=some u):Inv X Aa σ H { s with heap:=h',toks:=t' }:=I.un (Un.kept k) (I.hok.kept k)
theorem Inv.laid {a:Addr}{o:HO}{t':Nat} (I:Inv X Aa σ H s) (k:∀ b u,s.heap.get? b=some u->h'.get? b=some u) (hp:s.heap.objs.size<=a) (new:ObjOk X.prog X.w (upd H a o) h' a o) :
 Inv X Aa σ (upd H a o) { s with heap:=h',toks:=t' }:=I.un (Un.laid k hp (I.hok.fresh hp)) (I.hok.laid k hp new)
theorem Inv.write {x e:Addr}{o:HO}{t':Nat} (I:Inv X Aa σ H s) (mu:Mut (H x)) (he:e=x\/H e=some (.own x)) (k:∀ b u,b≠e->s.heap.get? b=some u->h'.get? b=some u) (heo:∃ u,h'.get? e=some u)
 (new:ObjOk X.prog X.w (upd H x o) h' x o):Inv X Aa σ (upd H x o) { s with heap:=h',toks:=t' }:=I.un (Un.write mu he k heo) (I.hok.write mu he k heo new)
theorem Inv.pins_of {pins':List (Addr × Obj)} (I:Inv X Aa σ H s) (h:∀ p∈pins',s.heap.get? p.1=some p.2/\H p.1=none/\p.1≠X.env.locals/\p.1 ∉ X.fs/\∀ v,p.2.data≠.cell v):Inv X pins' σ H s :=
 ⟨I.ok,I.os,I.bare,I.base,I.loc,I.cell,I.free,I.freeC,fun p hp=>(List.mem_append.mp hp).elim (fun z=>I.pin p (List.mem_append_left _ z)) (h p),I.hok,I.len⟩
theorem Pw {N:List Str} (hN:N.Nodup) {i j:Nat}{x:Str} (a:N[i]?=some x) (b:N[j]?=some x):i=j:=by
 obtain⟨h1,e1⟩:=List.getElem?_eq_some_iff.mp a
 obtain⟨h2,e2⟩:=List.getElem?_eq_some_iff.mp b
 exact (List.getElem_inj hN).mp (e1.trans e2.symm)
theorem Qp {M:Model}{A:Around}{E:Value->Shared->Prop}{i:Nat}{x:Str}{v:V}{u:Value}{Q:Unit->Shared->Prop} (I:Inv X Aa σ H s) (hN:X.N.Nodup) (hi:X.N[i]?=some x) (hx:Loc X.env.scope x) (r:RelV v u)
 (h:∀ s',Inv X Aa (σ.set i (some v)) H s'->(∃ a,Heap.SameBut a s.heap s'.heap/\(a=X.env.locals\/X.env.cells.lookup x=some a))->Q () s') (hf:X.fn x=true\/X.env.scope.names.lookup x=some .local:=by first | exact .inl rfl | exact .inr rfl | assumption):wpAny M A (storeName X.env x u) Q E s:=by
 obtain⟨m,hn,hl⟩:=id I.loc
 have hcls:(X.env.scope.kind==.class || (X.env.scope.kind==.module&&X.env.locals != X.env.globals))=false:=by rw [I.ok.kind];rfl
 have hiσ:i<σ.length:=by rw [I.len];exact (List.getElem?_eq_some_iff.mp hi).1
 have cne:=I.cne
 have tracked:∀{a:Addr}{h':Heap},(∃ o,s.heap.get? a=some o/\H a=none)->Heap.SameBut a s.heap h'->HOk X.prog X.w H h':=fun {a h'} ha hs b ob e=>by
  obtain⟨_,_,hfree⟩:=ha
  refine (I.hok b ob e).stay (fun c w' hc q=>(hs.2 c ?_).trans q) (fun _ q=>q) fun _ _ q=>q
  rintro rfl
  rcases hc with rfl | hc
  . rw [hfree] at e;cases e
  . rw [hfree] at hc;cases hc
 rcases hx with hk | hk
 . refine wpAny_storeName_local hk hn (fun h' hn' hs=>?_) hcls
   obtain⟨oL,_,_,hoL,_⟩:=id hn
   refine h _ ⟨I.ok,I.os,I.bare,⟨fun b o e n hb hx=>?_,fun b o e n hb hx=>?_,I.base.free,fun b o e hx=>?_,I.base.tups,I.base.frzs,I.base.tbls⟩,⟨_,hn',fun j y v' e1 e2 e3=>?_⟩,fun y c e=>?_,I.free,I.freeC,fun p hp=>?_,tracked ⟨oL,hoL,I.free⟩ hs,by simpa using I.len⟩ ⟨_,hs,.inl rfl⟩
   . exact (hs.2 b (Nat.ne_of_lt (Nat.lt_of_lt_of_le (Heap.lt_size e) I.ok.above))).trans (I.base.keep b o e n hb hx)
   . obtain⟨sl,e1⟩:=I.base.slot b o e n hb hx
     exact ⟨sl,(hs.2 b (Nat.ne_of_lt (Nat.lt_of_lt_of_le (Heap.lt_size e) I.ok.above))).trans e1⟩
   . obtain⟨o',e1⟩:=I.base.there b o e hx
     exact ⟨o',(hs.2 b (Nat.ne_of_lt (Nat.lt_of_lt_of_le (Heap.lt_size e) I.ok.above))).trans e1⟩
   . by_cases hj:j=i
     . subst hj
       rw [hi] at e1;cases e1
       rw [List.getElem?_set_self hiσ] at e2
       cases e2
       exact ⟨u,r,.inl ⟨hk,by simp⟩⟩
     . rw [List.getElem?_set_ne (Ne.symm hj)] at e2
       obtain⟨u',r',q⟩:=hl j y v' e1 e2 e3
       refine⟨u',r',?_⟩
       rcases q with ⟨k,e⟩|⟨k,c,e,z⟩
       . refine .inl ⟨k,?_⟩
         have:y≠x:=fun e=>hj (Pw hN e1 (e▸hi))
         simp [this,e]
       . exact .inr ⟨k,c,e,z.sameBut hs (cne y c e)⟩
   . obtain⟨w',z⟩:=I.cell y c e
     exact ⟨w',z.sameBut hs (cne y c e)⟩
   . obtain⟨e,n,ne,nf,d⟩:=I.pin p hp
     exact ⟨(hs.2 p.1 ne).trans e,n,ne,nf,d⟩
 . have hfn:X.fn x=true:=by
    rcases hf with z | z
    . exact z
    . rw [z] at hk;cases hk
   obtain⟨c,hc⟩:=I.ok.has x (.inl hk)
   obtain⟨w',z⟩:=I.cell x c hc
   refine wpAny_storeName_cell I.ok.kind hk hc z (fun h' hc' hs=>?_)
   obtain⟨oc,hoc,hocd⟩:=id z
   refine h { s with heap:=h' } ⟨I.ok,I.os,I.bare,⟨fun b o e n hb hx=>?_,fun b o e n hb hx=>?_,I.base.free,fun b o e hx=>?_,I.base.tups,I.base.frzs,I.base.tbls⟩,⟨m,hn.sameBut hs (Ne.symm (cne x c hc)),fun j y v' e1 e2 e3=>?_⟩,fun y c' e=>?_,I.free,I.freeC,fun p hp=>?_,tracked ⟨oc,hoc,I.freeC x c hc⟩ hs,by simpa using I.len⟩ ⟨c,hs,.inr hc⟩
   . exact (hs.2 b (Nat.ne_of_lt (Nat.lt_of_lt_of_le (Heap.lt_size e) (I.ok.cab x c hfn hc)))).trans (I.base.keep b o e n hb hx)
   . obtain⟨sl,e1⟩:=I.base.slot b o e n hb hx
     exact ⟨sl,(hs.2 b (Nat.ne_of_lt (Nat.lt_of_lt_of_le (Heap.lt_size e) (I.ok.cab x c hfn hc)))).trans e1⟩
   . obtain⟨o',e1⟩:=I.base.there b o e hx
     exact ⟨o',(hs.2 b (Nat.ne_of_lt (Nat.lt_of_lt_of_le (Heap.lt_size e) (I.ok.cab x c hfn hc)))).trans e1⟩
   . by_cases hj:j=i
     . subst hj
       rw [hi] at e1;cases e1
       rw [List.getElem?_set_self hiσ] at e2
       cases e2
       exact ⟨u,r,.inr ⟨.inl hk,c,hc,hc'⟩⟩
     . rw [List.getElem?_set_ne (Ne.symm hj)] at e2
       obtain⟨u',r',q⟩:=hl j y v' e1 e2 e3
       refine⟨u',r',?_⟩
       rcases q with q|⟨k,c',e,z'⟩
       . exact .inl q
       . refine .inr ⟨k,c',e,z'.sameBut hs ?_⟩
         rintro rfl
         exact hj (Pw hN e1 (I.ok.inj _ _ _ e hc▸hi))
   . by_cases hcc:c'=c
     . subst hcc;exact ⟨_,hc'⟩
     . obtain⟨w2,z2⟩:=I.cell y c' e
       exact ⟨w2,z2.sameBut hs hcc⟩
   . obtain⟨e,n,ne,nf,d⟩:=I.pin p hp
     refine⟨(hs.2 p.1 ?_).trans e,n,ne,nf,d⟩
     intro q
     rw [q,hoc] at e
     have q':oc=p.2:=Option.some.inj e
     exact d w' (by rw [←q'];exact hocd)
theorem Oy {M:Model}{A:Around}{E:Value->Shared->Prop}{i:Nat}{x:Str}{v:V}{u:Value}{Q:Unit->Shared->Prop} (I:Inv X Aa σ H s) (hN:X.N.Nodup) (hi:X.N[i]?=some x) (hx:Loc X.env.scope x) (r:RelV v u)
 (h:∀ s',Inv X Aa (σ.set i (some v)) H s'->Q () s') (hf:X.fn x=true\/X.env.scope.names.lookup x=some .local:=by first | exact .inl rfl | exact .inr rfl | assumption):wpAny M A (storeName X.env x u) Q E s :=
 Qp I hN hi hx r (fun s' I' _=>h s' I') hf
theorem Inv.call' {s':Shared}{ch:List Addr} (I:Inv X Aa σ H s) (ho:s'.os=s.os) (u:Un (frs X.stack) ch H H' s.heap s'.heap) (hok:HOk X.prog X.w H' s'.heap) (hg:AllBare s'.gens)
 (hch:∀ b∈ch,(b∈X.ex\/X.s₀.heap.objs.size<=b)/\b≠X.env.locals/\(∀ x c,X.env.cells.lookup x=some c->c≠b)/\∀ p∈X.pn++Aa,p.1≠b):Inv X Aa σ H' s':=by
 obtain⟨h',g',d',t',o'⟩:=s'
 have e:o'=s.os:=ho
 subst e
 exact I.call (g':=g') (t':=t') (d':=d') u hok hg hch
end
abbrev XK:=Value->Option Addr->Hp->Prop
abbrev St:=List (Option V)
abbrev VK:=V->Hp->Prop
abbrev TE:=St->Hp->VK->Prop
abbrev TT:=St->Hp->(Bool->Hp->Prop)->Prop
abbrev TA:=St->Hp->(List V->Hp->Prop)->Prop
structure Ends where
 nx:St->Hp->Prop
 rt:VK
 bk:St->Hp->Prop:=fun _ _=>False
 ct:St->Hp->Prop:=fun _ _=>False
abbrev TS:=Ends->St->Hp->Prop
def EP (X:Cx) (Aa:List (Addr × Obj)) (σ:St) (Q:VK) (u:Value) (s':Shared):Prop:=∃ v H',Inv X Aa σ H' s'/\RelV v u/\Q v H'
def TP (X:Cx) (Aa:List (Addr × Obj)) (σ:St) (Q:Bool->Hp->Prop) (b:Bool) (s':Shared):Prop:=∃ H',Inv X Aa σ H' s'/\Q b H'
def AP (X:Cx) (Aa:List (Addr × Obj)) (σ:St) (Q:List V->Hp->Prop) (us:List Value) (s':Shared):Prop:=∃ vs H',Inv X Aa σ H' s'/\Vals vs us/\Q vs H'
def SP (X:Cx) (Aa:List (Addr × Obj)) (D:Ends) (f:Flow) (s':Shared):Prop :=
 match f with
 | .next=>∃ σ' H',Inv X Aa σ' H' s'/\D.nx σ' H'
 | .brk=>∃ σ' H',Inv X Aa σ' H' s'/\D.bk σ' H'
 | .cont=>∃ σ' H',Inv X Aa σ' H' s'/\D.ct σ' H'
 | .ret u=>∃ v σ' H',Inv X Aa σ' H' s'/\RelV v u/\D.rt v H'
def PE (X:Cx) (e:Expr) (t:TE):Prop :=
 ∀ (Aa:List (Addr × Obj)) (s:Shared) (σ:St) (H:Hp) (Q:VK),Inv X Aa σ H s->t σ H Q->wpAny (model X.prog X.w) X.A (eval e X.env) (EP X Aa σ Q) X.xe s
def PT (X:Cx) (e:Expr) (t:TT):Prop :=
 ∀ (Aa:List (Addr × Obj)) (s:Shared) (σ:St) (H:Hp) (Q:Bool->Hp->Prop),Inv X Aa σ H s->t σ H Q->wpAny (model X.prog X.w) X.A (isTrue e X.env (eval e X.env)) (TP X Aa σ Q) X.xe s
def PW (X:Cx) (e:Expr) (t:TT):Prop :=
 ∀ (whole:Sem Value) (Aa:List (Addr × Obj)) (s:Shared) (σ:St) (H:Hp) (Q:Bool->Hp->Prop),Inv X Aa σ H s->t σ H Q->wpAny (model X.prog X.w) X.A (isTrue e X.env whole) (TP X Aa σ Q) X.xe s
theorem PW.pt {X:Cx}{e:Expr}{t:TT} (h:PW X e t):PT X e t:=h _
def PA (X:Cx) (es:List Expr) (t:TA):Prop :=
 ∀ (pos:Pos) (Aa:List (Addr × Obj)) (s:Shared) (σ:St) (H:Hp) (Q:List V->Hp->Prop),Inv X Aa σ H s->t σ H Q->wpAny (model X.prog X.w) X.A (spliced (backTo pos (starEach es X.env))) (AP X Aa σ Q) X.xe s
def PS (X:Cx) (st:Stmt) (t:TS):Prop :=
 ∀ (Aa:List (Addr × Obj)) (s:Shared) (σ:St) (H:Hp) (D:Ends),Inv X Aa σ H s->t D σ H->wpAny (model X.prog X.w) X.A (exec st X.env) (SP X Aa D) X.xe s
def PSs (X:Cx) (st:List Stmt) (t:TS):Prop :=
 ∀ (Aa:List (Addr × Obj)) (s:Shared) (σ:St) (H:Hp) (D:Ends),Inv X Aa σ H s->t D σ H->wpAny (model X.prog X.w) X.A (execs st X.env) (SP X Aa D) X.xe s
theorem thn {α:Type}{t:Sem α}{Q Q':α->Shared->Prop}{M:Model}{A:Around}{E:Value->Shared->Prop}{s:Shared} (h:wpAny M A t Q E s) (hQ:∀ a s,Q a s->Q' a s):wpAny M A t Q' E s:=wpAny_mono h hQ fun _ _ x=>x
end L2
namespace L2
open PySem PySem.Spec PyProof.Rows
section
variable {X:Cx}
theorem bin {a b:Expr}{ta tb:TE} (ha:PE X a ta) (hb:PE X b tb) {Aa:List (Addr × Obj)}{s:Shared}{σ:St}{H:Hp}{R:V->V->Hp->Prop} (I:Inv X Aa σ H s) (h:ta σ H fun x H1=>tb σ H1 fun y H2=>R x y H2)
 {α:Type}{Q:α->Shared->Prop}{f:Value->Value->Sem α}
 (hf:∀ v u s2 x y H2,Inv X Aa σ H2 s2->RelV x v->RelV y u->R x y H2->wpAny (model X.prog X.w) X.A (f v u) Q X.xe s2) :
 wpAny (model X.prog X.w) X.A (eval a X.env) (fun v s₁=>wpAny (model X.prog X.w) X.A (eval b X.env) (fun u s₂=>wpAny (model X.prog X.w) X.A (f v u) Q X.xe s₂) X.xe s₁) X.xe s:=by
 refine thn (ha Aa s σ H _ I h) fun v s1 ⟨x,H1,I1,r1,q1⟩=>?_
 refine thn (hb Aa s1 σ H1 _ I1 q1) fun u s2 ⟨y,H2,I2,r2,q2⟩=>?_
 exact hf v u s2 x y H2 I2 r1 r2 q2
def tVar (i:Nat):TE:=fun σ H Q=>∃ v,σ[i]?=some (some v)/\Q v H
def tC (v:V):TE:=fun _ H Q=>Q v H
theorem Aj4 {i:Nat}{x:Str}{pos:Pos} (hN:X.N[i]?=some x) (hv:Vis X.env.scope x) (hd:(x==("__debug__":Str))=false:=by decide) (hcd:(x==("__classdict__":Str))=false:=by decide):PE X (.Name x pos) (tVar i):=by
 intro Aa s σ H Q I h
 obtain⟨v,e,h⟩:=h
 obtain⟨m,hn,hl⟩:=I.loc
 obtain⟨u,r,l⟩:=hl i x v hN e hv
 have fin:EP X Aa σ Q u s:=⟨v,H,I,r,h⟩
 rcases l with ⟨hk,hm⟩|⟨hk,c,hc,hcell⟩
 . exact wpAny_Name (wpAny_loadName_local I.ok.kind hk hn hm fin) hd
 . rcases hk with hk | hk
   . exact wpAny_Name (wpAny_loadName_cell I.ok.kind hk hc hcell fin) hd
   . exact wpAny_Name (wpAny_loadName_free I.ok.kind hk hc hcell fin hcd) hd
theorem Am {i j pos}:PE X (.Constant (.int i) j pos) (tC (.int i)):=fun _ _ _ H _ I h=>wpAny_Constant_int ⟨.int i,H,I.tok _,⟨_,rfl⟩,h⟩
theorem Fr {b j pos}:PE X (.Constant (.bool b) j pos) (tC (.bl b)):=fun _ _ _ H _ I h=>Constant_bool ⟨.bl b,H,I,rfl,h⟩
theorem N6 {j pos}:PE X (.Constant .none j pos) (tC .non):=fun _ _ _ H _ I h=>Constant_none ⟨.non,H,I,rfl,h⟩
theorem A5 {x j pos}:PE X (.Constant (.str x) j pos) (tC (.str x)):=fun _ _ _ H _ I h=>Calls.Constant_str ⟨.str x,H,I.tok _,⟨_,rfl⟩,h⟩
def Gl (X:Cx) (x:Str):Prop:=X.env.kindOf x=some .globalImplicit
theorem F2 {E:Value->Shared->Prop}{Aa:List (Addr × Obj)}{s:Shared}{σ:St}{H:Hp}{x:Str}{u:Value}{pos:Pos}{Q:Value->Shared->Prop} (I:Inv X Aa σ H s) (hg:Gl X x) (hm:X.mg x=some u) (h:Q u s)
 (hd:(x==("__debug__":Str))=false:=by decide):wpAny (model X.prog X.w) X.A (eval (.Name x pos) X.env) Q E s :=
 Calls.Name_function_global I.ok.kind hg (Calls.loadGlobal_global (by rw [I.ok.glob];exact I.mod.glob.keeps I.bk) hm h) hd
theorem Sn {E:Value->Shared->Prop}{Aa:List (Addr × Obj)}{s:Shared}{σ:St}{H:Hp}{x:Str}{u:Value}{pos:Pos}{Q:Value->Shared->Prop} (I:Inv X Aa σ H s) (hg:Gl X x) (hm:X.mg x=none) (hv:bootBuiltins x=some u) (h:Q u s)
 (hn:x≠"__name__":=by decide) (hd:(x==("__debug__":Str))=false:=by decide):wpAny (model X.prog X.w) X.A (eval (.Name x pos) X.env) Q E s:=by
 obtain⟨mb,h1,h2⟩:=I.mod.blt
 exact Calls.Name_function_global I.ok.kind hg (Calls.loadGlobal_builtin (by rw [I.ok.glob];exact I.mod.glob.keeps I.bk) hm (by rw [I.ok.blt];exact h1.keeps I.bk) ((h2 x hn).trans hv) h) hd
theorem E9 {x:Str}{v:V}{u:Value}{pos:Pos} (hg:Gl X x) (hm:X.mg x=some u) (r:RelV v u) (hd:(x==("__debug__":Str))=false:=by decide):PE X (.Name x pos) (tC v) :=
 fun _ _ _ H _ I h=>F2 I hg hm ⟨v,H,I,r,h⟩ hd
theorem D3 {x:Str}{v:V}{u:Value}{pos:Pos} (hg:Gl X x) (hm:X.mg x=none) (hv:bootBuiltins x=some u) (r:RelV v u) (hn:x≠"__name__":=by decide) (hd:(x==("__debug__":Str))=false:=by decide):PE X (.Name x pos) (tC v) :=
 fun _ _ _ H _ I h=>Sn I hg hm hv ⟨v,H,I,r,h⟩ hn hd
variable {a b:Expr}{ta tb:TE}{pos:Pos}
def PC (X:Cx) (op:CmpOp) (a b:Expr) (t:TE):Prop :=
 ∀ (Aa:List (Addr × Obj)) (s:Shared) (σ:St) (H:Hp) (Q:VK),Inv X Aa σ H s->t σ H Q →
   wpAny (model X.prog X.w) X.A (eval a X.env) (fun v s₁=>wpAny (model X.prog X.w) X.A (eval b X.env) (fun u s₂=>wpAny (model X.prog X.w) X.A (compareOp op v u) (EP X Aa σ Q) X.xe s₂) X.xe s₁) X.xe s
theorem t7 (b:Expr) {op:CmpOp} (h:op≠.In) (h2:op≠.NotIn):behindInMarks op b=false:=by
 have e1:(op==CmpOp.In)=false:=by cases op<;>first | rfl | exact absurd rfl h
 have e2:(op==CmpOp.NotIn)=false:=by cases op<;>first | rfl | exact absurd rfl h2
 cases b<;>simp [behindInMarks,e1,e2]
def tB (t:TE):TT:=fun σ H Q=>t σ H fun x H1=>∃ c,x=.bl c/\Q c H1
theorem Aq2 {op:CmpOp}{t:TE} (h:PC X op a b t) (h1:behindInMarks op b=false:=by first | exact t7 _ (by decide) (by decide) | rfl):PT X (.Compare a [op] [b] pos) (tB t):=by
 intro Aa s σ H Q I hw
 refine wpAny_isTrue_Compare1 (thn (h Aa s σ H _ I hw) fun v s1 h1=>thn h1 fun u s2 h2=>thn h2 fun c s3 ⟨x,H1,I1,r1,q1⟩=>?_) h1
 obtain⟨d,rfl,q⟩:=q1
 cases r1
 exact wpAny_truthy_bool ⟨H1,I1,q⟩
theorem Et {e:Expr}{t:TE} (h:PE X e t) (he:∀ whole,isTrue e X.env whole=(do let v ←whole;standAt e.pos;holding [v] (truthy v)):=by intro _;rfl):PT X e (tB t):=by
 intro Aa s σ H Q I hw
 refine isTrue_plain (thn (h Aa s σ H _ I hw) fun v s1 ⟨x,H1,I1,r1,q1⟩=>?_) (he _)
 obtain⟨d,rfl,q⟩:=q1
 cases r1
 exact wpAny_truthy_bool ⟨H1,I1,q⟩
variable {tA tB':TT}{rest:List Expr}
def tAnd (t u:TT):TT:=fun σ H Q=>t σ H fun c H1=>if c=true then u σ H1 Q else Q false H1
def tOr (t u:TT):TT:=fun σ H Q=>t σ H fun c H1=>if c=true then Q true H1 else u σ H1 Q
def tNot (t:TT):TT:=fun σ H Q=>t σ H fun c H1=>Q (!c) H1
theorem Lp (ha:PT X a tA):PW X (.BoolOp .And [a] pos) tA:=by
 intro wh Aa s σ H Q I h
 refine isTrue_and (thn (ha Aa s σ H Q I h) fun c s1 e=>?_)
 cases c with
 | true=>exact isTrue_and_nil e
 | false=>exact e
theorem Re (ha:PT X a tA):PW X (.BoolOp .Or [a] pos) tA:=by
 intro wh Aa s σ H Q I h
 refine isTrue_or (thn (ha Aa s σ H Q I h) fun c s1 e=>?_)
 cases c with
 | false=>exact isTrue_or_nil e
 | true=>exact e
theorem Rf (ha:PT X a tA) (hb:PW X (.BoolOp .And (b::rest) pos) tB'):PW X (.BoolOp .And (a::b::rest) pos) (tAnd tA tB'):=by
 intro wh Aa s σ H Q I h
 refine isTrue_and (thn (ha Aa s σ H _ I h) fun c s1 ⟨H1,I1,q1⟩=>?_)
 cases c with
 | true=>exact hb wh Aa s1 σ H1 Q I1 q1
 | false=>exact ⟨H1,I1,q1⟩
theorem Xv (ha:PT X a tA) (hb:PW X (.BoolOp .Or (b::rest) pos) tB'):PW X (.BoolOp .Or (a::b::rest) pos) (tOr tA tB'):=by
 intro wh Aa s σ H Q I h
 refine isTrue_or (thn (ha Aa s σ H _ I h) fun c s1 ⟨H1,I1,q1⟩=>?_)
 cases c with
 | true=>exact ⟨H1,I1,q1⟩
 | false=>exact hb wh Aa s1 σ H1 Q I1 q1
theorem Eu (ha:PT X a tA):PT X (.UnaryOp .Not a pos) (tNot tA):=by
 intro Aa s σ H Q I h
 exact isTrue_not (ha Aa s σ H (fun c H1=>Q (!c) H1) I h)
def An6 (ta tb:TE):TE:=fun σ H Q=>ta σ H fun x H1=>∃ c,x=.bl c/\if c=true then tb σ H1 Q else Q (.bl false) H1
def tOrV (ta tb:TE):TE:=fun σ H Q=>ta σ H fun x H1=>∃ c,x=.bl c/\if c=true then Q (.bl true) H1 else tb σ H1 Q
def An0 (ta:TE):TE:=fun σ H Q=>ta σ H fun x H1=>∃ c,x=.bl c/\Q (.bl (!c)) H1
theorem Im {op}{t:TE} (h:PE X a t):PE X (.BoolOp op [a] pos) t:=fun Aa s σ H Q I hw=>BoolOp_one (h Aa s σ H Q I hw)
theorem Ip (ha:PE X a ta) (hb:PE X (.BoolOp .And (b::rest) pos) tb):PE X (.BoolOp .And (a::b::rest) pos) (An6 ta tb):=by
 intro Aa s σ H Q I h
 refine BoolOp_and (thn (ha Aa s σ H _ I h) fun v s1 ⟨x,H1,I1,r1,q1⟩=>?_)
 obtain⟨c,rfl,q1⟩:=q1
 cases r1
 refine wpAny_truthy_bool ?_
 cases c with
 | true=>exact hb Aa s1 σ H1 Q I1 q1
 | false=>exact ⟨.bl false,H1,I1,rfl,q1⟩
theorem Ao1 (ha:PE X a ta) (hb:PE X (.BoolOp .Or (b::rest) pos) tb):PE X (.BoolOp .Or (a::b::rest) pos) (tOrV ta tb):=by
 intro Aa s σ H Q I h
 refine BoolOp_or (thn (ha Aa s σ H _ I h) fun v s1 ⟨x,H1,I1,r1,q1⟩=>?_)
 obtain⟨c,rfl,q1⟩:=q1
 cases r1
 refine wpAny_truthy_bool ?_
 cases c with
 | false=>exact hb Aa s1 σ H1 Q I1 q1
 | true=>exact ⟨.bl true,H1,I1,rfl,q1⟩
theorem y0 (ha:PE X a ta):PE X (.UnaryOp .Not a pos) (An0 ta):=by
 intro Aa s σ H Q I h
 refine UnaryOp_ (thn (ha Aa s σ H _ I h) fun v s1 ⟨x,H1,I1,r1,q1⟩=>?_)
 obtain⟨c,rfl,q1⟩:=q1
 cases r1
 exact not_of (wpAny_truthy_bool ⟨.bl (!c),H1,I1,rfl,q1⟩)
end
end L2
namespace L2
open PySem PySem.Spec PyProof.Rows
def SqL (K:W.Frag) (H:Hp) (a:Addr) (xs:List V):Prop :=
 Rd H a (.lst xs) ∨
  ∃ (o:Obj) (its:Array Value) (n:Nat),K.lookup a=some o/\o.cls=.type "list"/\o.dict=none/\o.data=.seq its n/\its.size<=sizeLine/\Vals xs its.toList
def SqT (K:W.Frag) (H:Hp) (a:Addr) (xs:List V):Prop :=
 Rd H a (.tup xs) ∨
  ∃ (o:Obj) (its:Array Value) (n:Nat),K.lookup a=some o/\o.cls=.type "tuple"/\o.dict=none/\o.data=.seq its n/\its.size<=sizeLine/\Vals xs its.toList
def absV:Value->Option V
 | .none=>some .non
 | .bool b=>some (.bl b)
 | .int i _=>some (.int i)
 | .str x _=>some (.str x)
 | .bytes b _=>some (.byt b)
 | .float b _=>some (.flt b)
 | .ref a=>some (.ref a)
 | .type n=>some (.ty n)
 | _=>none
theorem RelV.abs {x:V}{u:Value} (r:RelV x u):absV u=some x:=by
 cases x with
 | non=>cases r;rfl
 | bl _=>cases r;rfl
 | int _=>obtain⟨t,rfl⟩:=r;rfl
 | str _=>obtain⟨t,rfl⟩:=r;rfl
 | byt _=>obtain⟨t,rfl⟩:=r;rfl
 | flt _=>obtain⟨t,rfl⟩:=r;rfl
 | ref _=>cases r;rfl
 | ty _=>cases r;rfl
theorem RelV.inj {x y:V}{u:Value} (r:RelV x u) (q:RelV y u):x=y:=Option.some.inj (r.abs.symm.trans q.abs)
theorem Vals.inj:∀{xs ys:List V}{us:List Value},Vals xs us->Vals ys us->xs=ys
 | _,_,_,.nil,.nil=>rfl
 | _,_,_,.cons r t,.cons r' t'=>by rw [r.inj r',Vals.inj t t']
section
variable {X:Cx}{Aa:List (Addr × Obj)}{σ:St}{H:Hp}{s:Shared}{a:Addr}{xs ys:List V}
theorem SqL.of {K:W.Frag} (h:H a=some (.lst xs)):SqL K H a xs:=.inl (.inl h)
theorem SqT.of {K:W.Frag} (h:H a=some (.tup xs)):SqT K H a xs:=.inl (.inl h)
theorem Inv.list (I:Inv X Aa σ H s) (h:SqL X.K H a xs):∃ its:List Value,Vals xs its/\PlainL s.heap a its.toArray/\xs.length<=sizeLine:=by
 rcases h with h|⟨o,its,n,hk,hc,hd,hs,hz,r⟩
 . obtain⟨z,its,n,r,e⟩:=h.ok I.hok
   exact ⟨its,r,⟨_,n,e,rfl,rfl,rfl⟩,z⟩
 . refine⟨its.toList,r,⟨o,n,I.kIn a o hk,hc,hd,by simpa using hs⟩,?_⟩
   have e:=r.length
   simp only [Array.length_toList] at e
   omega
theorem Inv.tuple (I:Inv X Aa σ H s) (h:SqT X.K H a xs):∃ its:List Value,Vals xs its/\IsTup s.heap a its.toArray/\xs.length<=sizeLine:=by
 rcases h with h|⟨o,its,n,hk,hc,_,hs,hz,r⟩
 . obtain⟨z,its,r,p⟩:=h.ok I.hok
   exact ⟨its,r,p.tup,z⟩
 . refine⟨its.toList,r,⟨o,I.kIn a o hk,hc,n,by simpa using hs⟩,?_⟩
   have e:=r.length
   simp only [Array.length_toList] at e
   omega
theorem Inv.list_inj (I:Inv X Aa σ H s) (h:SqL X.K H a xs) (h':SqL X.K H a ys):xs=ys:=by
 obtain⟨its,r,⟨o,n,e,_,_,d⟩,_⟩:=I.list h
 obtain⟨its',r',⟨o',n',e',_,_,d'⟩,_⟩:=I.list h'
 rw [e] at e';cases e'
 rw [d] at d'
 injection d' with d1 _
 have:its=its':=by simpa using congrArg Array.toList d1
 subst this
 exact r.inj r'
theorem Inv.tuple_inj (I:Inv X Aa σ H s) (h:SqT X.K H a xs) (h':SqT X.K H a ys):xs=ys:=by
 obtain⟨its,r,⟨o,e,_,n,d⟩,_⟩:=I.tuple h
 obtain⟨its',r',⟨o',e',_,n',d'⟩,_⟩:=I.tuple h'
 rw [e] at e';cases e'
 rw [d] at d'
 injection d' with d1 _
 have:its=its':=by simpa using congrArg Array.toList d1
 subst this
 exact r.inj r'
end
abbrev Cx.wish (X:Cx) (E:Value->Shared->Prop):Cx:={ X with xe:=E }
abbrev Cx.nox (X:Cx):Cx:=X.wish fun _ _=>False
theorem Cx.Ok.wish {X:Cx} (ok:X.Ok) (E:Value->Shared->Prop):(X.wish E).Ok :=
 ⟨ok.mod,ok.kind,ok.glob,ok.blt,ok.above,ok.inj,ok.has,ok.cab,ok.hd,ok.frames,ok.stk,ok.exf,ok.bs,ok.bsz,ok.noex,ok.exfs,ok.funs,ok.frf⟩
theorem Cx.Ok.unwish {X:Cx}{E:Value->Shared->Prop} (ok:(X.wish E).Ok):X.Ok :=
 ⟨ok.mod,ok.kind,ok.glob,ok.blt,ok.above,ok.inj,ok.has,ok.cab,ok.hd,ok.frames,ok.stk,ok.exf,ok.bs,ok.bsz,ok.noex,ok.exfs,ok.funs,ok.frf⟩
section
variable {X:Cx}{Aa:List (Addr × Obj)}{σ:St}{H:Hp}{s:Shared}{E:Value->Shared->Prop}
theorem Inv.wish (I:Inv X Aa σ H s) (E:Value->Shared->Prop):Inv (X.wish E) Aa σ H s:=⟨I.ok.wish E,I.os,I.bare,I.base,I.loc,I.cell,I.free,I.freeC,I.pin,I.hok,I.len⟩
theorem Inv.unwish (I:Inv (X.wish E) Aa σ H s):Inv X Aa σ H s:=⟨I.ok.unwish,I.os,I.bare,I.base,I.loc,I.cell,I.free,I.freeC,I.pin,I.hok,I.len⟩
theorem SP.unwish {D:Ends}{f:Flow}{s':Shared} (h:SP (X.wish E) Aa D f s'):SP X Aa D f s':=by
 cases f with
 | next=>obtain⟨σ',H',I,q⟩:=h;exact ⟨σ',H',I.unwish,q⟩
 | brk=>obtain⟨σ',H',I,q⟩:=h;exact ⟨σ',H',I.unwish,q⟩
 | cont=>obtain⟨σ',H',I,q⟩:=h;exact ⟨σ',H',I.unwish,q⟩
 | ret u=>obtain⟨v,σ',H',I,r,q⟩:=h;exact ⟨v,σ',H',I.unwish,r,q⟩
theorem PSs.nox {st:List Stmt}{t:TS} (h:PSs X.nox st t):PSs X st t:=fun Aa s σ H D I hw =>
 wpAny_mono (h Aa s σ H D (I.wish _) hw) (fun _ _ q=>q.unwish) fun _ _ z=>False.elim z
end
section
variable {X:Cx}{st:Stmt}{rest:List Stmt}{t u:TS}{e:Expr}{te:TE}{pos:Pos}
def An1:TS:=fun D σ H=>D.nx σ H
def tSeq (t u:TS):TS:=fun D σ H=>t { D with nx:=u D } σ H
theorem Au:PSs X [] An1:=fun _ _ σ H _ I h=>wpAny_execs_nil ⟨σ,H,I,h⟩
theorem Ag (h1:PS X st t) (h2:PSs X rest u):PSs X (st::rest) (tSeq t u):=by
 intro Aa s σ H D I h
 refine wpAny_execs_cons (thn (h1 Aa s σ H { D with nx:=u D } I h) fun f s1 q=>?_)
 cases f with
 | next =>
   obtain⟨σ',H',I',q⟩:=q
   exact h2 Aa s1 σ' H' D I' q
 | ret v=>exact q
 | brk=>exact q
 | cont=>exact q
theorem Al (h1:PS X st t):PSs X [st] t:=by
 intro Aa s σ H D I h
 refine wpAny_execs_cons (thn (h1 Aa s σ H D I h) fun f s1 q=>?_)
 cases f with
 | next=>exact wpAny_execs_nil q
 | ret v=>exact q
 | brk=>exact q
 | cont=>exact q
theorem Inv.quiet {Aa:List (Addr × Obj)}{σ:St}{H:Hp}{s:Shared} (I:Inv X Aa σ H s):interactive X.env=false:=by simp [interactive,I.ok.kind]
def An3 (te:TE):TS:=fun D σ H=>te σ H fun _ H1=>D.nx σ H1
theorem Eg (he:PE X e te) (hs:swapsWith e none pos.line X.env=pure false:=by rfl):PS X (.Expr e pos) (An3 te):=by
 intro Aa s σ H D I h
 exact wpAny_Expr_any (thn (he Aa s σ H _ I h) fun v s1 ⟨x,H1,I1,r1,q1⟩=>⟨σ,H1,I1,q1⟩) I.quiet hs
def tRet (te:TE):TS:=fun D σ H=>te σ H D.rt
theorem Ay (he:PE X e te):PS X (.Return (some e) pos) (tRet te):=by
 intro Aa s σ H D I h
 exact wpAny_Return_some (thn (he Aa s σ H _ I h) fun v s1 ⟨x,H1,I1,r1,q1⟩=>⟨x,σ,H1,I1,r1,q1⟩)
def tIfS (c:TT) (t u:TS):TS:=fun D σ H=>c σ H fun b H1=>if b=true then t D σ H1 else u D σ H1
theorem Bj {c:Expr}{a b:List Stmt}{tc:TT} (hc:PT X c tc) (ha:PSs X a t) (hb:PSs X b u):PS X (.If c a b pos) (tIfS tc t u):=by
 intro Aa s σ H D I h
 refine wpAny_If (thn (hc Aa s σ H _ I h) fun d s1 ⟨H1,I1,q1⟩=>?_)
 cases d with
 | true=>exact ha Aa s1 σ H1 D I1 q1
 | false=>exact hb Aa s1 σ H1 D I1 q1
end
abbrev TG:=V->St->Hp->(St->Hp->Prop)->Prop
abbrev TGs:=List V->St->Hp->(St->Hp->Prop)->Prop
def PG (X:Cx) (target:Expr) (t:TG):Prop :=
 ∀ (Aa:List (Addr × Obj)) (s:Shared) (σ:St) (H:Hp) (v:V) (u:Value) (Q:St->Hp->Prop),Inv X Aa σ H s->RelV v u->t v σ H Q →
   wpAny (model X.prog X.w) X.A (assign target X.env u) (fun _ s'=>∃ σ' H',Inv X Aa σ' H' s'/\Q σ' H') X.xe s
def PGs (X:Cx) (ts:List Expr) (t:TGs):Prop :=
 ∀ (Aa:List (Addr × Obj)) (s:Shared) (σ:St) (H:Hp) (vs:List V) (us:List Value) (Q:St->Hp->Prop),Inv X Aa σ H s->Vals vs us->t vs σ H Q →
   wpAny (model X.prog X.w) X.A (assignInOrder ((assignEach ts X.env).map (·.2)) us) (fun _ s'=>∃ σ' H',Inv X Aa σ' H' s'/\Q σ' H') X.xe s
abbrev TSet:=V->V->V->Hp->(Hp->Prop)->Prop
def PSet (X:Cx) (t:TSet):Prop :=
 ∀ (Aa:List (Addr × Obj)) (s:Shared) (σ:St) (H:Hp) (o i v:V) (ov iv u:Value) (Q:Hp->Prop),Inv X Aa σ H s->RelV o ov->RelV i iv->RelV v u->t o i v H Q →
   wpAny (model X.prog X.w) X.A (setItem ov iv u) (fun _ s'=>∃ H',Inv X Aa σ H' s'/\Q H') X.xe s
section
variable {X:Cx}{pos:Pos}
def u9 (i:Nat):TG:=fun v σ H Q=>Q (σ.set i (some v)) H
theorem A1 {i:Nat}{x:Str} (hN:X.N.Nodup) (hi:X.N[i]?=some x) (hx:Loc X.env.scope x) (hf:X.fn x=true\/X.env.scope.names.lookup x=some .local:=by first | exact .inl rfl | exact .inr rfl | assumption):PG X (.Name x pos) (u9 i):=by
 intro Aa s σ H v u Q I r h
 exact wpAny_assign_Name (Oy I hN hi hx r (fun s' I'=>⟨_,H,I',h⟩) hf)
def gNil:TGs:=fun vs σ H Q=>vs=[]/\Q σ H
def Ap6 (t:TG) (u:TGs):TGs:=fun vs σ H Q=>∃ v r,vs=v::r/\t v σ H fun σ' H'=>u r σ' H' Q
theorem Z6:PGs X [] gNil:=by
 intro Aa s σ H vs us Q I r h
 obtain⟨e,h⟩:=h
 subst e
 cases r
 exact assignInOrder_nil ⟨σ,H,I,h⟩
theorem Lc {e:Expr}{es:List Expr}{t:TG}{u:TGs} (h1:PG X e t) (h2:PGs X es u)
 (hs:(assignEach (e::es) X.env).map (·.2)=assign e X.env::(assignEach es X.env).map (·.2):=by rfl):PGs X (e::es) (Ap6 t u):=by
 intro Aa s σ H vs us Q I r h
 obtain⟨v,vr,e1,h⟩:=h
 subst e1
 cases r with
 | cons r rr =>
   rw [hs]
   refine assignInOrder_cons (thn (h1 Aa s σ H _ _ _ I r h) fun _ s1 ⟨σ1,H1,I1,q1⟩=>?_)
   exact h2 Aa s1 σ1 H1 _ _ Q I1 rr q1
def gTup (K:W.Frag) (n:Nat) (t:TGs):TG:=fun v σ H Q=>∃ a xs,v=.ref a/\SqT K H a xs/\xs.length=n/\t xs σ H Q
theorem Aj2 {es:List Expr}{k:Nat}{t:TGs}{n:Nat} (hc:X.calm=true) (h:PGs X es t)
 (hn:(assignEach es X.env).length=n:=by rfl) (hst:(assignEach es X.env).findIdx? (·.1)=none:=by rfl):PG X (.Tuple es k pos) (gTup X.K n t):=by
 intro Aa s σ H v u Q I r hw
 obtain⟨a,xs,e1,hq,hl,hw⟩:=hw
 subst e1
 cases r
 obtain⟨its,rv,ht,hz⟩:=I.tuple hq
 refine assign_Tuple_tuple (I.ok.hd hc) ht (by simp [hn,←hl,rv.length]) hst fun h' hx=>?_
 have I1:Inv X Aa σ H { s with heap:=h' }:=I.kept (t':=s.toks) fun b o e=>hx b o (Nat.ne_of_lt (Heap.lt_size e)) e
 exact h Aa _ σ H xs _ Q I1 (by simpa using rv) hw
def gSub (to ti:TE) (t:TSet):TG:=fun v σ H Q=>to σ H fun o H1=>ti σ H1 fun i H2=>t o i v H2 fun H3=>Q σ H3
theorem Aj3 {o i:Expr}{to ti:TE}{t:TSet} (ho:PE X o to) (hi:PE X i ti) (hs:PSet X t)
 (ha:∀ v,assign (.Subscript o i pos) X.env v=(do
   let ov ←holding [v] (eval o X.env)
   let iv ←holding [v,ov] (eval i X.env)
   standAt pos
   holding [v,ov,iv] (setItem ov iv v)
   release [v,ov,iv] []):=by intro _;rfl):PG X (.Subscript o i pos) (gSub to ti t):=by
 intro Aa s σ H v u Q I r h
 rw [ha]
 refine wpAny_bind (wpAny_holding (thn (ho Aa s σ H _ I h) fun ov s1 ⟨x,H1,I1,r1,q1⟩=>?_))
 refine wpAny_bind (wpAny_holding (thn (hi Aa s1 σ H1 _ I1 q1) fun iv s2 ⟨y,H2,I2,r2,q2⟩=>?_))
 refine wpAny_bind (wpAny_standAt (wpAny_bind (wpAny_holding (thn (hs Aa s2 σ H2 x y v ov iv u _ I2 r1 r2 r q2) fun _ s3 ⟨H3,I3,q3⟩=>?_))))
 exact wpAny_release ⟨σ,H3,I3,q3⟩
def tAsg (te:TE) (g:TG):TS:=fun D σ H=>te σ H fun x H1=>g x σ H1 D.nx
theorem Aj0 {tg e:Expr}{te:TE}{g:TG} (he:PE X e te) (hg:PG X tg g) (hs:swapsWithSole [tg] e pos.line X.env=pure false:=by rfl) (hw:swappedStores [tg] e X.env=pure none:=by rfl)
 (h1:(assignEach [tg] X.env).map (·.2)=[assign tg X.env]:=by rfl):PS X (.Assign [tg] e pos) (tAsg te g):=by
 intro Aa s σ H D I h
 refine wpAny_Assign_stores (thn (he Aa s σ H _ I h) fun v s1 ⟨x,H1,I1,r1,q1⟩=>?_) hs hw
 rw [h1]
 exact thn (hg Aa s1 σ H1 x v _ I1 r1 q1) fun _ s2 q=>q
theorem As {i:Nat}{x:Str}{e:Expr}{te:TE}{pos':Pos} (hN:X.N.Nodup) (hi:X.N[i]?=some x) (hx:Loc X.env.scope x) (he:PE X e te) (hs:swapsWith e (some (.Name x pos')) pos.line X.env=pure false:=by rfl) (hf:X.fn x=true\/X.env.scope.names.lookup x=some .local:=by first | exact .inl rfl | exact .inr rfl | assumption) :
 PS X (.Assign [.Name x pos'] e pos) (tAsg te (u9 i)):=by
 intro Aa s σ H D I h
 refine wpAny_Assign_Name (thn (he Aa s σ H _ I h) fun v s1 ⟨y,H1,I1,r1,q1⟩=>?_) hs
 exact Oy I1 hN hi hx r1 (fun s2 I2=>⟨_,H1,I2,q1⟩) hf
end
section
variable {X:Cx}{pos:Pos}
def Ah3 (c:TT) (tb:TS):TS:=fun D σ H=>∃ W:Nat->St->Hp->Prop,(∃ m,W m σ H)/\∀ m σ H,W m σ H →
 c σ H fun b H1=>if b=true then ∃ N:St->Hp->Prop,(∀ σ' H',N σ' H'->∃ m',m'<m/\W m' σ' H')/\tb { D with nx:=N,ct:=N,bk:=D.nx } σ H1 else D.nx σ H1
theorem p7 {c:Expr}{body:List Stmt}{tc:TT}{tb:TS} (hp:PassesOwn (model X.prog X.w) X.A X.env X.xe) (hc:PT X c tc) (hb:PSs X body tb):PS X (.While c body [] pos) (Ah3 tc tb):=by
 intro Aa s σ H D I h
 obtain⟨W,⟨m0,w0⟩,turn⟩:=h
 refine wpAny_While (codeAny_whileLoop (fun n s'=>∃ σ' H',Inv X Aa σ' H' s'/\W n σ' H') ?_ m0 ⟨σ,H,I,w0⟩)
 rintro n s1 ⟨σ1,H1,I1,w1⟩
 refine wpAny_passesOwn hp (thn (hc Aa s1 σ1 H1 _ I1 (turn n σ1 H1 w1)) fun b s2 ⟨H2,I2,q2⟩=>?_)
 cases b with
 | true =>
   obtain⟨N,hN,q2⟩:=q2
   rw [if_pos rfl]
   refine wpAny_passesOwn hp (thn (hb Aa s2 σ1 H2 _ I2 q2) fun f s3 q3=>?_)
   cases f with
   | next =>
     obtain⟨σ3,H3,I3,n3⟩:=q3
     obtain⟨m',hm,w3⟩:=hN σ3 H3 n3
     exact ⟨m',hm,σ3,H3,I3,w3⟩
   | cont =>
     obtain⟨σ3,H3,I3,n3⟩:=q3
     obtain⟨m',hm,w3⟩:=hN σ3 H3 n3
     exact ⟨m',hm,σ3,H3,I3,w3⟩
   | brk=>exact q3
   | ret v=>exact q3
 | false =>
   rw [if_neg Bool.false_ne_true]
   exact wpAny_execs_nil ⟨σ1,H2,I2,q2⟩
end
structure It where
 go:Nat->Hp->Prop
 yld:Nat->Hp->V->Hp->Prop
 stop:Nat->Hp->Prop
def FpOk (X:Cx) (Aa:List (Addr × Obj)) (H:Hp) (b:Addr):Prop :=
 H b=none/\b≠X.env.locals/\b ∉ X.fs/\(b∈X.ex\/X.s₀.heap.objs.size<=b)/\(∀ x c,X.env.cells.lookup x=some c->c≠b)/\∀ p∈X.pn++Aa,p.1≠b
theorem Inv.fpOk {X:Cx}{Aa:List (Addr × Obj)}{σ:St}{H H':Hp}{s:Shared}{b:Addr} (I:Inv X Aa σ H s) (hb:s.heap.objs.size<=b) (hn:H' b=none):FpOk X Aa H' b:=by
 refine⟨hn,Nat.ne_of_gt (Nat.lt_of_lt_of_le I.lt hb),I.nofs hb,.inr (Nat.le_trans I.sz hb),fun x c e z=>?_,fun p hp z=>?_⟩
 . obtain⟨v,q⟩:=I.cell x c e
   exact absurd (Nat.lt_of_lt_of_le q.lt (by rw [z];exact hb)) (Nat.lt_irrefl _)
 . exact absurd (Nat.lt_of_lt_of_le (Heap.lt_size (I.pin p hp).1) (by rw [z];exact hb)) (Nat.lt_irrefl _)
structure Turn (P:Program) (w:World) (K:W.Frag) (tg:Expr) (J:It) (fp:List Addr) (it:Addr) (tn:Nat->Heap->Prop):Prop where
 mem:it∈fp
 obj:∀ i h,tn i h->∀ b∈fp,∃ o,h.get? b=some o/\∀ v,o.data≠.cell v
 keep:∀ i h h',tn i h->(∀ b∈fp,∀ o,h.get? b=some o->h'.get? b=some o)->tn i h'
 item:∀ (X:Cx),X.prog=P->X.w=w->X.K=K->X.calm=true->∀ (i:Nat) (Aa:List (Addr × Obj)) (s:Shared) (σ:St) (H:Hp) (E:Value->Shared->Prop),Inv X Aa σ H s->(∀ b∈fp,FpOk X Aa H b)->tn i s.heap->J.go i H →
  wpAny (model P w) X.A (pyNext (.ref it)) (fun r s1=>∃ u,r=some u ∧
   wpAny (model P w) X.A (letOwnedTupleGo tg (.ref it) u) (fun _ s2=>∃ x H',Inv X Aa σ H' s2/\RelV x u/\J.yld i H x H'/\tn (i+1) s2.heap/\∀ b∈fp,H' b=none) E s1) E s
 done:∀ (X:Cx),X.prog=P->X.w=w->X.K=K->X.calm=true->∀ (i:Nat) (Aa:List (Addr × Obj)) (s:Shared) (σ:St) (H:Hp) (E:Value->Shared->Prop),Inv X Aa σ H s->(∀ b∈fp,FpOk X Aa H b)->tn i s.heap->J.stop i H →
  wpAny (model P w) X.A (pyNext (.ref it)) (fun r s1=>r=none/\Inv X Aa σ H s1) E s
 self:∀ (A:Around) (i:Nat) (s:Shared) (Q:Value->Shared->Prop) (E:Value->Shared->Prop),tn i s.heap->Q (.ref it) s->wpAny (model P w) A (pyIter (.ref it)) Q E s
abbrev TI:=St->Hp->(It->Hp->Prop)->Prop
def PIE (X:Cx) (Aa:List (Addr × Obj)) (σ:St) (tg:Expr) (R:It->Hp->Prop) (itv:Value) (s2:Shared):Prop :=
 ∃ (it:Addr) (fp:List Addr) (tn:Nat->Heap->Prop) (J:It) (H':Hp),itv=.ref it/\Inv X Aa σ H' s2/\Turn X.prog X.w X.K tg J fp it tn/\tn 0 s2.heap/\(∀ b∈fp,FpOk X Aa H' b)/\R J H'
def PI (X:Cx) (tg iter:Expr) (wi:TI):Prop :=
 ∀ (Aa:List (Addr × Obj)) (s:Shared) (σ:St) (H:Hp) (R:It->Hp->Prop),Inv X Aa σ H s->wi σ H R →
   wpAny (model X.prog X.w) X.A (eval iter X.env) (fun v s1=>wpAny (model X.prog X.w) X.A (pyIter v) (PIE X Aa σ tg R) X.xe s1) X.xe s
theorem u8 {M:Model}{A:Around}{E:Value->Shared->Prop}{s:Shared}{tg:Expr}{it:Addr}{u:Value}{o:Obj}{n:String}{vs:Array Value}{Q:Unit->Shared->Prop} (ho:s.heap.get? it=some o) (hc:o.cls=.type n) (hd:o.data=.fields vs)
 (hn:["enumerate","zip","dict_itemiterator","dict_reverseitemiterator","odict_iterator","itertools.zip_longest","itertools.pairwise"].contains n=false) (hQ:Q () s):wpAny M A (letOwnedTupleGo tg (.ref it) u) Q E s:=by
 unfold letOwnedTupleGo
 cases tg<;>first
  | exact wpAny_pure hQ
  | (cases u<;>first
      | exact wpAny_pure hQ
      | (refine wpAny_bind (wpAny_load ho ?_)
         rw [hc,hd]
         show wpAny M A (if (["enumerate","zip","dict_itemiterator","dict_reverseitemiterator","odict_iterator","itertools.zip_longest","itertools.pairwise"].contains n&&vs[0]?==some (rawInt _))=true then _ else _) Q E s
         rw [if_neg (by intro h;rw [hn,Bool.false_and] at h;cases h)]
         exact wpAny_pure hQ))
def Itl (K:W.Frag) (a:Addr):It :=
 ⟨fun i H=>∃ xs x,SqL K H a xs/\xs[i]?=some x,fun i H x H'=>H'=H/\∀ xs,SqL K H a xs->xs[i]?=some x,fun i H=>∃ xs,SqL K H a xs/\xs.length<=i⟩
def Itt (K:W.Frag) (a:Addr):It :=
 ⟨fun i H=>∃ xs x,SqT K H a xs/\xs[i]?=some x,fun i H x H'=>H'=H/\∀ xs,SqT K H a xs->xs[i]?=some x,fun i H=>∃ xs,SqT K H a xs/\xs.length<=i⟩
def Itr (lo:Int) (n:Nat):It:=⟨fun i _=>i<n,fun i H x H'=>H'=H/\x=.int (lo+i),fun i _=>n<=i⟩
theorem Zo {P:Program}{w:World}{K:W.Frag}{tg:Expr} (a it:Addr):Turn P w K tg (Itl K a) [it] it (fun i h=>h.IsListIter it a i) where
 mem:=by simp
 obj:=fun i h st b hb=>by
  have e:b=it:=by simpa using hb
  subst e
  obtain⟨o,e,c,d⟩:=st
  exact ⟨o,e,fun v z=>by rw [d] at z;cases z⟩
 keep:=fun i h h' st k=>st.at fun o e=>k it (by simp) o e
 item:=by
  intro X hP hw hK hc i Aa s σ H E I hf st hg
  subst hP hw hK
  obtain⟨xs,x,hq,hx⟩:=hg
  obtain⟨its,rv,p,hz⟩:=I.list hq
  obtain⟨u,hu,ru⟩:=rv.get hx
  obtain⟨f0,f1,f2,f3,f4,f5⟩:=hf it (by simp)
  refine wpAny_pyNext_list_item st p.isList (x:=u) (by simpa using hu) fun h' st' sb=>?_
  have I1:Inv X Aa σ H { s with heap:=h' }:=I.turned (t':=s.toks) (fun b o hb e=>(sb.2 b hb).trans e) f0 f1 f3 f4 f5
  obtain⟨o,e,c,d⟩:=id st'
  exact ⟨u,rfl,u8 (s:={ s with heap:=h' }) e c d (by decide) ⟨x,H,I1,ru,⟨rfl,fun ys hy=>by rw [I.list_inj hy hq];exact hx⟩,st',fun b hb=>(hf b hb).1⟩⟩
 done:=by
  intro X hP hw hK hc i Aa s σ H E I hf st hg
  subst hP hw hK
  obtain⟨xs,hq,hx⟩:=hg
  obtain⟨its,rv,p,hz⟩:=I.list hq
  obtain⟨f0,f1,f2,f3,f4,f5⟩:=hf it (by simp)
  have hl:=rv.length
  exact wpAny_pyNext_list_end (I.ok.hd hc) st p.isList (by simp;omega) fun h' eb=>⟨rfl,I.turned (t':=s.toks) (fun b o hb e=>eb b o hb e) f0 f1 f3 f4 f5⟩
 self:=fun _ _ _ _ _ st h=>wpAny_pyIter_listiter st h
theorem Xf {P:Program}{w:World}{K:W.Frag}{tg:Expr} (a it:Addr):Turn P w K tg (Itt K a) [it] it (fun i h=>h.IsTupleIter it a i) where
 mem:=by simp
 obj:=fun i h st b hb=>by
  have e:b=it:=by simpa using hb
  subst e
  obtain⟨o,e,c,d⟩:=st
  exact ⟨o,e,fun v z=>by rw [d] at z;cases z⟩
 keep:=fun i h h' st k=>st.at fun o e=>k it (by simp) o e
 item:=by
  intro X hP hw hK hc i Aa s σ H E I hf st hg
  subst hP hw hK
  obtain⟨xs,x,hq,hx⟩:=hg
  obtain⟨its,rv,p,hz⟩:=I.tuple hq
  obtain⟨u,hu,ru⟩:=rv.get hx
  obtain⟨f0,f1,f2,f3,f4,f5⟩:=hf it (by simp)
  refine wpAny_pyNext_tuple_item st (show s.heap.IsTuple a its.toArray from p) (x:=u) (by simpa using hu) fun h' st' sb=>?_
  have I1:Inv X Aa σ H { s with heap:=h' }:=I.turned (t':=s.toks) (fun b o hb e=>(sb.2 b hb).trans e) f0 f1 f3 f4 f5
  obtain⟨o,e,c,d⟩:=id st'
  exact ⟨u,rfl,u8 (s:={ s with heap:=h' }) e c d (by decide) ⟨x,H,I1,ru,⟨rfl,fun ys hy=>by rw [I.tuple_inj hy hq];exact hx⟩,st',fun b hb=>(hf b hb).1⟩⟩
 done:=by
  intro X hP hw hK hc i Aa s σ H E I hf st hg
  subst hP hw hK
  obtain⟨xs,hq,hx⟩:=hg
  obtain⟨its,rv,p,hz⟩:=I.tuple hq
  obtain⟨f0,f1,f2,f3,f4,f5⟩:=hf it (by simp)
  have hl:=rv.length
  exact wpAny_pyNext_tuple_end (I.ok.hd hc) st (show s.heap.IsTuple a its.toArray from p) (by simp;omega) fun h' eb=>⟨rfl,I.turned (t':=s.toks) (fun b o hb e=>eb b o hb e) f0 f1 f3 f4 f5⟩
 self:=fun _ _ _ _ _ st h=>wpAny_pyIter_tupleiter st h
theorem Xg {P:Program}{w:World}{K:W.Frag}{tg:Expr} (it:Addr) (lo:Int) (n:Nat):Turn P w K tg (Itr lo n) [it] it (fun i h=>IsRangeIter h it (lo+(i:Nat)*1) ((n:Int)-(i:Nat)) 1) where
 mem:=by simp
 obj:=fun i h st b hb=>by
  have e:b=it:=by simpa using hb
  subst e
  exact ⟨_,st,fun v z=>by
   have z':Data.fields _=Data.cell v:=z
   cases z'⟩
 keep:=fun i h h' st k=>k it (by simp) _ st
 item:=by
  intro X hP hw hK hc i Aa s σ H E I hf st hg
  subst hP hw hK
  obtain⟨f0,f1,f2,f3,f4,f5⟩:=hf it (by simp)
  have W:=Walks.range (prog:=X.prog) (w:=X.w) (I.ok.hd hc) it lo 1 n
  refine W.item i s _ _ hg st fun v h' tk hv st' kk=>?_
  obtain⟨t,rfl⟩:=hv
  have I1:Inv X Aa σ H { s with heap:=h',toks:=tk }:=I.turned (fun b o hb e=>kk b o (by simpa using hb) e) f0 f1 f3 f4 f5
  refine⟨_,rfl,u8 (s:={ s with heap:=h',toks:=tk }) (n:="range_iterator") st' rfl rfl (by decide) ⟨.int (lo+i),H,I1,⟨t,?_⟩,⟨rfl,rfl⟩,st',fun b hb=>(hf b hb).1⟩⟩
  rw [Int.mul_one]
 done:=by
  intro X hP hw hK hc i Aa s σ H E I hf st hg
  subst hP hw hK
  obtain⟨f0,f1,f2,f3,f4,f5⟩:=hf it (by simp)
  exact wpAny_pyNext_range_end (I.ok.hd hc) st (by have:n<=i:=hg;omega) fun h' eb=>⟨rfl,I.turned (t':=s.toks) (fun b o hb e=>eb b o hb e) f0 f1 f3 f4 f5⟩
 self:=fun _ _ _ _ _ st h=>wpAny_pyIter_rangeiter st h
end L2
namespace L2
open PySem PySem.Spec PyProof.Rows
section
variable {X:Cx}{tg:Expr}
def Al6 (K:W.Frag) (tl:TE):TI:=fun σ H R=>tl σ H fun x H1=>∃ a,x=.ref a/\(∃ xs,SqL K H1 a xs)/\R (Itl K a) H1
def iTup (K:W.Frag) (tl:TE):TI:=fun σ H R=>tl σ H fun x H1=>∃ a,x=.ref a/\(∃ xs,SqT K H1 a xs)/\R (Itt K a) H1
theorem Ac5 {l:Expr}{tl:TE} (hl:PE X l tl):PI X tg l (Al6 X.K tl):=by
 intro Aa s σ H R I h
 refine thn (hl Aa s σ H _ I h) fun v s1 ⟨x,H1,I1,r1,q1⟩=>?_
 obtain⟨a,e,⟨xs,hq⟩,q⟩:=q1
 subst e
 cases r1
 obtain⟨its,rv,p,hz⟩:=I1.list hq
 refine wpAny_pyIter_list p.isList ?_
 refine⟨s1.heap.objs.size,[s1.heap.objs.size],_,_,H1,rfl,I1.kept (t':=s1.toks) fun b o e=>Heap.get?_push_of_some _ e,Zo a _,⟨_,Heap.get?_push_size _ rfl,rfl,rfl⟩,fun b hb=>?_,q⟩
 have e:b=s1.heap.objs.size:=by simpa using hb
 subst e
 exact I1.fpOk (Nat.le_refl _) (I1.hok.fresh (Nat.le_refl _))
theorem Aj1 {l:Expr}{tl:TE} (hl:PE X l tl):PI X tg l (iTup X.K tl):=by
 intro Aa s σ H R I h
 refine thn (hl Aa s σ H _ I h) fun v s1 ⟨x,H1,I1,r1,q1⟩=>?_
 obtain⟨a,e,⟨xs,hq⟩,q⟩:=q1
 subst e
 cases r1
 obtain⟨its,rv,p,hz⟩:=I1.tuple hq
 refine wpAny_pyIter_tuple (show s1.heap.IsTuple a its.toArray from p) ?_
 refine⟨s1.heap.objs.size,[s1.heap.objs.size],_,_,H1,rfl,I1.kept (t':=s1.toks) fun b o e=>Heap.get?_push_of_some _ e,Xf a _,⟨_,Heap.get?_push_size _ rfl,rfl,rfl⟩,fun b hb=>?_,q⟩
 have e:b=s1.heap.objs.size:=by simpa using hb
 subst e
 exact I1.fpOk (Nat.le_refl _) (I1.hok.fresh (Nat.le_refl _))
theorem p6 {Aa:List (Addr × Obj)}{σ:St}{H:Hp}{s:Shared}{R:It->Hp->Prop}{E:Value->Shared->Prop}{lo hi:Int}{t u v:Tok}{tk:Nat} (I:Inv X Aa σ H s) (h1:-(2 ^ 62)<=lo) (h2:lo<2 ^ 62) (h3:-(2 ^ 62)<=hi) (h4:hi<2 ^ 62)
 (q:R (Itr lo (hi-lo).toNat) H):wpAny (model X.prog X.w) X.A (pyIter (.ref s.heap.objs.size)) (PIE X Aa σ tg R) E { s with heap:=s.heap.push { cls:=.type "range",data:=.fields #[.int lo t,.int hi u,.int 1 v] },toks:=tk }:=by
 refine wpAny_pyIter_range (IsRange.new ..) (small_one h1 h2 h3 h4) ?_
 have I1:Inv X Aa σ H { s with heap:=s.heap.push { cls:=.type "range",data:=.fields #[.int lo t,.int hi u,.int 1 v] },toks:=tk }:=I.kept fun b o e=>Heap.get?_push_of_some _ e
 refine⟨(s.heap.push { cls:=.type "range",data:=.fields #[.int lo t,.int hi u,.int 1 v] }).objs.size,[(s.heap.push { cls:=.type "range",data:=.fields #[.int lo t,.int hi u,.int 1 v] }).objs.size],_,_,H,rfl,
  I1.kept (t':=tk) fun b o e=>Heap.get?_push_of_some _ e,Xg _ lo (hi-lo).toNat,?_,fun b hb=>?_,q⟩
 . have e1:lo+((0:Nat):Int)*1=lo:=by simp
   have e2:(((hi-lo).toNat:Nat):Int)-((0:Nat):Int)=Builtin.Range.rangeSize lo hi 1:=by rw [rangeSize_one];split<;>omega
   show IsRangeIter _ _ (lo+((0:Nat):Int)*1) ((((hi-lo).toNat:Nat):Int)-((0:Nat):Int)) 1
   rw [e1,e2]
   exact Heap.get?_push_size _ rfl
 . have e:b=(s.heap.push { cls:=.type "range",data:=.fields #[.int lo t,.int hi u,.int 1 v] }).objs.size:=by simpa using hb
   subst e
   exact I1.fpOk (Nat.le_refl _) (I1.hok.fresh (Nat.le_refl _))
def Ap4 (ta:TA):TI:=fun σ H R=>ta σ H fun vs H1=>∃ j:Int,vs=[.int j]/\-(2 ^ 62)<=j/\j<2 ^ 62/\R (Itr 0 j.toNat) H1
theorem B3 {a:Expr}{ta:TA}{p pos:Pos} (hg:Gl X "range") (hm:X.mg "range"=none) (ha:PA X [a] ta) (hs:starEach [a] X.env=[(false,eval a X.env)]:=by rfl):PI X tg (.Call (.Name "range" p) [a] [] pos) (Ap4 ta):=by
 intro Aa s σ H R I h
 refine Call_ (Sn I hg hm boot_range (PyProof.Rows.callWith_type1 (thn (ha pos Aa s σ H _ I h) fun us s1 ⟨vs,H1,I1,r1,q1⟩=>?_) hs rfl))
 obtain⟨j,e,q1,q2,q⟩:=q1
 subst e
 cases r1 with
 | cons r rr =>
   cases rr
   obtain⟨t,rfl⟩:=r
   exact call_range_1 (p6 I1 (by omega) (by omega) q1 q2 (by simpa using q))
def tFor (wi:TI) (g:TG) (tb:TS):TS:=fun D σ H=>wi σ H fun J H1=>∃ W:Nat->Nat->St->Hp->Prop,(∃ m,W 0 m σ H1)/\∀ i m σ H,W i m σ H →
 (J.stop i H/\D.nx σ H)\/(J.go i H/\∃ N:St->Hp->Prop,(∀ σ' H',N σ' H'->∃ m',m'<m/\W (i+1) m' σ' H')/\∀ x H',J.yld i H x H'->g x σ H' fun σ2 H2=>tb { D with nx:=N,ct:=N,bk:=D.nx } σ2 H2)
def N5 (fp:List Addr) (h:Heap):List (Addr × Obj):=fp.filterMap fun b=>(h.get? b).map fun o=>(b,o)
theorem Ds {fp:List Addr}{h:Heap}{b:Addr}{o:Obj} (hb:b∈fp) (e:h.get? b=some o):(b,o)∈N5 fp h:=List.mem_filterMap.mpr ⟨b,hb,by rw [e];rfl⟩
theorem a7 {fp:List Addr}{h:Heap}{p:Addr × Obj} (hp:p∈N5 fp h):p.1∈fp/\h.get? p.1=some p.2:=by
 obtain⟨b,hb,e⟩:=List.mem_filterMap.mp hp
 cases q:h.get? b with
 | none=>rw [q] at e;cases e
 | some o =>
   rw [q] at e
   have e':(b,o)=p:=Option.some.inj e
   subst e'
   exact ⟨hb,q⟩
theorem Inv.pinned {Aa:List (Addr × Obj)}{σ:St}{H:Hp}{s:Shared}{fp:List Addr} (I:Inv X Aa σ H s) (hf:∀ b∈fp,FpOk X Aa H b) (ho:∀ b∈fp,∃ o,s.heap.get? b=some o/\∀ v,o.data≠.cell v):Inv X (Aa++N5 fp s.heap) σ H s :=
 I.pins_of fun p hp=>(List.mem_append.mp hp).elim (fun z=>I.pin p (List.mem_append_right _ z)) fun z=>by
  obtain⟨hb,e⟩:=a7 z
  obtain⟨f0,f1,f2,_⟩:=hf p.1 hb
  obtain⟨o,e',d⟩:=ho p.1 hb
  rw [e] at e';cases e'
  exact ⟨e,f0,f1,f2,d⟩
theorem Inv.unpinned {Aa pl:List (Addr × Obj)}{σ:St}{H:Hp}{s:Shared} (I:Inv X (Aa++pl) σ H s):Inv X Aa σ H s:=I.pins_of fun p hp=>I.pin p (List.mem_append_right _ (List.mem_append_left _ hp))
theorem Bz {iter:Expr}{body:List Stmt}{wi:TI}{g:TG}{tb:TS}{pos:Pos} (hp:PassesOwn (model X.prog X.w) X.A X.env X.xe) (hc:X.calm=true) (hi:PI X tg iter wi) (hg:PG X tg g) (hb:PSs X body tb)
 (hs:∀ x,foldedSetIterable iter X.env x=pure x:=by intro _;rfl):PS X (.For tg iter body [] pos) (tFor wi g tb):=by
 intro Aa s σ H D I h
 refine wpAny_For (thn (hi Aa s σ H _ I h) fun v s1 h1=>thn h1 fun itv s2 h2=>?_) hs
 obtain⟨it,fp,tn,J,H2,e,I2,T,st2,f2,W,⟨m0,w0⟩,turn⟩:=h2
 subst e
 have stat:∀{H':Hp},(∀ b∈fp,H' b=none)->∀ b∈fp,FpOk X Aa H' b:=fun hn b hb=>⟨hn b hb,(f2 b hb).2⟩
 refine codeAny_forLoop_any (fun n s'=>∃ i σ' H',Inv X Aa σ' H' s'/\tn i s'.heap/\(∀ b∈fp,H' b=none)/\W i n σ' H') ?_ m0 ⟨0,σ,H2,I2,st2,fun b hb=>(f2 b hb).1,w0⟩
 rintro n s3 ⟨i,σ3,H3,I3,st3,fr3,w3⟩
 rcases turn i n σ3 H3 w3 with ⟨stop,qn⟩|⟨go,N,hN,step⟩
 . refine wpAny_passesOwn hp (thn (T.done X rfl rfl rfl hc i Aa s3 σ3 H3 X.xe I3 (stat fr3) st3 stop) fun r s4 ⟨hr,I4⟩=>?_)
   subst hr
   exact wpAny_execs_nil ⟨σ3,H3,I4,qn⟩
 . refine wpAny_passesOwn hp (thn (T.item X rfl rfl rfl hc i Aa s3 σ3 H3 X.xe I3 (stat fr3) st3 go) fun r s4 ⟨u,hr,h4⟩=>?_)
   subst hr
   refine wpAny_passesOwn hp (thn h4 fun _ s5 ⟨x,H5,I5,r5,y5,st5,fr5⟩=>?_)
   have I5':=I5.pinned (stat fr5) (T.obj _ _ st5)
   refine wpAny_passesOwn hp (thn (hg _ s5 σ3 H5 x u _ I5' r5 (step x H5 y5)) fun _ s6 ⟨σ6,H6,I6,q6⟩=>?_)
   refine wpAny_passesOwn hp (thn (hb _ s6 σ6 H6 _ I6 q6) fun f s7 q7=>?_)
   have again:∀{σ7:St}{H7:Hp},Inv X (Aa++N5 fp s5.heap) σ7 H7 s7->N σ7 H7->∃ m,m<n/\∃ i σ' H',Inv X Aa σ' H' s7/\tn i s7.heap/\(∀ b∈fp,H' b=none)/\W i m σ' H':=fun {σ7 H7} I7 n7=>by
    obtain⟨m',hm,w7⟩:=hN σ7 H7 n7
    refine⟨m',hm,i+1,σ7,H7,I7.unpinned,T.keep _ _ _ st5 fun b hb o e=>(I7.pin (b,o) (List.mem_append_right _ (List.mem_append_right _ (Ds hb e)))).1,fun b hb=>?_,w7⟩
    obtain⟨o,e,d⟩:=T.obj _ _ st5 b hb
    exact (I7.pin (b,o) (List.mem_append_right _ (List.mem_append_right _ (Ds hb e)))).2.1
   cases f with
   | next=>obtain⟨σ7,H7,I7,n7⟩:=q7;exact again I7 n7
   | cont=>obtain⟨σ7,H7,I7,n7⟩:=q7;exact again I7 n7
   | brk=>obtain⟨σ7,H7,I7,q7⟩:=q7;exact ⟨σ7,H7,I7.unpinned,q7⟩
   | ret v=>obtain⟨x7,σ7,H7,I7,r7,q7⟩:=q7;exact ⟨x7,σ7,H7,I7.unpinned,r7,q7⟩
end
theorem for_list {K:W.Frag}{a:Addr}{xs:List V}{g:TG}{tb:TS}{D:Ends}{σ:St}{H:Hp} (Pv:Nat->St->Hp->Prop) (h0:Pv 0 σ H) (hl:∀ i σ H,i<=xs.length->Pv i σ H->SqL K H a xs)
 (hs:∀ i x σ H,xs[i]?=some x->Pv i σ H->g x σ H fun σ2 H2=>tb { D with nx:=Pv (i+1),ct:=Pv (i+1),bk:=D.nx } σ2 H2) (hd:∀ σ H,Pv xs.length σ H->D.nx σ H) :
 ∃ W:Nat->Nat->St->Hp->Prop,(∃ m,W 0 m σ H)/\∀ i m σ H,W i m σ H →
   ((Itl K a).stop i H/\D.nx σ H)\/((Itl K a).go i H/\∃ N:St->Hp->Prop,(∀ σ' H',N σ' H'->∃ m',m'<m/\W (i+1) m' σ' H')/\∀ x H',(Itl K a).yld i H x H'->g x σ H' fun σ2 H2=>tb { D with nx:=N,ct:=N,bk:=D.nx } σ2 H2):=by
 refine⟨fun i m σ H=>m=xs.length-i/\i<=xs.length/\Pv i σ H,⟨xs.length,by simp,Nat.zero_le _,h0⟩,?_⟩
 rintro i m σ H ⟨rfl,hi,p⟩
 have q:=hl i σ H hi p
 by_cases hlt:i<xs.length
 . refine .inr ⟨⟨xs,xs[i],q,by simp [hlt]⟩,Pv (i+1),fun σ' H' p'=>⟨xs.length-(i+1),by omega,rfl,hlt,p'⟩,fun x H' y=>?_⟩
   obtain⟨e,y⟩:=y
   subst e
   exact hs i x σ _ (y xs q) p
 . have e:i=xs.length:=by omega
   subst e
   exact .inl ⟨⟨xs,q,Nat.le_refl _⟩,hd σ H p⟩
theorem V5 {K:W.Frag}{a:Addr}{xs:List V}{g:TG}{tb:TS}{D:Ends}{σ:St}{H:Hp} (Pv:Nat->St->Hp->Prop) (h0:Pv 0 σ H) (hl:∀ i σ H,i<=xs.length->Pv i σ H->SqT K H a xs)
 (hs:∀ i x σ H,xs[i]?=some x->Pv i σ H->g x σ H fun σ2 H2=>tb { D with nx:=Pv (i+1),ct:=Pv (i+1),bk:=D.nx } σ2 H2) (hd:∀ σ H,Pv xs.length σ H->D.nx σ H) :
 ∃ W:Nat->Nat->St->Hp->Prop,(∃ m,W 0 m σ H)/\∀ i m σ H,W i m σ H →
   ((Itt K a).stop i H/\D.nx σ H)\/((Itt K a).go i H/\∃ N:St->Hp->Prop,(∀ σ' H',N σ' H'->∃ m',m'<m/\W (i+1) m' σ' H')/\∀ x H',(Itt K a).yld i H x H'->g x σ H' fun σ2 H2=>tb { D with nx:=N,ct:=N,bk:=D.nx } σ2 H2):=by
 refine⟨fun i m σ H=>m=xs.length-i/\i<=xs.length/\Pv i σ H,⟨xs.length,by simp,Nat.zero_le _,h0⟩,?_⟩
 rintro i m σ H ⟨rfl,hi,p⟩
 have q:=hl i σ H hi p
 by_cases hlt:i<xs.length
 . refine .inr ⟨⟨xs,xs[i],q,by simp [hlt]⟩,Pv (i+1),fun σ' H' p'=>⟨xs.length-(i+1),by omega,rfl,hlt,p'⟩,fun x H' y=>?_⟩
   obtain⟨e,y⟩:=y
   subst e
   exact hs i x σ _ (y xs q) p
 . have e:i=xs.length:=by omega
   subst e
   exact .inl ⟨⟨xs,q,Nat.le_refl _⟩,hd σ H p⟩
theorem Bt {lo:Int}{n:Nat}{g:TG}{tb:TS}{D:Ends}{σ:St}{H:Hp} (Pv:Nat->St->Hp->Prop) (h0:Pv 0 σ H)
 (hs:∀ i σ H,i<n->Pv i σ H->g (.int (lo+i)) σ H fun σ2 H2=>tb { D with nx:=Pv (i+1),ct:=Pv (i+1),bk:=D.nx } σ2 H2) (hd:∀ σ H,Pv n σ H->D.nx σ H) :
 ∃ W:Nat->Nat->St->Hp->Prop,(∃ m,W 0 m σ H)/\∀ i m σ H,W i m σ H →
   ((Itr lo n).stop i H/\D.nx σ H)\/((Itr lo n).go i H/\∃ N:St->Hp->Prop,(∀ σ' H',N σ' H'->∃ m',m'<m/\W (i+1) m' σ' H')/\∀ x H',(Itr lo n).yld i H x H'->g x σ H' fun σ2 H2=>tb { D with nx:=N,ct:=N,bk:=D.nx } σ2 H2):=by
 refine⟨fun i m σ H=>m=n-i/\i<=n/\Pv i σ H,⟨n,by simp,Nat.zero_le _,h0⟩,?_⟩
 rintro i m σ H ⟨rfl,hi,p⟩
 by_cases hlt:i<n
 . refine .inr ⟨hlt,Pv (i+1),fun σ' H' p'=>⟨n-(i+1),by omega,rfl,hlt,p'⟩,fun x H' y=>?_⟩
   obtain⟨e,y⟩:=y
   subst e y
   exact hs i σ _ hlt p
 . have e:i=n:=by omega
   subst e
   exact .inl ⟨Nat.le_refl _,hd σ H p⟩
end L2
namespace L2
open PySem PySem.Spec PyProof.Rows
abbrev R2:=V->V->Hp->VK->Prop
def OpR (X:Cx) (f:Value->Value->Sem Value) (r:R2):Prop :=
 ∀ (Aa:List (Addr × Obj)) (s:Shared) (σ:St) (H:Hp) (x y:V) (v u:Value) (Q:VK),Inv X Aa σ H s->RelV x v->RelV y u->r x y H Q →
   wpAny (model X.prog X.w) X.A (f v u) (EP X Aa σ Q) X.xe s
def UnR (X:Cx) (f:Value->Sem Value) (r:V->Hp->VK->Prop):Prop :=
 ∀ (Aa:List (Addr × Obj)) (s:Shared) (σ:St) (H:Hp) (x:V) (v:Value) (Q:VK),Inv X Aa σ H s->RelV x v->r x H Q →
   wpAny (model X.prog X.w) X.A (f v) (EP X Aa σ Q) X.xe s
def D9 (X:Cx) (f:Value) (r:List V->Hp->VK->Prop):Prop :=
 ∀ (Aa:List (Addr × Obj)) (s:Shared) (σ:St) (H:Hp) (xs:List V) (us:List Value) (Q:VK),Inv X Aa σ H s->Vals xs us->r xs H Q →
   wpAny (model X.prog X.w) X.A (call f us) (EP X Aa σ Q) X.xe s
def tOp (r:R2) (ta tb:TE):TE:=fun σ H Q=>ta σ H fun x H1=>tb σ H1 fun y H2=>r x y H2 Q
def tUn (r:V->Hp->VK->Prop) (ta:TE):TE:=fun σ H Q=>ta σ H fun x H1=>r x H1 Q
def rI (C:Int->Int->Prop) (g:Int->Int->V):R2:=fun x y H Q=>∃ i j,x=.int i/\y=.int j/\C i j/\Q (g i j) H
def rI0 (g:Int->Int->V):R2:=fun x y H Q=>∃ i j,x=.int i/\y=.int j/\Q (g i j) H
def rU (g:Int->V):V->Hp->VK->Prop:=fun x H Q=>∃ i,x=.int i/\Q (g i) H
section
variable {X:Cx}{a b c:Expr}{ta tb tc:TE}{pos:Pos}
theorem binT (ha:PE X a ta) (hb:PE X b tb) {Aa:List (Addr × Obj)}{s:Shared}{σ:St}{H:Hp}{R:V->V->Hp->Prop} (I:Inv X Aa σ H s)
 (h:ta σ H fun x H1=>tb σ H1 fun y H2=>R x y H2) {Q:Value->Shared->Prop}{f:Value->Value->Sem Value}
 (hf:∀ v u s2 x y H2,Inv X Aa σ H2 s2->RelV x v->RelV y u->R x y H2->wpAny (model X.prog X.w) X.A (f v u) Q X.xe s2) :
 wpAny (model X.prog X.w) X.A (eval a X.env) (fun v s₁=>wpAny (model X.prog X.w) X.A (eval b X.env) (fun u s₂=>wpAny (model X.prog X.w) X.A (f v u) Q X.xe s₂) X.xe s₁) X.xe s:=by
 refine thn (ha Aa s σ H _ I h) fun v s1 ⟨x,H1,I1,r1,q1⟩=>?_
 refine thn (hb Aa s1 σ H1 _ I1 q1) fun u s2 ⟨y,H2,I2,r2,q2⟩=>?_
 exact hf v u s2 x y H2 I2 r1 r2 q2
theorem Az {op:Operator}{r:R2} (ho:OpR X (binaryOp op) r) (ha:PE X a ta) (hb:PE X b tb):PE X (.BinOp a op b pos) (tOp r ta tb):=by
 intro Aa s σ H Q I h
 exact wpAny_BinOp (binT ha hb I h fun v u s2 x y H2 I2 rx ry q=>ho Aa s2 σ H2 x y v u Q I2 rx ry q)
theorem Ac7 {op:UnaryOp}{r:V->Hp->VK->Prop} (ho:UnR X (unaryOp op) r) (ha:PE X a ta):PE X (.UnaryOp op a pos) (tUn r ta):=by
 intro Aa s σ H Q I h
 exact UnaryOp_ (thn (ha Aa s σ H _ I h) fun v s1 ⟨x,H1,I1,r1,q1⟩=>ho Aa s1 σ H1 x v Q I1 r1 q1)
theorem opI {f:Value->Value->Sem Value}{C:Int->Int->Prop}{g:Int->Int->Int}
 (rule:∀ (i j:Int) (t u:Tok) (s:Shared) (Q:Value->Shared->Prop) (E:Value->Shared->Prop),C i j->Q (.int (g i j) s.toks) { s with toks:=s.toks+1 }->wpAny (model X.prog X.w) X.A (f (.int i t) (.int j u)) Q E s) :
 OpR X f (rI C fun i j=>.int (g i j)):=by
 intro Aa s σ H x y v u Q I rx ry h
 obtain⟨i,j,rfl,rfl,hc,q⟩:=h
 obtain⟨t,rfl⟩:=rx
 obtain⟨t',rfl⟩:=ry
 exact rule i j t t' s _ _ hc ⟨.int (g i j),H,I.tok _,⟨_,rfl⟩,q⟩
theorem opI0 {f:Value->Value->Sem Value}{g:Int->Int->Int}
 (rule:∀ (i j:Int) (t u:Tok) (s:Shared) (Q:Value->Shared->Prop) (E:Value->Shared->Prop),Q (.int (g i j) s.toks) { s with toks:=s.toks+1 }->wpAny (model X.prog X.w) X.A (f (.int i t) (.int j u)) Q E s) :
 OpR X f (rI0 fun i j=>.int (g i j)):=by
 intro Aa s σ H x y v u Q I rx ry h
 obtain⟨i,j,rfl,rfl,q⟩:=h
 obtain⟨t,rfl⟩:=rx
 obtain⟨t',rfl⟩:=ry
 exact rule i j t t' s _ _ ⟨.int (g i j),H,I.tok _,⟨_,rfl⟩,q⟩
theorem opB0 {f:Value->Value->Sem Value}{g:Int->Int->Bool}
 (rule:∀ (i j:Int) (t u:Tok) (s:Shared) (Q:Value->Shared->Prop) (E:Value->Shared->Prop),Q (.bool (g i j)) s->wpAny (model X.prog X.w) X.A (f (.int i t) (.int j u)) Q E s) :
 OpR X f (rI0 fun i j=>.bl (g i j)):=by
 intro Aa s σ H x y v u Q I rx ry h
 obtain⟨i,j,rfl,rfl,q⟩:=h
 obtain⟨t,rfl⟩:=rx
 obtain⟨t',rfl⟩:=ry
 exact rule i j t t' s _ _ ⟨.bl (g i j),H,I,rfl,q⟩
def CDiv (i j:Int):Prop:=0<j/\j<1073741824
def CMul (i j:Int):Prop:=(-(2 ^ 64)<i/\i<2 ^ 64)\/(-(2 ^ 64)<j/\j<2 ^ 64)
theorem CMul.ok {i j:Int} (h:CMul i j):IntMulOk i j:=by
 rcases h with ⟨h1,h2⟩|⟨h1,h2⟩
 . exact .of_left (intBits_le_64 h1 h2)
 . exact .of_right (intBits_le_64 h1 h2)
theorem Cy:OpR X (binaryOp .Add) (rI0 fun i j=>.int (i+j)):=opI0 fun _ _ _ _ _ _ _ q=>add_int q
theorem Ls:OpR X (binaryOp .Sub) (rI0 fun i j=>.int (i-j)):=opI0 fun _ _ _ _ _ _ _ q=>sub_int q
theorem Wz:OpR X (binaryOp .Mult) (rI CMul fun i j=>.int (i*j)):=opI fun _ _ _ _ _ _ _ hc q=>mul_int q hc.ok
theorem D4:OpR X (binaryOp .FloorDiv) (rI CDiv fun i j=>.int (i / j)):=opI fun i j _ _ _ _ _ hc q=>by
 have h1:(0:Int)<j:=hc.1
 have h2:j<1073741824:=hc.2
 exact floordiv_int (by omega) (by rw [Int.fdiv_eq_ediv_of_nonneg i (by omega)];exact q) (.inl (PyProof.noPylong_small (by omega)))
theorem Bq:OpR X (binaryOp .Mod) (rI (fun _ j=>0<j) fun i j=>.int (i%j)):=opI fun i j _ _ _ _ _ hc q=>by
 have h1:(0:Int)<j:=hc
 exact mod_int' (by omega) (by rw [Int.fmod_eq_emod_of_nonneg i (by omega)];exact q)
theorem unI {f:Value->Sem Value}{g:Int->Int}
 (rule:∀ (i:Int) (t:Tok) (s:Shared) (Q:Value->Shared->Prop) (E:Value->Shared->Prop),Q (.int (g i) s.toks) { s with toks:=s.toks+1 }->wpAny (model X.prog X.w) X.A (f (.int i t)) Q E s) :
 UnR X f (rU fun i=>.int (g i)):=by
 intro Aa s σ H x v Q I rx h
 obtain⟨i,rfl,q⟩:=h
 obtain⟨t,rfl⟩:=rx
 exact rule i t s _ _ ⟨.int (g i),H,I.tok _,⟨_,rfl⟩,q⟩
theorem Zn:UnR X (unaryOp .USub) (rU fun i=>.int (-i)):=unI fun _ _ _ _ _ q=>neg_int q
end
def scal:V->V->Bool
 | .non,.non=>true | .non,.int _=>true | .int _,.non=>true | .non,.bl _=>true | .bl _,.non=>true | .non,.str _=>true | .str _,.non=>true
 | .int _,.int _=>true | .bl _,.bl _=>true | .str _,.str _=>true | .byt _,.byt _=>true
 | .int _,.str _=>true | .str _,.int _=>true | .bl _,.str _=>true | .str _,.bl _=>true
 | _,_=>false
def rEq:R2:=fun x y H Q=>scal x y=true/\Q (.bl (decide (x=y))) H
def rNe:R2:=fun x y H Q=>scal x y=true/\Q (.bl (!decide (x=y))) H
theorem i5 {i j:Int}:decide (V.int i=V.int j)=(i==j):=by
 rw [Bool.eq_iff_iff]
 simp
theorem z7 {i j:Bool}:decide (V.bl i=V.bl j)=(i==j):=by
 rw [Bool.eq_iff_iff]
 simp
theorem i4 {i j:Str}:decide (V.str i=V.str j)=(i==j):=by
 rw [Bool.eq_iff_iff]
 simp
theorem i6 {i j:Array UInt8}:decide (V.byt i=V.byt j)=(i.toList==j.toList):=by
 rw [Bool.eq_iff_iff]
 cases i
 cases j
 simp
section
variable {X:Cx}{a b c:Expr}{ta tb tc:TE}{pos:Pos}
theorem Bi {Aa:List (Addr × Obj)}{σ:St}{H:Hp}{s:Shared}{Q:VK}{k k':Bool} (I:Inv X Aa σ H s) (q:Q (.bl k) H) (e:k=k'):EP X Aa σ Q (.bool k') s:=by
 subst e
 exact ⟨.bl k,H,I,rfl,q⟩
theorem Fb:OpR X (compareOp .Eq) rEq:=by
 intro Aa s σ H x y v u Q I rx ry h
 obtain⟨hs,q⟩:=h
 cases x with
 | non =>
   cases rx
   cases y with
   | non=>cases ry;exact PySem.EqNone.eq_none_none (Bi I q (by simp))
   | bl j=>cases ry;exact PySem.EqNone.eq_none_bool (Bi I q (by simp))
   | int j=>obtain⟨t',rfl⟩:=ry;exact PySem.EqNone.eq_none_int (Bi I q (by simp))
   | str j=>obtain⟨t',rfl⟩:=ry;exact PySem.EqNone.eq_none_str (Bi I q (by simp))
   | _=>exact absurd (show false=true from hs) Bool.false_ne_true
 | bl i =>
   cases rx
   cases y with
   | non=>cases ry;exact PySem.EqNone.eq_bool_none (Bi I q (by simp))
   | bl j=>cases ry;exact eq_bool (Bi I q z7)
   | str j=>obtain⟨t',rfl⟩:=ry;exact PySem.EqMixed.eq_bool_str (Bi I q (by simp))
   | _=>exact absurd (show false=true from hs) Bool.false_ne_true
 | int i =>
   obtain⟨t,rfl⟩:=rx
   cases y with
   | non=>cases ry;exact PySem.EqNone.eq_int_none (Bi I q (by simp))
   | int j=>obtain⟨t',rfl⟩:=ry;exact eq_int (Bi I q i5)
   | str j=>obtain⟨t',rfl⟩:=ry;exact PySem.EqMixed.eq_int_str (Bi I q (by simp))
   | _=>exact absurd (show false=true from hs) Bool.false_ne_true
 | str i =>
   obtain⟨t,rfl⟩:=rx
   cases y with
   | non=>cases ry;exact PySem.EqNone.eq_str_none (Bi I q (by simp))
   | bl j=>cases ry;exact PySem.EqMixed.eq_str_bool (Bi I q (by simp))
   | int j=>obtain⟨t',rfl⟩:=ry;exact PySem.EqMixed.eq_str_int (Bi I q (by simp))
   | str j=>obtain⟨t',rfl⟩:=ry;exact eq_str (Bi I q i4)
   | _=>exact absurd (show false=true from hs) Bool.false_ne_true
 | byt i =>
   obtain⟨t,rfl⟩:=rx
   cases y with
   | byt j=>obtain⟨t',rfl⟩:=ry;exact PySem.W.eq_bytes (Bi I q i6)
   | _=>exact absurd (show false=true from hs) Bool.false_ne_true
 | _=>cases y<;>exact absurd (show false=true from hs) Bool.false_ne_true
theorem X2:OpR X (compareOp .NotEq) rNe:=by
 intro Aa s σ H x y v u Q I rx ry h
 obtain⟨hs,q⟩:=h
 cases x with
 | non =>
   cases rx
   cases y with
   | non=>cases ry;exact PySem.EqNone.ne_none_none (Bi I q (by simp))
   | bl j=>cases ry;exact PySem.EqNone.ne_none_bool (Bi I q (by simp))
   | int j=>obtain⟨t',rfl⟩:=ry;exact PySem.EqNone.ne_none_int (Bi I q (by simp))
   | str j=>obtain⟨t',rfl⟩:=ry;exact PySem.EqNone.ne_none_str (Bi I q (by simp))
   | _=>exact absurd (show false=true from hs) Bool.false_ne_true
 | bl i =>
   cases rx
   cases y with
   | non=>cases ry;exact PySem.EqNone.ne_bool_none (Bi I q (by simp))
   | bl j=>cases ry;exact ne_bool (Bi I q (congrArg not z7))
   | str j=>obtain⟨t',rfl⟩:=ry;exact PySem.EqMixed.ne_bool_str (Bi I q (by simp))
   | _=>exact absurd (show false=true from hs) Bool.false_ne_true
 | int i =>
   obtain⟨t,rfl⟩:=rx
   cases y with
   | non=>cases ry;exact PySem.EqNone.ne_int_none (Bi I q (by simp))
   | int j=>obtain⟨t',rfl⟩:=ry;exact ne_int (Bi I q (congrArg not i5))
   | str j=>obtain⟨t',rfl⟩:=ry;exact PySem.EqMixed.ne_int_str (Bi I q (by simp))
   | _=>exact absurd (show false=true from hs) Bool.false_ne_true
 | str i =>
   obtain⟨t,rfl⟩:=rx
   cases y with
   | non=>cases ry;exact PySem.EqNone.ne_str_none (Bi I q (by simp))
   | bl j=>cases ry;exact PySem.EqMixed.ne_str_bool (Bi I q (by simp))
   | int j=>obtain⟨t',rfl⟩:=ry;exact PySem.EqMixed.ne_str_int (Bi I q (by simp))
   | str j=>obtain⟨t',rfl⟩:=ry;exact ne_str (Bi I q (congrArg not i4))
   | _=>exact absurd (show false=true from hs) Bool.false_ne_true
 | byt i =>
   obtain⟨t,rfl⟩:=rx
   cases y with
   | byt j=>obtain⟨t',rfl⟩:=ry;exact PySem.W.ne_bytes (Bi I q (congrArg not i6))
   | _=>exact absurd (show false=true from hs) Bool.false_ne_true
 | _=>cases y<;>exact absurd (show false=true from hs) Bool.false_ne_true
theorem Rp:OpR X (compareOp .Lt) (rI0 fun i j=>.bl (decide (i<j))):=opB0 fun _ _ _ _ _ _ _ q=>lt_int q
theorem a6:OpR X (compareOp .LtE) (rI0 fun i j=>.bl (decide (i<=j))):=opB0 fun _ _ _ _ _ _ _ q=>le_int q
theorem r6:OpR X (compareOp .Gt) (rI0 fun i j=>.bl (decide (j<i))):=opB0 fun _ _ _ _ _ _ _ q=>gt_int q
theorem Ao4:OpR X (compareOp .GtE) (rI0 fun i j=>.bl (decide (j<=i))):=opB0 fun _ _ _ _ _ _ _ q=>ge_int q
theorem Aj6:OpR X (compareOp .Is) (fun x y H Q=>y=.non/\Q (.bl (decide (x=.non))) H):=by
 intro Aa s σ H x y v u Q I rx ry h
 obtain⟨rfl,q⟩:=h
 cases ry
 refine is_none_gen (Bi I q ?_)
 cases x<;>first
  | (cases rx;rfl)
  | (obtain⟨t,rfl⟩:=rx;rfl)
theorem Ad4:OpR X (compareOp .IsNot) (fun x y H Q=>y=.non/\Q (.bl (!decide (x=.non))) H):=by
 intro Aa s σ H x y v u Q I rx ry h
 obtain⟨rfl,q⟩:=h
 cases ry
 refine isnot_none_gen (Bi I q ?_)
 cases x<;>first
  | (cases rx;rfl)
  | (obtain⟨t,rfl⟩:=rx;rfl)
theorem A6 (b:Expr) {op:CmpOp} (h:op≠.In:=by decide) (h2:op≠.NotIn:=by decide):behindInMarks op b=false:=by
 have e1:(op==CmpOp.In)=false:=by cases op<;>first | rfl | exact absurd rfl h
 have e2:(op==CmpOp.NotIn)=false:=by cases op<;>first | rfl | exact absurd rfl h2
 cases b<;>simp [behindInMarks,e1,e2]
theorem Ju {op:CmpOp}{r:R2} (ho:OpR X (compareOp op) r) (ha:PE X a ta) (hb:PE X b tb) (hm:behindInMarks op b=false):PE X (.Compare a [op] [b] pos) (tOp r ta tb):=by
 intro Aa s σ H Q I h
 exact wpAny_Compare1 (binT ha hb I h fun v u s2 x y H2 I2 rx ry q=>ho Aa s2 σ H2 x y v u Q I2 rx ry q) hm
def Am8 (t:TE):TT:=fun σ H Q=>t σ H fun x H'=>∃ k,x=.bl k/\Q k H'
theorem Av {op:CmpOp}{r:R2} (ho:OpR X (compareOp op) r) (ha:PE X a ta) (hb:PE X b tb) (hm:behindInMarks op b=false):PT X (.Compare a [op] [b] pos) (Am8 (tOp r ta tb)):=by
 intro Aa s σ H Q I h
 refine wpAny_isTrue_Compare1 (thn (ha Aa s σ H _ I h) fun v s1 ⟨x,H1,I1,r1,q1⟩=>thn (hb Aa s1 σ H1 _ I1 q1) fun u s2 ⟨y,H2,I2,r2,q2⟩ =>
  thn (ho Aa s2 σ H2 x y v u _ I2 r1 r2 q2) fun c s3 ⟨z,H3,I3,r3,k,e,q3⟩=>?_) hm
 subst e
 cases r3
 exact wpAny_truthy_bool ⟨H3,I3,q3⟩
def Ah7 (r r':R2) (ta tb tc:TE):TE:=fun σ H Q=>ta σ H fun x H1=>tb σ H1 fun y H2=>r x y H2 fun z H3=>∃ k,z=.bl k ∧
 (if k=true then tc σ H3 fun w' H4=>r' y w' H4 Q else Q (.bl false) H3)
theorem Pl {op op':CmpOp}{r r':R2} (ho:OpR X (compareOp op) r) (ho':OpR X (compareOp op') r') (ha:PE X a ta) (hb:PE X b tb) (hc:PE X c tc)
 (hm:lastMarks [op,op'] [b,c]=false:=by with_unfolding_all rfl):PE X (.Compare a [op,op'] [b,c] pos) (Ah7 r r' ta tb tc):=by
 intro Aa s σ H Q I h
 refine Compare_chain (thn (ha Aa s σ H _ I h) fun v s1 ⟨x,H1,I1,r1,q1⟩=>chain_link (thn (hb Aa s1 σ H1 _ I1 q1) fun u s2 ⟨y,H2,I2,r2,q2⟩ =>
  thn (ho Aa s2 σ H2 x y v u _ I2 r1 r2 q2) fun d s3 ⟨z,H3,I3,r3,k,e,q3⟩=>?_)) hm
 subst e
 cases r3
 refine wpAny_truthy_bool ?_
 cases k with
 | false=>exact ite_ff ⟨.bl false,H3,I3,rfl,q3⟩
 | true=>exact ite_tt (chain_last (thn (hc Aa s3 σ H3 _ I3 q3) fun w' s4 ⟨z',H4,I4,r4,q4⟩=>ho' Aa s4 σ H4 y z' u w' Q I4 r2 r4 q4))
theorem N9:(sizeLine:Nat)<2 ^ 63:=by rw [sizeLine_eq];decide
theorem Bw:OpR X (binaryOp .Add) (fun x y H Q=>∃ i j,x=.str i/\y=.str j/\i.length+j.length<=sizeLine/\Q (.str (i++j)) H):=by
 intro Aa s σ H x y v u Q I rx ry h
 obtain⟨i,j,rfl,rfl,hz,q⟩:=h
 obtain⟨t,rfl⟩:=rx
 obtain⟨t',rfl⟩:=ry
 exact add_str (fun t' tk=>⟨.str (i++j),H,I.tok _,⟨_,rfl⟩,q⟩) hz
theorem Uq {x:V}{us:List Value} (r:Vals [x] us):∃ u,us=[u]/\RelV x u:=by
 cases r with
 | cons r1 r2=>cases r2;exact ⟨_,rfl,r1⟩
theorem Up {x y:V}{us:List Value} (r:Vals [x,y] us):∃ u w',us=[u,w']/\RelV x u/\RelV y w':=by
 cases r with
 | cons r1 r2 =>
   cases r2 with
   | cons r3 r4=>cases r4;exact ⟨_,_,rfl,r1,r3⟩
theorem Tz (hc:X.calm=true):D9 X (.builtin "max") (fun xs H Q=>∃ i j,xs=[.int i,.int j]/\Q (.int (if j > i then j else i)) H):=by
 intro Aa s σ H xs us Q I r h
 obtain⟨i,j,rfl,q⟩:=h
 obtain⟨u,w',rfl,⟨t,rfl⟩,⟨t',rfl⟩⟩:=Up r
 refine max_two_ints (I.ok.hd hc) fun h' tk k=>⟨_,H,I.kept k,?_,q⟩
 by_cases hj:j > i
 . rw [if_pos hj,if_pos hj];exact ⟨_,rfl⟩
 . rw [if_neg hj,if_neg hj];exact ⟨_,rfl⟩
theorem Jb:D9 X (.type "int") (fun xs H Q=>(∃ i,xs=[.int i]/\Q (.int i) H)\/∃ k,xs=[.bl k]/\Q (.int (if k then 1 else 0)) H):=by
 intro Aa s σ H xs us Q I r h
 rcases h with ⟨i,rfl,q⟩|⟨k,rfl,q⟩
 . obtain⟨u,rfl,t,rfl⟩:=Uq r
   exact call_int_int ⟨.int i,H,I,⟨_,rfl⟩,q⟩
 . obtain⟨u,rfl,r1⟩:=Uq r
   cases r1
   exact call_int_bool ⟨.int (if k then 1 else 0),H,I.tok _,⟨_,rfl⟩,q⟩
end
end L2
namespace L2
open PySem PySem.Spec PyProof.Rows
section
variable {prog:Program}{w:World}{A:Around}{E:Value->Shared->Prop}{s:Shared}{K:W.Frag}{x dx C f:Addr}{mA:Str->Option Value}{name:Str}{v:Value}
end
theorem RelO.some_of {v:V}{o:Option Value} (r:RelO (some v) o):∃ u,o=some u/\RelV v u:=by
 cases o with
 | none=>exact (show False from r).elim
 | some u=>exact ⟨u,rfl,r⟩
theorem f8 {v:V}{u:Value} (r:RelV v u):PySem.W.handedIn u=true:=by
 cases v with
 | non=>cases (show u=Value.none from r);rfl
 | bl b=>cases (show u=Value.bool b from r);rfl
 | int i=>obtain⟨t,e⟩:=(show ∃ t,u=Value.int i t from r);cases e;rfl
 | str x=>obtain⟨t,e⟩:=(show ∃ t,u=Value.str x t from r);cases e;rfl
 | byt b=>obtain⟨t,e⟩:=(show ∃ t,u=Value.bytes b t from r);cases e;rfl
 | flt b=>obtain⟨t,e⟩:=(show ∃ t,u=Value.float b t from r);cases e;rfl
 | ref a=>cases (show u=Value.ref a from r);rfl
 | ty n=>cases (show u=Value.type n from r);rfl
section
variable {P:Program}{w:World}{H H':Hp}{h h':Heap}{a C dx:Addr}{fs fs':List (Str × V)}
end
section
variable {X:Cx}{Aa:List (Addr × Obj)}{σ:St}{H:Hp}{s:Shared}{a C dx:Addr}{fs:List (Str × V)}{f:Str}{v:V}{A:Around}{E:Value->Shared->Prop}
theorem Ag4 {prog:Program}{w:World}{env:Env}{e:Expr}{f:Str}{pos:Pos}{s:Shared}{Q:Value->Shared->Prop} (hb:attributeBase e f env (eval e env)=eval e env)
 (h:wpAny (model prog w) A (eval e env) (fun o s₁=>wpAny (model prog w) A (getAttr o f true) Q E s₁) E s):wpAny (model prog w) A (eval (.Attribute e f pos) env) Q E s :=
 Attribute_any_ h (by rw [arm_eval_Attribute,hb])
end
section
variable {X:Cx}{o e value:Expr}{f:Str}{pos pos' tpos:Pos}{ta tv:TE}
end
section
variable {X:Cx}{Aa:List (Addr × Obj)}{σ:St}{H:Hp}{s:Shared}{A:Around}{E:Value->Shared->Prop}{Q:Value->Shared->Prop}{c:Value}{b:Bool}
end
end L2
namespace L2
open PySem PySem.Spec PyProof.Rows
structure Room (k:Nat) (A:Around):Prop where
 hd:A.handled=none
 dp:A.depth+3*k+5<recursionLimit
 un:A.units+16*k+200<cLine
 gd:A.guards=some []
theorem Room.mono {j k:Nat}{A:Around} (r:Room k A) (h:j<=k):Room j A:=⟨r.hd,by have:=r.dp;omega,by have:=r.un;omega,r.gd⟩
theorem Room.deeper {k:Nat}{A:Around} (r:Room (k+1) A) (env:Env):Room k (A.deeper env) :=
 ⟨r.hd,by have:=r.dp;show A.depth+1+3*k+5<_;omega,by have:=r.un;show A.units+3+16*k+200<_;omega,r.gd⟩
theorem Yl {A:Around}{C:Addr}{us:List Value}{kw:List (Str × Value)}:(A.under (.builtin "type.__call__" ⟨.ref C::us,kw⟩)).depth=A.depth+1:=by
 first | rfl | simp [Around.under,Code.weight,Code.isCreation,Code.isGuard,Code.isCaller,Code.frames,Code.isFrame,guardIds]
theorem Vv {A:Around}{C:Addr}{us:List Value}{kw:List (Str × Value)}:(A.under (.builtin "type.__call__" ⟨.ref C::us,kw⟩)).guards=A.guards:=by
 first | rfl | simp [Around.under,Code.weight,Code.isCreation,Code.isGuard,Code.isCaller,Code.frames,Code.isFrame,guardIds]
theorem Yk {A:Around}{C:Addr}{us:List Value}{kw:List (Str × Value)}:(A.under (.builtin "type.__call__" ⟨.ref C::us,kw⟩)).units=A.units+1:=by
 first | rfl | simp [Around.under,Code.cUnits,Code.frames,Code.isFrame]
theorem Room.make {k:Nat}{A:Around} (r:Room (k+1) A) (C:Addr) (us:List Value) (kw:List (Str × Value)):Room k (A.under (.builtin "type.__call__" ⟨.ref C::us,kw⟩)) :=
 ⟨r.hd,by have:=r.dp;rw [Yl];omega,by have:=r.un;rw [Yk];omega,by rw [Vv];exact r.gd⟩
theorem Room.depth {k:Nat}{A:Around} (r:Room k A):A.depth<recursionLimit:=by have:=r.dp;omega
theorem Room.units {k:Nat}{A:Around} (r:Room k A):A.units+64<cLine:=by have:=r.un;omega
def tNil:TA:=fun _ H Q=>Q [] H
def Ah6 (ta:TE) (tr:TA):TA:=fun σ H Q=>ta σ H fun x H1=>tr σ H1 fun xs H2=>Q (x::xs) H2
section
variable {X:Cx}{e:Expr}{es:List Expr}{te:TE}{t:TA}{pos:Pos}
theorem Ai:PA X [] tNil:=fun _ _ _ _ H Q I h=>Calls.spliced_nil ⟨[],H,I,.nil,h⟩
theorem Ab (ha:PE X e te) (hr:PA X es t) (hs:starEach (e::es) X.env=(false,eval e X.env)::starEach es X.env:=by rfl):PA X (e::es) (Ah6 te t):=by
 intro pos Aa s σ H Q I h
 rw [hs]
 show wpAny _ _ (spliced ((false,eval e X.env)::backTo pos (starEach es X.env))) _ _ s
 refine Calls.spliced_cons (thn (ha Aa s σ H _ I h) fun u s1 ⟨x,H1,I1,r1,q1⟩=>?_)
 exact thn (hr pos Aa s1 σ H1 _ I1 q1) fun us s2 ⟨xs,H2,I2,r2,q2⟩=>⟨x::xs,H2,I2,.cons r1 r2,q2⟩
def tTup (t:TA):TE:=fun σ H Q=>t σ H fun xs H1=>xs.length<=sizeLine/\∀ p,H1 p=none->Q (.ref p) (upd H1 p (.tup xs))
def tLst (t:TA):TE:=fun σ H Q=>t σ H fun xs H1=>xs.length<=sizeLine/\∀ p,H1 p=none->Q (.ref p) (upd H1 p (.lst xs))
theorem B4 {x1} (h:PA X es t):PE X (.Tuple es x1 pos) (tTup t):=by
 intro Aa s σ H Q I hq
 refine wpAny_Tuple_spliced (thn (h pos Aa s σ H _ I hq) fun us s1 ⟨xs,H1,I1,r,z,q⟩=>⟨by rw [←r.length];exact z,?_⟩)
 have hf:H1 s1.heap.objs.size=none:=I1.hok.fresh (Nat.le_refl _)
 refine⟨.ref s1.heap.objs.size,upd H1 s1.heap.objs.size (.tup xs),I1.laid (t':=s1.toks) (fun b u e=>Heap.get?_push_of_some _ e) (Nat.le_refl _) ?_,rfl,q _ hf⟩
 exact ⟨z,us,r,⟨_,Heap.get?_push_size _ rfl,rfl,rfl,_,rfl⟩⟩
theorem Db (h:PA X es t):PE X (.List es pos) (tLst t):=by
 intro Aa s σ H Q I hq
 refine wpAny_List_spliced (thn (h pos Aa s σ H _ I hq) fun us s1 ⟨xs,H1,I1,r,z,q⟩=>⟨by rw [←r.length];exact z,?_⟩)
 have hf:H1 s1.heap.objs.size=none:=I1.hok.fresh (Nat.le_refl _)
 refine⟨.ref s1.heap.objs.size,upd H1 s1.heap.objs.size (.lst xs),I1.laid (t':=s1.toks) (fun b u e=>Heap.get?_push_of_some _ e) (Nat.le_refl _) ?_,rfl,q _ hf⟩
 exact ⟨z,us,0,r,Heap.get?_push_size _ rfl⟩
end
abbrev Sp:=List V->Hp->VK->XK->Prop
abbrev CXT:=List Env->Hp->Shared->XK->Value->Shared->Prop
structure Env0 (P:Program) (w:World) (K:W.Frag) (mg:Str->Option Value) (base:Heap) (A:Around) (outer:List Env) (s:Shared) (H:Hp):Prop where
 frames:A.frames=some outer
 mod:Mod K mg base
 bs:∀ b o,base.get? b=some o->s.heap.get? b=some o/\H b=none
 bsz:base.objs.size<=s.heap.objs.size
 funs:s.heap.FunFrames base outer
 frf:∀ b∈frs outer,H b=none
 hok:HOk P w H s.heap
 bare:AllBare s.gens
def CE (outer:List Env) (P:Program) (w:World) (H:Hp) (s:Shared) (Q:VK) (u:Value) (s':Shared):Prop :=
 ∃ v H',s'.os=s.os/\AllBare s'.gens/\Un (frs outer) [] H H' s.heap s'.heap/\HOk P w H' s'.heap/\RelV v u/\Q v H'
def CR (CX:CXT) (outer:List Env) (P:Program) (w:World) (H:Hp) (s:Shared) (Q:VK) (E:XK) (r:Result) (s':Shared):Prop :=
 match r with
 | .ok (.ret u)=>CE outer P w H s Q u s'
 | .ok _=>False
 | .error e=>CX outer H s E e s'
structure FnOk (P:Program) (w:World) (K:W.Frag) (mg:Str->Option Value) (base:Heap) (CX:CXT) (k:Nat) (f:Addr) (fd:FuncData) (ps:List Str) (sp:Sp):Prop where
 len:∀ vs H Q E,sp vs H Q E->vs.length=ps.length
 run:∀ (A:Around) (outer:List Env) (s:Shared) (H:Hp) (args:Args) (us:List Value) (vs:List V) (Q:VK) (E:XK),Room k A->Env0 P w K mg base A outer s H->BindsTo s fd args (ps.zip us)->Vals vs us->sp vs H Q E →
  codeAny (model P w) A (.call (.ref f) args) (CR CX outer P w H s Q E) s
theorem Env0.make {P:Program}{w:World}{K:W.Frag}{mg:Str->Option Value}{base:Heap}{A:Around}{outer:List Env}{s:Shared}{H:Hp} (e:Env0 P w K mg base A outer s H) (C:Addr) (us:List Value) (kw:List (Str × Value)) :
 Env0 P w K mg base (A.under (.builtin "type.__call__" ⟨.ref C::us,kw⟩)) outer s H:=⟨by first | exact e.frames | (simpa [Around.under,Code.envs,Code.isFrame,pushEnvs] using e.frames),e.mod,e.bs,e.bsz,e.funs,e.frf,e.hok,e.bare⟩
section
variable {X:Cx}{Aa:List (Addr × Obj)}{σ:St}{H:Hp}{s s':Shared}
theorem Inv.env0 (I:Inv X Aa σ H s):Env0 X.prog X.w X.K X.mg X.base X.A X.stack s H :=
 ⟨I.ok.frames,I.ok.mod,I.bs,Nat.le_trans I.ok.bsz I.sz,I.stack,I.stkFree,I.hok,I.bare⟩
theorem Inv.after {Q:VK}{u:Value} (I:Inv X Aa σ H s) (h:CE X.stack X.prog X.w H s Q u s'):EP X Aa σ Q u s':=by
 obtain⟨v,H',os,bare,un,hok,r,q⟩:=h
 obtain⟨hh,g,d,t,os'⟩:=s'
 obtain rfl:os'=s.os:=os
 exact ⟨v,H',I.call (h':=hh) (g':=g) (d':=d) (t':=t) (ch:=[]) un hok bare (fun b z=>absurd z (by simp)),r,q⟩
end
def tCall (sp:Sp) (dvs:List V) (E:XK) (t:TA):TE:=fun σ H Q=>t σ H fun vs H1=>sp (vs++dvs) H1 Q E
def Na (K:W.Frag) (fd:FuncData) (ps:List Str) (ds:List Value):Prop :=
 ∀ (s:Shared) (us:List Value),K.In s.heap->(us++ds).length=ps.length->BindsTo s fd ⟨us,[]⟩ (ps.zip (us++ds))
theorem Na.all {K:W.Frag}{fd:FuncData}{ps:List Str} (h:∀ us:List Value,us.length=ps.length->bindArgs fd ⟨us,[]⟩=pure (ps.zip us)):Na K fd ps []:=fun s us _ hl=>by
 rw [List.append_nil] at hl ⊢
 exact .of_eq (h us hl)
def l6 (CX:CXT) (X:Cx) (E:XK):Prop:=∀ (Aa:List (Addr × Obj)) (σ:St) (H:Hp) (s:Shared) (e:Value) (s':Shared),Inv X Aa σ H s->CX X.stack H s E e s'->X.xe e s'
section
variable {X:Cx}{CX:CXT}{k:Nat}{f C:Addr}{fd:FuncData}{ps:List Str}{sp:Sp}{dvs:List V}{ds:List Value}{E:XK}{x m:Str}{p pos apos:Pos}{e o:Expr}{es:List Expr}{ta:TE}{t:TA}
theorem Ai2 {Aa:List (Addr × Obj)}{σ:St}{H:Hp}{s:Shared}{Q:VK}{us:List Value}{vs:List V} (F:FnOk X.prog X.w X.K X.mg X.base CX k f fd ps sp) (hr:Room k X.A) (hb:Na X.K fd ps ds) (hd:Vals dvs ds) (hx:l6 CX X E)
 (I:Inv X Aa σ H s) (r:Vals vs us) (h:sp (vs++dvs) H Q E):wpAny (model X.prog X.w) X.A (call (.ref f) us) (EP X Aa σ Q) X.xe s:=by
 have r2:Vals (vs++dvs) (us++ds):=r.append hd
 have hl:(us++ds).length=ps.length:=by rw [←r2.length];exact F.len _ _ _ _ h
 refine wpAny_call (codeAny_mono (F.run X.A X.stack s H ⟨us,[]⟩ (us++ds) (vs++dvs) Q E hr I.env0 (hb s us I.kIn hl) r2 h) fun r s' hq=>?_)
 cases r with
 | error e=>exact hx Aa σ H s e s' I hq
 | ok fl =>
   cases fl with
   | ret u=>exact I.after hq
   | next=>exact False.elim hq
   | brk=>exact False.elim hq
   | cont=>exact False.elim hq
theorem Ad0 (F:FnOk X.prog X.w X.K X.mg X.base CX k f fd ps sp) (hr:Room k X.A) (hg:Gl X x) (hm:X.mg x=some (.ref f)) (hk:PySem.W.keepIn X.K (.ref f)=true) (hb:Na X.K fd ps ds) (hd:Vals dvs ds) (hx:l6 CX X E)
 (ha:PA X (e::es) t) (hdb:(x==("__debug__":Str))=false:=by decide) (he:starEach (e::es) X.env=(false,eval e X.env)::starEach es X.env:=by rfl) (hpl:(backTo pos (starEach es X.env)).any (·.1)=false:=by rfl) :
 PE X (.Call (.Name x p) (e::es) [] pos) (tCall sp dvs E t):=by
 intro Aa s σ H Q I h
 refine wpAny_Call_Name_kw (F2 I hg hm ?_ hdb)
 refine PySem.W.callWith_K (h₀:=X.base) I.ok.mod.kin hk (thn (ha pos Aa s σ H _ I h) fun us s1 ⟨vs,H1,I1,r,q⟩=>⟨I1.kIn,?_⟩) he hpl
 exact Ai2 F hr hb hd hx I1 r q
end
section
variable {X:Cx}{CX:CXT}{k:Nat}{f C:Addr}{fd:FuncData}{ps ks:List Str}{sp:Sp}{E:XK}{x m:Str}{p pos apos kpos:Pos}{e o:Expr}{es:List Expr}{kws:List Keyword}{te ta:TE}{t tk:TA}{nm:Option Str}
variable {g:List Value->List Value->List Value}{gV:List V->List V->List V}
end
structure FnScope (N P:List Str) (sc:Scope):Prop where
 kind:sc.kind=.function
 co:sc.isCoroutine=false
 gen:sc.isGenerator=false
 nd:N.Nodup
 pre:N.take P.length=P
 par:∀ x∈P,sc.names.lookup x=some .local\/sc.names.lookup x=some .cell
 nofree:∀ y∈sc.names,y.2≠.free
theorem T4 {kindOf:Str->Option NameKind}{x:Str}:∀{binds:List (Str × Value)}{m:Str->Option Value},(∀ v,(x,v) ∉ binds)->bindL kindOf binds m x=m x
 | [],_,_=>rfl
 | (n,v)::r,m,h=>by
   unfold bindL
   rw [T4 fun w hw=>h w (List.mem_cons_of_mem _ hw)]
   split
   . have:x≠n:=by rintro rfl;exact h v List.mem_cons_self
     simp [this]
   . rfl
theorem T6 {kindOf:Str->Option NameKind}{x:Str}:∀{binds:List (Str × Value)}{m:Str->Option Value},(∀ v,(x,v) ∉ binds)->bindC kindOf binds m x=m x
 | [],_,_=>rfl
 | (n,v)::r,m,h=>by
   unfold bindC
   rw [T6 fun w hw=>h w (List.mem_cons_of_mem _ hw)]
   split
   . rfl
   . have:x≠n:=by rintro rfl;exact h v List.mem_cons_self
     simp [this]
theorem T5 {kindOf:Str->Option NameKind}{x:Str}{v:Value}:∀{P:List Str}{vs:List Value}{i:Nat}{m:Str->Option Value},P.Nodup->P[i]?=some x->vs[i]?=some v->kindOf x=some .local →
 bindL kindOf (P.zip vs) m x=some v
 | [],_,_,_,_,h,_,_=>by simp at h
 | _::_,[],_,_,_,_,h,_=>by simp at h
 | p::P,w::vs,0,m,nd,h1,h2,hk=>by
   simp at h1 h2;subst h1;subst h2
   show bindL kindOf ((p,w)::P.zip vs) m p=_
   unfold bindL
   rw [T4 fun v hv=>(List.nodup_cons.mp nd).1 (List.of_mem_zip hv).1,if_pos hk]
   simp
 | p::P,w::vs,i+1,m,nd,h1,h2,hk=>by
   show bindL kindOf ((p,w)::P.zip vs) m x=_
   unfold bindL
   exact T5 (i:=i) (List.nodup_cons.mp nd).2 (by simpa using h1) (by simpa using h2) hk
theorem T7 {kindOf:Str->Option NameKind}{x:Str}{v:Value}:∀{P:List Str}{vs:List Value}{i:Nat}{m:Str->Option Value},P.Nodup->P[i]?=some x->vs[i]?=some v->kindOf x≠some .local →
 bindC kindOf (P.zip vs) m x=some v
 | [],_,_,_,_,h,_,_=>by simp at h
 | _::_,[],_,_,_,_,h,_=>by simp at h
 | p::P,w::vs,0,m,nd,h1,h2,hk=>by
   simp at h1 h2;subst h1;subst h2
   show bindC kindOf ((p,w)::P.zip vs) m p=_
   unfold bindC
   rw [T6 fun v hv=>(List.nodup_cons.mp nd).1 (List.of_mem_zip hv).1,if_neg hk]
   simp
 | p::P,w::vs,i+1,m,nd,h1,h2,hk=>by
   show bindC kindOf ((p,w)::P.zip vs) m x=_
   unfold bindC
   exact T7 (i:=i) (List.nodup_cons.mp nd).2 (by simpa using h1) (by simpa using h2) hk
def Jg (N:List Str) (vs:List V):St:=vs.map some++List.replicate (N.length-vs.length) none
def cxOf (CX:CXT) (P:Program) (w:World) (K:W.Frag) (mg:Str->Option Value) (base:Heap) (N:List Str) (qual:Str) (scope:Scope) (f:Addr) (cd:Value) (A:Around) (outer:List Env) (s:Shared) (H:Hp) (E:XK):Cx where
 prog:=P
 w:=w
 K:=K
 mg:=mg
 base:=base
 A:=A.deeper (envOfC qual scope s.heap.objs.size f cd)
 N:=N
 s₀:=s
 H₀:=H
 env:=envOfC qual scope s.heap.objs.size f cd
 outer:=outer
 stack:=envOfC qual scope s.heap.objs.size f cd::outer
 ex:=[]
 calm:=true
 fn:=fun _=>true
 pn:=[]
 xe:=fun e s'=>wpAny (model P w) (A.deeper (envOfC qual scope s.heap.objs.size f cd)) (leaving (envOfC qual scope s.heap.objs.size f cd) e) (fun _ s''=>CX outer H s E e s'') (fun e' s''=>CX outer H s E e' s'') s'
theorem Xc {sc:Scope}{n:Nat}{x:Str} (h:sc.names.lookup x=some .cell):∃ c,(cellsFrom n sc.names []).lookup x=some c:=by
 have q:=PySem.W.cellsFrom_some sc.names n [] (.inl h)
 exact Option.isSome_iff_exists.mp q
theorem S6 {CX:CXT}{P:Program}{w:World}{K:W.Frag}{mg:Str->Option Value}{base:Heap}{N ps:List Str}{qual:Str}{scope:Scope}{f:Addr}{cd:Value}{A:Around}{outer:List Env}{s s1:Shared}{H:Hp}{E:XK}{us:List Value}{vs:List V}
 (S:FnScope N ps scope) (hd:A.handled=none) (e0:Env0 P w K mg base A outer s H) (hl:vs.length=ps.length) (r:Vals vs us)
 (x:InCallC s s.heap.objs.size (bindL (envOfC qual scope s.heap.objs.size f cd).kindOf (ps.zip us) fun _=>none) (cellsFrom (s.heap.objs.size+1) scope.names []) (bindC (envOfC qual scope s.heap.objs.size f cd).kindOf (ps.zip us) fun _=>none) s1) :
 Inv (cxOf CX P w K mg base N qual scope f cd A outer s H E) [] (Jg N vs) H s1:=by
 have hpl:ps.length<=N.length:=by have:=congrArg List.length S.pre;rw [List.length_take] at this;omega
 obtain⟨h1,tk,rfl,hk⟩:=x.done
 have noA:∀ b:Addr,b ∉ (cxOf CX P w K mg base N qual scope f cd A outer s H E).ex:=fun b z=>absurd (show b∈([]:List Addr) from z) (by simp)
 refine⟨⟨e0.mod,S.kind,rfl,rfl,Nat.le_refl _,fun y z c h1 h2=>?_,fun y hy=>?_,fun y c _ h=>?_,fun _=>hd,Around.frames_deeper e0.frames,.inr ⟨rfl,rfl⟩,fun b z=>absurd z (noA b),e0.bs,e0.bsz,fun b _ _=>noA b,fun b z=>absurd z (noA b),e0.funs,e0.frf⟩,
  rfl,e0.bare,Un.kept hk,⟨_,x.toInCall.ns,fun i y v h1 h2 h3=>?_⟩,fun y c h=>⟨_,x.cell y c h⟩,e0.hok.fresh (Nat.le_refl _),fun y c h=>?_,fun p hp=>absurd (show p∈([]:List (Addr × Obj)) from hp) (by simp),e0.hok.kept hk,?_⟩
 . exact name_of_addr x.apart (PySem.mem_of_lookup h1) (PySem.mem_of_lookup h2)
 . have hy:scope.names.lookup y=some .cell\/scope.names.lookup y=some .free:=hy
   rcases hy with hy | hy
   . exact Xc hy
   . exact absurd rfl (S.nofree _ (PySem.mem_of_lookup hy))
 . exact Nat.le_of_lt (x.above y c (PySem.mem_of_lookup h))
 . have hi:i<vs.length:=by
    unfold Jg at h2
    by_cases hi:i<vs.length
    . exact hi
    . rw [List.getElem?_append_right (by simpa using hi)] at h2
      rw [List.getElem?_replicate] at h2
      split at h2<;>cases h2
   have ha:vs[i]?=some v:=by
    unfold Jg at h2
    rw [List.getElem?_append_left (by simpa using hi),List.getElem?_map] at h2
    cases e:vs[i]? with
    | none=>rw [e] at h2;cases h2
    | some a=>rw [e] at h2;cases h2;rfl
   obtain⟨u,hu,rv⟩:=r.get ha
   have hp:ps[i]?=some y:=by
    rw [←S.pre,List.getElem?_take_of_lt (by omega)];exact h1
   have ndP:ps.Nodup:=by rw [←S.pre];exact S.nd.sublist (List.take_sublist _ _)
   refine⟨u,rv,?_⟩
   rcases S.par y (List.mem_of_getElem? hp) with k | k
   . exact .inl ⟨k,T5 ndP hp hu k⟩
   . obtain⟨c,e⟩:=Xc (n:=s.heap.objs.size+1) k
     refine .inr ⟨.inl k,c,e,?_⟩
     have q:=x.cell y c e
     rw [T7 ndP hp hu (by show scope.names.lookup y≠_;rw [k];decide)] at q
     exact q
 . exact e0.hok.fresh (Nat.le_of_lt (x.above y c (PySem.mem_of_lookup h)))
 . unfold Jg
   show _=N.length
   rw [List.length_append,List.length_map,List.length_replicate]
   omega
theorem Al7 {CX:CXT}{P:Program}{w:World}{K:W.Frag}{mg:Str->Option Value}{base:Heap}{k:Nat}{f:Addr}{name qual:Str}{params:Arguments}{body:List Stmt}{scope:Scope}{dV kV doc pm B5 ct oc:Value}{an od:Option Addr}
 {osl:Array (Option Value)}{N ps:List Str}{sp:Sp} (lk:K.lookup f=some ⟨oc,od,.func (PySem.W.fnOf name qual params body scope dV kV doc pm an B5 ct),osl⟩) (hcd:PySem.W.codeIn K B5 qual=true) (S:FnScope N ps scope)
 (len:∀ vs H Q E,sp vs H Q E->vs.length=ps.length)
 (hbody:∀ (A:Around) (outer:List Env) (s:Shared) (H:Hp) (vs:List V) (Q:VK) (E:XK),Room k (A.deeper (envOfC qual scope s.heap.objs.size f B5))->sp vs H Q E →
   ∃ t,PSs (cxOf CX P w K mg base N qual scope f B5 A outer s H E) body t/\t { nx:=fun _ H'=>Q .non H',rt:=Q } (Jg N vs) H) :
 FnOk P w K mg base CX (k+1) f (PySem.W.fnOf name qual params body scope dV kV doc pm an B5 ct) ps sp:=by
 refine⟨len,fun A outer s H args us vs Q E hr e0 hb r hsp=>?_⟩
 have hl:=len _ _ _ _ hsp
 have KX:K.In s.heap:=e0.mod.kin.keeps fun b o e=>(e0.bs b o e).1
 have lim:s.heap.NoLimit:=e0.mod.nolimit.keeps fun b o e=>(e0.bs b o e).1
 have hkind:∀ y∈ps.zip us,scope.names.lookup y.1=some .local\/(scope.names.lookup y.1=some .cell/\((cellsFrom (s.heap.objs.size+1) scope.names []).lookup y.1).isSome=true):=fun ⟨n,v⟩ hy=>by
  rcases S.par n (List.of_mem_zip hy).1 with q | q
  . exact .inl q
  . exact .inr ⟨q,PySem.W.cellsFrom_some _ _ _ (.inl q)⟩
 refine codeAny_call_function hr.depth (KX _ _ lk) rfl S.co S.gen rfl (PySem.W.codeRec_of KX hcd) (hb _ _ _ _ ?_)
 refine wpAny_newFunctionEnv_cells S.kind hkind fun env he s1 x=>?_
 subst he
 refine⟨lim.keeps x.toInCall.keep,codeAny_func ?_⟩
 obtain⟨t,ht,hq⟩:=hbody A outer s H vs Q E (hr.deeper _) hsp
 have I:Inv (cxOf CX P w K mg base N qual scope f B5 A outer s H E) [] (Jg N vs) H s1:=S6 S hr.hd e0 hl r x
 refine wpAny_mono (ht [] s1 (Jg N vs) H _ I hq) (fun fl s' hs=>?_) fun e s' hs=>hs
 have fin:∀{σ':St}{H':Hp}{v:V}{u:Value},Inv (cxOf CX P w K mg base N qual scope f B5 A outer s H E) [] σ' H' s'->RelV v u->Q v H'->CE outer P w H s Q u s' :=
  fun {σ' H' v u} J rv q=>⟨v,H',J.os,J.bare,J.base,J.hok,rv,q⟩
 cases fl with
 | ret u =>
   obtain⟨v,σ',H',J,rv,q⟩:=hs
   exact fin J rv q
 | next =>
   obtain⟨σ',H',J,q⟩:=hs
   exact fin (v:=V.non) (u:=Value.none) J rfl q
 | brk =>
   obtain⟨_,_,_,q⟩:=hs
   exact False.elim q
 | cont =>
   obtain⟨_,_,_,q⟩:=hs
   exact False.elim q
end L2
namespace L2
open PySem PySem.Spec PyProof.Rows
section
variable {X:Cx}{x:Str}{p pos:Pos}{e:Expr}{es:List Expr}{t:TA}{id T:String}{r:List V->Hp->VK->Prop}
def tCB (r:List V->Hp->VK->Prop) (t:TA):TE:=fun σ H Q=>t σ H fun vs H1=>r vs H1 Q
theorem Ap (hc:D9 X (.builtin id) r) (hg:Gl X x) (hm:X.mg x=none) (hv:bootBuiltins x=some (.builtin id)) (ha:PA X (e::es) t) (hn:x≠"__name__":=by decide) (hdb:(x==("__debug__":Str))=false:=by decide)
 (he:starEach (e::es) X.env=(false,eval e X.env)::starEach es X.env:=by rfl) (hpl:(backTo pos (starEach es X.env)).any (·.1)=false:=by rfl):PE X (.Call (.Name x p) (e::es) [] pos) (tCB r t):=by
 intro Aa s σ H Q I h
 refine wpAny_Call_Name_kw (Sn I hg hm hv ?_ hn hdb)
 exact PyProof.Rows.callWith_builtin1 (thn (ha pos Aa s σ H _ I h) fun us s1 ⟨vs,H1,I1,r1,q1⟩=>hc Aa s1 σ H1 vs us Q I1 r1 q1) he hpl
theorem Cv (hc:D9 X (.type T) r) (hg:Gl X x) (hm:X.mg x=none) (hv:bootBuiltins x=some (.type T)) (ha:PA X (e::es) t) (hn:x≠"__name__":=by decide) (hdb:(x==("__debug__":Str))=false:=by decide)
 (he:starEach (e::es) X.env=(false,eval e X.env)::starEach es X.env:=by rfl) (hpl:(backTo pos (starEach es X.env)).any (·.1)=false:=by rfl):PE X (.Call (.Name x p) (e::es) [] pos) (tCB r t):=by
 intro Aa s σ H Q I h
 refine wpAny_Call_Name_kw (Sn I hg hm hv ?_ hn hdb)
 exact PyProof.Rows.callWith_type1 (thn (ha pos Aa s σ H _ I h) fun us s1 ⟨vs,H1,I1,r1,q1⟩=>hc Aa s1 σ H1 vs us Q I1 r1 q1) he hpl
end
end L2
namespace HT
open PySem PyProof.Rows
section
open PySem.SeqAt
open PySem.AutoSeq1 (wpAny_loadPart')
open PySem.MeetsSeq PySem.MeetsSeq2 PySem.MeetsSeq3
end
section
variable {prog:Program}{w:World}{A:Around}{E:Value->Shared->Prop}{s:Shared}
theorem cat_tup {t b:Addr}{vs ws:List Value}{Q:Value->Shared->Prop} (ht:IsTup s.heap t vs.toArray) (hb:IsTup s.heap b ws.toArray) (hv:vs≠[])
 (h1:ws=[]->Q (.ref t) s) (h2:ws≠[]->Q (.ref s.heap.objs.size) { s with heap:=s.heap.push { cls:=.type "tuple",data:=.seq (vs++ws).toArray } })
 (hsz:vs.length+ws.length<=sizeLine):wpAny (model prog w) A (binaryOp .Add (.ref t) (.ref b)) Q E s:=by
 obtain⟨⟨cls,dd,data,sl⟩,ho,hc,n,hd⟩:=id ht
 obtain⟨⟨cls2,dd2,data2,sl2⟩,ho2,hc2,n2,hd2⟩:=id hb
 simp only at hc hd hc2 hd2
 subst hc hd hc2 hd2
 have e:vs.toArray++ws.toArray=(vs++ws).toArray:=by simp
 by_cases hw:ws=[]
 . exact concat_meets ⟨_,ho,rfl⟩ ⟨_,ho2,rfl⟩ noFill_tuple_add seq_tuple_add PySem.F.slot_tuple_add PySem.F.entry_tuple_add (PySem.F.args_tuple_add_2 _ _)
    (tuple_addW1 t b vs.toArray ws.toArray n n2 dd dd2 sl sl2 (by simpa using hv) (by simp [hw])) ⟨ho,ho2,h1 hw⟩
 . refine concat_meets ⟨_,ho,rfl⟩ ⟨_,ho2,rfl⟩ noFill_tuple_add seq_tuple_add PySem.F.slot_tuple_add PySem.F.entry_tuple_add (PySem.F.args_tuple_add_2 _ _)
    (tuple_addW2 t b vs.toArray ws.toArray n n2 dd dd2 sl sl2 (by simpa using hv) (by simpa using hw) (by rw [List.size_toArray,List.size_toArray];exact hsz)) ⟨ho,ho2,?_⟩
   rw [e]
   exact h2 hw
def sIx (n d:Nat):Option Int->Nat
 | none=>d
 | some v=>if v<0 then (v+(n:Int)).toNat else min v.toNat n
theorem sIx_none (n d:Nat):sIx n d none=d:=rfl
theorem sIx_nat (n d k:Nat):sIx n d (some (k:Int))=min k n:=by
 show (if (k:Int)<0 then ((k:Int)+(n:Int)).toNat else min (k:Int).toNat n)=min k n
 rw [if_neg (by omega),Int.toNat_natCast]
theorem Ai1 (n d:Nat) (hd:d<=n) (o:Option Int):sIx n d o<=n:=by
 cases o with
 | none=>exact hd
 | some v =>
   show (if v<0 then (v+(n:Int)).toNat else min v.toNat n)<=n
   by_cases hv:v<0
   . rw [if_pos hv];omega
   . rw [if_neg hv];exact Nat.min_le_right _ _
theorem j7 (v:Int) (n d:Nat):(if v<0 then max (v+(n:Int)) 0 else min v (n:Int))=((sIx n d (some v):Nat):Int):=by
 show (if v<0 then max (v+(n:Int)) 0 else min v (n:Int))=(((if v<0 then (v+(n:Int)).toNat else min v.toNat n):Nat):Int)
 by_cases hv:v<0
 . simp only [if_pos hv];omega
 . simp only [if_neg hv];omega
theorem Zh (lo hi:Option Int) (n:Nat):Builtin.Slice.sliceAdjust lo hi 1 (n:Int)=(((sIx n 0 lo:Nat):Int),((sIx n n hi:Nat):Int)):=by
 have h1:¬((1:Int)<0):=by omega
 unfold Builtin.Slice.sliceAdjust
 simp only [h1,if_false]
 refine Prod.ext ?_ ?_
 . cases lo with
   | none=>rfl
   | some v=>exact j7 v n 0
 . cases hi with
   | none=>rfl
   | some v=>exact j7 v n n
theorem X1 (i j:Nat):Builtin.Slice.slicePlaces (i:Int) (j:Int) 1=j-i:=by
 unfold Builtin.Slice.slicePlaces
 have h1:(1:Int) > 0:=by omega
 simp only [h1,if_true,Int.ediv_one]
 split<;>omega
theorem N3 {v:Value}{o:Option Int}{Q:Option Int->Shared->Prop} (p:IsPart v o) (h:Q o s):wpAny (model prog w) A (Builtin.Slice.slicePartIndex v) Q E s:=by
 cases p with
 | none=>exact slicePart_none h
 | int i t=>exact slicePart_int h
theorem Fn {sl:Addr}{vl vu:Value}{lo hi:Option Int}{n:Nat}{Q:Int × Int × Nat->Shared->Prop} (hs:s.heap.IsSliceOf sl vl vu .none) (pl:IsPart vl lo) (pu:IsPart vu hi)
 (h:Q (((sIx n 0 lo:Nat):Int),1,sIx n n hi-sIx n 0 lo) s):wpAny (model prog w) A (Builtin.Slice.sliceApplied (.ref sl) (pure (n:Int))) Q E s:=by
 obtain⟨os,hos,hcs,hds⟩:=id hs
 unfold Builtin.Slice.sliceApplied Builtin.Slice.sliceFields
 refine wpAny_bind (wpAny_bind (wpAny_field hos hds (x:=vl) rfl (wpAny_bind (wpAny_field hos hds (x:=vu) rfl (wpAny_bind (wpAny_field hos hds (x:=.none) rfl (wpAny_pure ?_)))))))
 refine wpAny_bind (slicePart_none ?_)
 show wpAny _ _ (if ((1:Int)==0)=true then _ else _) _ _ s
 rw [if_neg (by decide)]
 refine wpAny_bind (N3 pl (wpAny_bind (N3 pu (wpAny_bind (wpAny_pure ?_)))))
 show wpAny _ _ (match Builtin.Slice.sliceAdjust lo hi 1 (n:Int) with | (lo,hi)=>pure (lo,(1:Int),Builtin.Slice.slicePlaces lo hi 1)) _ _ s
 rw [Zh lo hi n]
 show wpAny _ _ (pure (((sIx n 0 lo:Nat):Int),(1:Int),Builtin.Slice.slicePlaces ((sIx n 0 lo:Nat):Int) ((sIx n n hi:Nat):Int) 1)) _ _ s
 rw [X1]
 exact wpAny_pure h
theorem p8 (xs:Array Value) (i k:Nat):((List.range k).filterMap fun (m:Nat)=>xs[((i:Int)+(m:Int)*1).toNat]?).toArray=((xs.toList.drop i).take k).toArray:=by
 have e:(fun (m:Nat)=>xs[((i:Int)+(m:Int)*1).toNat]?)=fun m=>xs[i+m]?:=by
  funext m
  have:((i:Int)+(m:Int)*1).toNat=i+m:=by omega
  rw [this]
 rw [e]
 have:=pick_run xs i k
 rw [List.filterMap_map] at this
 have e2:((fun x=>xs[x]?) ∘ fun x=>i+x)=fun m=>xs[i+m]?:=rfl
 rw [e2] at this
 rw [this]
theorem getItem_tuple_cut {t sl:Addr}{items:Array Value}{vl vu:Value}{lo hi:Option Int}{Q:Value->Shared->Prop} (ht:IsTup s.heap t items) (hs:s.heap.IsSliceOf sl vl vu .none) (pl:IsPart vl lo) (pu:IsPart vu hi)
 (hw:¬(sIx items.size 0 lo=0/\sIx items.size items.size hi=items.size))
 (h:Q (.ref s.heap.objs.size) { s with heap:=s.heap.push { cls:=.type "tuple",data:=.seq ((items.toList.drop (sIx items.size 0 lo)).take (sIx items.size items.size hi-sIx items.size 0 lo)).toArray } })
 (hsz:items.size<=sizeLine):wpAny (model prog w) A (getItem (.ref t) (.ref sl)) Q E s:=by
 have htake:sizeOk (.seq ((items.toList.drop (sIx items.size 0 lo)).take (sIx items.size items.size hi-sIx items.size 0 lo)).toArray):=by
  show ((items.toList.drop (sIx items.size 0 lo)).take (sIx items.size items.size hi-sIx items.size 0 lo)).toArray.size<=sizeLine
  rw [List.size_toArray,List.length_take,List.length_drop,Array.length_toList]
  omega
 have hj:sIx items.size items.size hi<=items.size:=Ai1 _ _ (Nat.le_refl _) hi
 obtain⟨os,hos,hcs,hds⟩:=id hs
 have hTs:s.TypeIs (.ref sl) "slice":=⟨os,hos,hcs⟩
 unfold getItem
 try with_reducible refine wpAny_holding ?_
 first | refine wpAny_bind (wpAny_pure ?_) | skip
 refine wpAny_bind (wpAny_sequenceKey ht.typeIs (by decide) ?_)
 refine wpAny_bind (wpAny_callSpecial?_slot (name:=Str.ofString "__getitem__") ht.typeIs PyProof.Rows.slot_tuple_getitem
  (wpAny_call_entry PyProof.Rows.slot_tuple_getitem ht.typeIs entry_tuple_getitem ?_ (args_tuple_getitem _ _)))
 show wpAny _ _ (Builtin.Tuple.tupleItemsOf (.ref t)>>=_) _ _ s
 refine wpAny_bind (tupleItemsOf_ ht ?_)
 refine wpAny_bind (wpAny_typeOf hTs ?_)
 rw [if_pos (by decide)]
 refine wpAny_bind (Fn hs pl pu ?_)
 have hno:¬((((sIx items.size 0 lo:Nat):Int)==0&&(1:Int)==1&&(sIx items.size items.size hi-sIx items.size 0 lo)==items.size)=true):=by
  intro q
  rw [Bool.and_eq_true,Bool.and_eq_true] at q
  have q1:((sIx items.size 0 lo:Nat):Int)=0:=eq_of_beq q.1.1
  have q2:sIx items.size items.size hi-sIx items.size 0 lo=items.size:=eq_of_beq q.2
  exact hw ⟨by omega,by omega⟩
 show wpAny _ _ (if (((sIx items.size 0 lo:Nat):Int)==0&&(1:Int)==1&&(sIx items.size items.size hi-sIx items.size 0 lo)==items.size)=true then _ else _) _ _ s
 rw [if_neg hno,p8]
 first
  | exact wpAny_bind (m:=Builtin.Tuple.tupleExact _) (wpAny_newObj_type (wpAny_pure ⟨_,rfl,wpAny_pure h⟩) htake)
  | exact wpAny_bind (m:=Builtin.Tuple.tupleExact _) (wpAny_newObj_type (wpAny_bind (wpAny_pure (wpAny_pure ⟨_,rfl,wpAny_pure h⟩))) htake)
  | exact wpAny_bind (wpAny_bind (m:=Builtin.Tuple.tupleExact _) (wpAny_newObj_type (wpAny_pure (wpAny_pure ⟨_,rfl,wpAny_pure h⟩)) htake))
  | exact wpAny_bind (wpAny_bind (m:=Builtin.Tuple.tupleExact _) (wpAny_newObj_type (wpAny_pure ⟨_,rfl,wpAny_pure h⟩) htake))
end
end HT
namespace L2
open PySem PySem.Spec PyProof.Rows
abbrev TO:=St->Hp->(Option Int->Hp->Prop)->Prop
def PO (X:Cx) (e:Option Expr) (t:TO):Prop :=
 ∀ (Aa:List (Addr × Obj)) (s:Shared) (σ:St) (H:Hp) (Q:Option Int->Hp->Prop),Inv X Aa σ H s->t σ H Q →
   wpAny (model X.prog X.w) X.A (evalPart e X.env) (fun u s'=>∃ o H',Inv X Aa σ H' s'/\IsPart u o/\Q o H') X.xe s
def Aa7:TO:=fun _ H Q=>Q none H
def Am9 (t:TE):TO:=fun σ H Q=>t σ H fun x H1=>∃ i,x=.int i/\Q (some i) H1
section
variable {X:Cx}{e:Expr}{te:TE}{lo hi:Option Expr}{tl th:TO}{pos p2:Pos}
theorem Bm:PO X none Aa7:=by
 intro Aa s σ H Q I h
 rw [evalPart_none]
 exact wpAny_pure ⟨none,H,I,.none,h⟩
theorem Bg (h:PE X e te):PO X (some e) (Am9 te):=by
 intro Aa s σ H Q I hw
 rw [evalPart_some]
 refine thn (h Aa s σ H _ I hw) fun u s1 ⟨x,H1,I1,r1,q1⟩=>?_
 obtain⟨i,rfl,q⟩:=q1
 obtain⟨t,rfl⟩:=r1
 exact ⟨some i,H1,I1,.int i t,q⟩
def SlR (X:Cx) (r:V->Option Int->Option Int->Hp->VK->Prop):Prop :=
 ∀ (Aa:List (Addr × Obj)) (s:Shared) (σ:St) (H:Hp) (x:V) (v vl vu:Value) (lo hi:Option Int) (sl:Addr) (Q:VK),Inv X Aa σ H s->RelV x v->s.heap.IsSliceOf sl vl vu .none->IsPart vl lo->IsPart vu hi->r x lo hi H Q →
   ∃ T id,typeLookup (.type T) "__getitem__"=pure (some (.builtin id))/\s.TypeIs v T/\wpAny (model X.prog X.w) X.A (getItem v (.ref sl)) (EP X Aa σ Q) X.xe s
def tSl (r:V->Option Int->Option Int->Hp->VK->Prop) (te:TE) (tl th:TO):TE:=fun σ H Q=>te σ H fun x H1=>tl σ H1 fun l H2=>th σ H2 fun u H3=>r x l u H3 Q
theorem A9 {r:V->Option Int->Option Int->Hp->VK->Prop} (hr:SlR X r) (he:PE X e te) (hl:PO X lo tl) (hu:PO X hi th):PE X (.Subscript e (.Slice lo hi none p2) pos) (tSl r te tl th):=by
 intro Aa s σ H Q I h
 refine Subscript_ (thn (he Aa s σ H _ I h) fun v s1 ⟨x,H1,I1,r1,q1⟩=>?_)
 refine wpAny_Slice (thn (hl Aa s1 σ H1 _ I1 q1) fun vl s2 ⟨l,H2,I2,pl,q2⟩=>thn (hu Aa s2 σ H2 _ I2 q2) fun vu s3 ⟨u,H3,I3,pu,q3⟩=>?_)
 rw [evalPart_none]
 refine wpAny_pure ?_
 have I4:Inv X Aa σ H3 { s3 with heap:=s3.heap.push { cls:=.type "slice",data:=.fields #[vl,vu,.none] } }:=I3.kept (t':=s3.toks) fun b ob q=>Heap.get?_push_of_some _ q
 obtain⟨T,id,hT,ht,hg⟩:=hr Aa { s3 with heap:=s3.heap.push { cls:=.type "slice",data:=.fields #[vl,vu,.none] } } σ H3 x v vl vu l u s3.heap.objs.size Q I4 r1 (Heap.IsSliceOf.new ..) pl pu q3
 show wpAny (model X.prog X.w) X.A (subscriptTail e (.Slice lo hi none p2) v (.ref s3.heap.objs.size)) (EP X Aa σ Q) X.xe { s3 with heap:=s3.heap.push { cls:=.type "slice",data:=.fields #[vl,vu,.none] } }
 exact tail_any (ops:=[.ref s3.heap.objs.size,v]) ht hT hg (by with_unfolding_all rfl)
def cutV (xs:List V) (lo hi:Option Int):List V:=(xs.drop (HT.sIx xs.length 0 lo)).take (HT.sIx xs.length xs.length hi-HT.sIx xs.length 0 lo)
theorem Ml (xs:List V) (lo hi:Option Int):(cutV xs lo hi).length<=xs.length:=by
 unfold cutV
 rw [List.length_take,List.length_drop]
 omega
def rSlT (K:W.Frag):V->Option Int->Option Int->Hp->VK->Prop:=fun x lo hi H Q=>∃ a xs,x=.ref a/\SqT K H a xs ∧
 ¬(HT.sIx xs.length 0 lo=0/\HT.sIx xs.length xs.length hi=xs.length)/\∀ p,H p=none->Q (.ref p) (upd H p (.tup (cutV xs lo hi)))
theorem w9:SlR X (rSlT X.K):=by
 intro Aa s σ H x v vl vu lo hi sl Q I rx hs pl pu h
 obtain⟨a,xs,rfl,hx,hw,q⟩:=h
 cases rx
 obtain⟨its,r,ht,hz⟩:=I.tuple hx
 have hlen:its.toArray.size=xs.length:=by rw [List.size_toArray];exact r.length.symm
 refine⟨"tuple",_,PyProof.Rows.slot_tuple_getitem.lookup,ht.typeIs,?_⟩
 refine HT.getItem_tuple_cut ht hs pl pu (by rw [hlen];exact hw) ?_ (by rw [hlen];exact hz)
 rw [hlen]
 refine⟨.ref s.heap.objs.size,_,I.laid (t':=s.toks) (o:=.tup (cutV xs lo hi)) (fun b ob q=>Heap.get?_push_of_some _ q) (Nat.le_refl _) ?_,rfl,q _ (I.hok.fresh (Nat.le_refl _))⟩
 exact ⟨Nat.le_trans (Ml xs lo hi) hz,_,(r.drop (HT.sIx xs.length 0 lo)).take (HT.sIx xs.length xs.length hi-HT.sIx xs.length 0 lo),G9.new _ _⟩
def Ao0 (K:W.Frag):R2:=fun x y H Q=>∃ a b xs ys,x=.ref a/\y=.ref b/\SqT K H a xs/\SqT K H b ys/\xs≠[]/\xs.length+ys.length<=sizeLine ∧
 (ys=[]->Q (.ref a) H)/\(ys≠[]->∀ p,H p=none->Q (.ref p) (upd H p (.tup (xs++ys))))
theorem Vals.nil_iff {xs:List V}{us:List Value} (r:Vals xs us):us=[]↔xs=[]:=by
 cases r with
 | nil=>simp
 | cons _ _=>simp
theorem Ad6:OpR X (binaryOp .Add) (Ao0 X.K):=by
 intro Aa s σ H x y v u Q I rx ry h
 obtain⟨a,b,xs,ys,rfl,rfl,ha,hb,hx,hz,q1,q2⟩:=h
 cases rx
 cases ry
 obtain⟨its,r1,p1,_⟩:=I.tuple ha
 obtain⟨its2,r2,p2,_⟩:=I.tuple hb
 refine HT.cat_tup p1 p2 (fun z=>hx (r1.nil_iff.mp z)) (fun z=>⟨.ref a,H,I,rfl,q1 (r2.nil_iff.mp z)⟩) (fun z=>?_) (by rw [←r1.length,←r2.length];exact hz)
 refine⟨.ref s.heap.objs.size,_,I.laid (t':=s.toks) (o:=.tup (xs++ys)) (fun b ob q=>Heap.get?_push_of_some _ q) (Nat.le_refl _) ?_,rfl,q2 (fun w=>z (r2.nil_iff.mpr w)) _ (I.hok.fresh (Nat.le_refl _))⟩
 exact ⟨by rw [List.length_append];exact hz,_,r1.append r2,G9.new _ _⟩
end
end L2
namespace L2
open PySem PySem.Spec PyProof.Rows
def ixN (n:Nat) (i:Int):Option Nat:=if 0<=i then (if i<n then some i.toNat else none) else if -(n:Int)<=i then some (i+n).toNat else none
def atI {α:Type} (xs:List α) (i:Int):Option α:=(ixN xs.length i).bind fun j=>xs[j]?
theorem d9 {n:Nat}{i:Int}{j:Nat} (h:ixN n i=some j):seqIndex? i n=some j/\j<n/\-(n:Int)<=i/\i<n:=by
 unfold ixN at h
 by_cases h0:0<=i
 . rw [if_pos h0] at h
   by_cases h1:i<n
   . rw [if_pos h1] at h
     have e:i.toNat=j:=Option.some.inj h
     exact ⟨by rw [seqIndex_of h0 h1,e],by omega,by omega,h1⟩
   . rw [if_neg h1] at h;cases h
 . rw [if_neg h0] at h
   by_cases h1:-(n:Int)<=i
   . rw [if_pos h1] at h
     have e:(i+n).toNat=j:=Option.some.inj h
     exact ⟨by rw [seqIndex_neg (by omega) h1,e],by omega,h1,by omega⟩
   . rw [if_neg h1] at h;cases h
theorem Wm {α:Type}{xs:List α}{i:Int}{v:α} (h:atI xs i=some v):∃ j,seqIndex? i xs.length=some j/\xs[j]?=some v/\j<xs.length/\-(xs.length:Int)<=i/\i<xs.length:=by
 unfold atI at h
 cases e:ixN xs.length i with
 | none=>rw [e] at h;cases h
 | some j =>
   rw [e] at h
   obtain⟨h1,h2,h3,h4⟩:=d9 e
   exact ⟨j,h1,h,h2,h3,h4⟩
theorem Cb {α:Type}{xs:List α}{j:Nat}{v:α} (h:xs[j]?=some v):atI xs (j:Int)=some v:=by
 have hj:j<xs.length:=(List.getElem?_eq_some_iff.mp h).1
 have e:ixN xs.length (j:Int)=some j:=by
  unfold ixN
  rw [if_pos (by omega),if_pos (by omega)];simp
 unfold atI;rw [e];exact h
def l5 (b:Expr):Prop:=∀ o i,subscripted b false o i=operate [o,i] (getItem o i)
def IxR (X:Cx) (r:R2):Prop :=
 ∀ (value slice:Expr) (Aa:List (Addr × Obj)) (s:Shared) (σ:St) (H:Hp) (x y:V) (v u:Value) (Q:VK),Inv X Aa σ H s->RelV x v->RelV y u->r x y H Q →
   subscripted slice false v u=operate [v,u] (getItem v u)->wpAny (model X.prog X.w) X.A (subscriptTail value slice v u) (EP X Aa σ Q) X.xe s
def MtR (X:Cx) (id:String) (r:V->List V->Hp->VK->Prop):Prop :=
 ∀ (Aa:List (Addr × Obj)) (s:Shared) (σ:St) (H:Hp) (x:V) (xs:List V) (v:Value) (us:List Value) (Q:VK),Inv X Aa σ H s->RelV x v->Vals xs us->r x xs H Q →
   wpAny (model X.prog X.w) X.A (call (.builtin id) (v::us)) (EP X Aa σ Q) X.xe s
section
variable {X:Cx}{a b:Expr}{ta tb:TE}{pos:Pos}
theorem Ce {r:R2} (hr:IxR X r) (ha:PE X a ta) (hb:PE X b tb) (hs:l5 b):PE X (.Subscript a b pos) (tOp r ta tb):=by
 intro Aa s σ H Q I h
 exact Subscript_ (binT ha hb I h fun v u s2 x y H2 I2 rx ry q=>hr a b Aa s2 σ H2 x y v u Q I2 rx ry q (hs _ _))
def rIxL (K:W.Frag):R2:=fun x y H Q=>∃ p xs i v,x=.ref p/\y=.int i/\SqL K H p xs/\atI xs i=some v/\Q v H
def rIxT (K:W.Frag):R2:=fun x y H Q=>∃ p xs i v,x=.ref p/\y=.int i/\SqT K H p xs/\atI xs i=some v/\Q v H
def rIxS:R2:=fun x y H Q=>∃ z i c,x=.str z/\y=.int i/\z.length<=sizeLine/\atI z.cps.toList i=some c/\Q (.str ⟨#[c]⟩) H
theorem Ae9:IxR X (rIxL X.K):=by
 intro value slice Aa s σ H x y v u Q I rx ry h hs
 obtain⟨p,xs,i,z,rfl,rfl,hq,he,q⟩:=h
 cases rx
 obtain⟨t,rfl⟩:=ry
 obtain⟨its,r,pl,hz⟩:=I.list hq
 obtain⟨j,h1,h2,h3,h4,h5⟩:=Wm he
 obtain⟨w,ew,rw'⟩:=r.get h2
 have hl:=r.length
 have hn:=N9
 have fin:EP X Aa σ Q w s:=⟨z,H,I,rw',q⟩
 by_cases h0:0<=i
 . have hj:i.toNat=j:=by
    rw [seqIndex_of h0 h5] at h1
    exact Option.some.inj h1
   exact item_listR pl.isList h0 (by omega) (by rw [hj];simpa using ew) fin hs
 . have hj:(i+(its.toArray.size:Int)).toNat=j:=by
    rw [seqIndex_neg (by omega) h4] at h1
    rw [List.size_toArray,←hl]
    exact Option.some.inj h1
   exact subscriptTail_builtinR (x:=w) pl.isList.typeIs slot_list_getitem.lookup
    (wpAny_getItem_list_neg (Q:=fun r s'=>r=w/\EP X Aa σ Q r s') pl.isList (by omega) (by rw [List.size_toArray]<;>omega) (by omega) (by rw [hj];simpa using ew) ⟨rfl,fin⟩) hs
theorem Al4:IxR X (rIxT X.K):=by
 intro value slice Aa s σ H x y v u Q I rx ry h hs
 obtain⟨p,xs,i,z,rfl,rfl,hq,he,q⟩:=h
 cases rx
 obtain⟨t,rfl⟩:=ry
 obtain⟨its,r,pl,hz⟩:=I.tuple hq
 obtain⟨j,h1,h2,h3,h4,h5⟩:=Wm he
 obtain⟨w,ew,rw'⟩:=r.get h2
 have hl:=r.length
 have hn:=N9
 have fin:EP X Aa σ Q w s:=⟨z,H,I,rw',q⟩
 exact subscriptTail_builtinR (x:=w) pl.typeIs slot_tuple_getitem.lookup
  (getItem_tuple (j:=j) (Q:=fun r s'=>r=w/\EP X Aa σ Q r s') pl (by omega) (by omega) (by rw [List.size_toArray,←hl];exact h1) (by simpa using ew) ⟨rfl,fin⟩) hs
theorem y8:IxR X rIxS:=by
 intro value slice Aa s σ H x y v u Q I rx ry h hs
 obtain⟨z,i,c,rfl,rfl,hz,he,q⟩:=h
 obtain⟨t,rfl⟩:=rx
 obtain⟨t',rfl⟩:=ry
 obtain⟨j,h1,h2,h3,h4,h5⟩:=Wm he
 have hl:z.cps.toList.length=z.length:=by simp [Str.length]
 rw [hl] at h1 h4 h5
 have hn:=N9
 exact tail_any (typeIs_str s z t) slot_str_getitem.lookup (getItem_str (c:=c) (by
  have e1:decide (i < -(2 ^ 63:Int))=false:=decide_eq_false (by omega)
  have e2:decide (i ≥ 2 ^ 63)=false:=decide_eq_false (by omega)
  rw [e1,e2,Bool.or_false]) (by rw [h1];simpa using h2) ⟨.str ⟨#[c]⟩,H,I.tok _,⟨_,rfl⟩,q⟩) hs
theorem Yi (its:List Value) (n j:Nat) (u:Value):Obj.mapSeq (·.setIfInBounds j u) { cls:=.type "list",data:=.seq its.toArray n }={ cls:=.type "list",data:=.seq (its.set j u).toArray n }:=by
 simp [Obj.mapSeq]
theorem Inv.lst {Aa:List (Addr × Obj)}{σ:St}{H:Hp}{s:Shared}{p:Addr}{xs:List V} (I:Inv X Aa σ H s) (h:H p=some (.lst xs)) :
 ∃ (its:List Value) (n:Nat),Vals xs its/\s.heap.get? p=some { cls:=.type "list",data:=.seq its.toArray n }/\xs.length<=sizeLine:=by
 obtain⟨z,its,n,r,e⟩:=I.hok p _ h
 exact ⟨its,n,r,e,z⟩
theorem Inv.lstUpd {Aa:List (Addr × Obj)}{σ:St}{H:Hp}{s:Shared}{p:Addr}{xs ys:List V}{its its':List Value}{n n':Nat}{f:Obj->Obj} (I:Inv X Aa σ H s) (h:H p=some (.lst xs))
 (ho:s.heap.get? p=some { cls:=.type "list",data:=.seq its.toArray n }) (hf:f { cls:=.type "list",data:=.seq its.toArray n }={ cls:=.type "list",data:=.seq its'.toArray n' }) (r:Vals ys its') (hz:ys.length<=sizeLine) (t:Nat) :
 Inv X Aa σ (upd H p (.lst ys)) { s with heap:=s.heap.update p f,toks:=t }:=by
 have e:(s.heap.update p f).get? p=some { cls:=.type "list",data:=.seq its'.toArray n' }:=by
  rw [Heap.get?_update_self f ho (by rw [hf]<;>rfl),hf]
 refine I.write (x:=p) (e:=p) (by rw [h];trivial) (.inl rfl) (fun b u hb q=>(Heap.get?_update_other _ _ (Ne.symm hb)).trans q) ⟨_,e⟩ ?_
 exact ⟨hz,its',n',r,e⟩
def An8:V->V->V->Hp->(Hp->Prop)->Prop:=fun o i v H Q=>∃ p xs k j,o=.ref p/\i=.int k/\H p=some (.lst xs)/\ixN xs.length k=some j/\Q (upd H p (.lst (xs.set j v)))
theorem o0:PSet X An8:=by
 intro Aa s σ H o i v ov iv u Q I ro ri rv h
 obtain⟨p,xs,k,j,rfl,rfl,hp,hj,q⟩:=h
 cases ro
 obtain⟨t,rfl⟩:=ri
 obtain⟨its,n,r,ho,hz⟩:=I.lst hp
 obtain⟨h1,h2,h3,h4⟩:=d9 hj
 have hl:=r.length
 have hn:=N9
 have I':Inv X Aa σ (upd H p (.lst (xs.set j v))) { s with heap:=s.heap.update p (Obj.mapSeq (·.setIfInBounds j u)) } :=
  I.lstUpd hp ho (Yi its n j u) (r.set rv j) (by rw [List.length_set];exact hz) s.toks
 by_cases h0:0<=k
 . have hk:k.toNat=j:=by
    rw [seqIndex_of h0 h4] at h1
    exact Option.some.inj h1
   exact PySem.W.ki_setAt ho h0 (by omega) (by rw [List.size_toArray,←hl];exact h4) (by rw [hk];exact ⟨_,I',q⟩)
 . have hk:(k+(its.toArray.size:Int)).toNat=j:=by
    rw [seqIndex_neg (by omega) h3] at h1
    rw [List.size_toArray,←hl]
    exact Option.some.inj h1
   exact PySem.W.ki_setBack ho (by omega) (by rw [List.size_toArray,←hl];exact h3) (by omega) (by rw [hk];exact ⟨_,I',q⟩)
theorem Qr (lo hi:Option Int) (n:Nat):(sliceBounds lo hi none n).1=((HT.sIx n 0 lo:Nat):Int)/\(sliceBounds lo hi none n).2.1=((HT.sIx n n hi:Nat):Int)/\(sliceBounds lo hi none n).2.2=1:=by
 refine⟨?_,?_,rfl⟩
 . cases lo with
   | none=>simp [sliceBounds,HT.sIx]
   | some i =>
     simp only [sliceBounds,HT.sIx,Option.getD_none,show (1:Int) > 0 by decide,if_true]
     by_cases h:i<0
     . simp only [h,if_true]<;>omega
     . simp only [h,if_false]<;>omega
 . cases hi with
   | none=>simp [sliceBounds,HT.sIx]
   | some i =>
     simp only [sliceBounds,HT.sIx,Option.getD_none,show (1:Int) > 0 by decide,if_true]
     by_cases h:i<0
     . simp only [h,if_true]<;>omega
     . simp only [h,if_false]<;>omega
theorem O7 (its:List Value) (lo hi:Option Int):slicePick its.toArray lo hi none=((its.drop (HT.sIx its.length 0 lo)).take (HT.sIx its.length its.length hi-HT.sIx its.length 0 lo)).toArray:=by
 obtain⟨h1,h2,h3⟩:=Qr lo hi its.toArray.size
 unfold slicePick
 rw [h1,h2,h3]
 simp only [sliceRange_one,pick_run,List.size_toArray]<;>rfl
def rSlL (K:W.Frag):V->Option Int->Option Int->Hp->VK->Prop:=fun x lo hi H Q=>∃ a xs,x=.ref a/\SqL K H a xs/\∀ p,H p=none->Q (.ref p) (upd H p (.lst (cutV xs lo hi)))
theorem Ab3:SlR X (rSlL X.K):=by
 intro Aa s σ H x v vl vu lo hi sl Q I rx hs pl pu h
 obtain⟨a,xs,rfl,hx,q⟩:=h
 cases rx
 obtain⟨its,r,ht,hz⟩:=I.list hx
 have hlen:=r.length
 refine⟨"list",_,slot_list_getitem.lookup,ht.isList.typeIs,?_⟩
 refine wpAny_getItem_list_slice ht.isList hs pl pu .none (by simp) ?_ (by rw [List.size_toArray]<;>omega)
 rw [O7,←hlen]
 refine⟨.ref s.heap.objs.size,_,I.laid (t':=s.toks) (o:=.lst (cutV xs lo hi)) (fun b ob q=>Heap.get?_push_of_some _ q) (Nat.le_refl _) ?_,rfl,q _ (I.hok.fresh (Nat.le_refl _))⟩
 exact ⟨Nat.le_trans (Ml xs lo hi) hz,_,0,(r.drop (HT.sIx xs.length 0 lo)).take (HT.sIx xs.length xs.length hi-HT.sIx xs.length 0 lo),Heap.get?_push_size _ rfl⟩
theorem T1:D9 X (.builtin "len") (fun xs H Q=>∃ p ys,xs=[.ref p]/\(SqL X.K H p ys\/SqT X.K H p ys)/\Q (.int ys.length) H):=by
 intro Aa s σ H xs us Q I r h
 obtain⟨p,ys,rfl,hq,q⟩:=h
 obtain⟨u,rfl,rx⟩:=Uq r
 cases rx
 have hn:=N9
 rcases hq with hq | hq
 . obtain⟨its,r',pl,hz⟩:=I.list hq
   have hlen:=r'.length
   exact Calls.call_len_list pl.isList (by simp only [List.size_toArray]<;>omega) ⟨.int ys.length,H,I.tok _,⟨s.toks+1,by rw [List.size_toArray,hlen]⟩,q⟩
 . obtain⟨its,r',pl,hz⟩:=I.tuple hq
   have hlen:=r'.length
   exact len_tuple pl (by simp only [List.size_toArray]<;>omega) ⟨.int ys.length,H,I.tok _,⟨s.toks+1,by rw [List.size_toArray,hlen]⟩,q⟩
theorem Cs:D9 X (.builtin "len") (fun xs H Q=>∃ z,xs=[.str z]/\z.length<=sizeLine/\Q (.int z.length) H):=by
 intro Aa s σ H xs us Q I r h
 obtain⟨z,rfl,hz,q⟩:=h
 obtain⟨u,rfl,t,rfl⟩:=Uq r
 have hn:=N9
 exact len_str (by omega) ⟨.int z.length,H,I.tok _,⟨_,rfl⟩,q⟩
theorem T0:D9 X (.type "list") (fun xs H Q=>∃ p ys,xs=[.ref p]/\(SqL X.K H p ys\/SqT X.K H p ys)/\∀ l,H l=none->Q (.ref l) (upd H l (.lst ys))):=by
 intro Aa s σ H xs us Q I r h
 obtain⟨p,ys,rfl,hq,q⟩:=h
 obtain⟨u,rfl,rx⟩:=Uq r
 cases rx
 have fin:∀ (its:List Value),Vals ys its->ys.length<=sizeLine->∀ (h':Heap) (c':Nat),(∀ b o',s.heap.get? b=some o'->h'.get? b=some o') →
  h'.get? s.heap.objs.size=some { cls:=.type "list",dict:=none,data:=.seq its.toArray c',slots:=#[] }->EP X Aa σ Q (.ref s.heap.objs.size) { s with heap:=h' }:=fun its r' hz h' c' kp e =>
  ⟨.ref s.heap.objs.size,_,I.laid (t':=s.toks) kp (Nat.le_refl _) (show ObjOk X.prog X.w _ h' _ (.lst ys) from ⟨hz,its,c',r',e⟩),rfl,q _ (I.hok.fresh (Nat.le_refl _))⟩
 rcases hq with hq | hq
 . obtain⟨its,r',pl,hz⟩:=I.list hq
   have hlen:=r'.length
   obtain⟨o,ho,hc,n,hd⟩:=pl.isList
   exact call_list_seq p (.inl rfl) ho hc hd (fun h' c' kp e=>fin its r' hz h' c' kp e) (by simp only [List.size_toArray]<;>omega)
 . obtain⟨its,r',pl,hz⟩:=I.tuple hq
   have hlen:=r'.length
   obtain⟨o,ho,hc,n,hd⟩:=pl
   exact call_list_seq p (.inr rfl) ho hc hd (fun h' c' kp e=>fin its r' hz h' c' kp e) (by simp only [List.size_toArray]<;>omega)
theorem Qf:D9 X (.type "tuple") (fun xs H Q=>∃ p ys,xs=[.ref p]/\((SqL X.K H p ys/\∀ l,H l=none->Q (.ref l) (upd H l (.tup ys)))\/(SqT X.K H p ys/\Q (.ref p) H))):=by
 intro Aa s σ H xs us Q I r h
 obtain⟨p,ys,rfl,h⟩:=h
 obtain⟨u,rfl,rx⟩:=Uq r
 cases rx
 rcases h with ⟨hq,q⟩|⟨hq,q⟩
 . obtain⟨its,r',pl,hz⟩:=I.list hq
   have hlen:=r'.length
   refine call_tuple_list pl.isList (fun h' kp=>?_) (by simp only [List.size_toArray]<;>omega)
   have I1:Inv X Aa σ H { s with heap:=h' }:=I.kept (t':=s.toks) kp
   have I2:Inv X Aa σ (upd H h'.objs.size (.tup ys)) { s with heap:=h'.push { cls:=.type "tuple",data:=.seq its.toArray } } :=
    I1.laid (t':=s.toks) (fun b o e=>Heap.get?_push_of_some _ e) (Nat.le_refl _) (show ObjOk X.prog X.w _ _ _ (.tup ys) from ⟨hz,its,r',G9.new _ _⟩)
   exact ⟨.ref h'.objs.size,_,I2,rfl,q _ (I1.hok.fresh (Nat.le_refl _))⟩
 . obtain⟨its,r',pl,hz⟩:=I.tuple hq
   exact call_tuple_same pl ⟨.ref p,H,I,rfl,q⟩
def tyV (K:W.Frag) (T:String) (x:V) (H:Hp):Prop:=match x with
 | .str _=>T="str"
 | .int _=>T="int"
 | .ref p=>(T="list"/\∃ xs,SqL K H p xs)\/(T="tuple"/\∃ o,K.lookup p=some o/\o.cls=.type "tuple"/\o.dict=none) ∨
    (T="dict"/\((∃ A0,H p=some (.dK A0))\/∃ A0,H p=some (.dT A0)))\/(T="set"/\∃ S n,H p=some (.set S n))
 | _=>False
theorem Ah1 {Aa:List (Addr × Obj)}{σ:St}{H:Hp}{s:Shared}{T:String}{x:V}{v:Value} (I:Inv X Aa σ H s) (r:RelV x v) (ty:tyV X.K T x H) :
 s.TypeIs v T/\∀ a,v=.ref a->∃ ob,s.heap.get? a=some ob/\ob.dict=none:=by
 cases x with
 | str z =>
   obtain⟨t,rfl⟩:=r
   cases (show T="str" from ty)
   exact ⟨typeIs_str s z t,fun _ e=>nomatch e⟩
 | int i =>
   obtain⟨t,rfl⟩:=r
   cases (show T="int" from ty)
   exact ⟨typeIs_int s i t,fun _ e=>nomatch e⟩
 | ref p =>
   cases r
   rcases ty with ⟨rfl,xs,hq⟩|⟨rfl,o,hk,hc,hd⟩|⟨rfl,hk⟩|⟨rfl,S,n,hk⟩
   . obtain⟨its,_,pl,_⟩:=I.list hq
     refine⟨pl.isList.typeIs,fun a e=>?_⟩
     cases e
     obtain⟨o,n,e,c,hd,_⟩:=pl
     exact ⟨o,e,hd⟩
   . refine⟨⟨o,I.kIn p o hk,hc⟩,fun a e=>?_⟩
     cases e
     exact ⟨o,I.kIn _ o hk,hd⟩
   . have z:∃ o,s.heap.get? p=some o/\o.ExactDict:=by
      rcases hk with ⟨A0,hk⟩|⟨A0,hk⟩
      . obtain⟨_,_,_,_,o,_,_,e,ex,_⟩:=I.hok p _ hk
        exact ⟨o,e,ex⟩
      . obtain⟨_,_,_,_,o,_,_,e,ex,_⟩:=I.hok p _ hk
        exact ⟨o,e,ex⟩
     obtain⟨o,e,ex⟩:=z
     refine⟨⟨o,e,ex.1⟩,fun a e2=>?_⟩
     cases e2
     exact ⟨o,e,ex.2.1⟩
   . obtain⟨o,_,_,_,e,ex,_⟩:=I.hok p _ hk
     refine⟨⟨o,e,ex.1⟩,fun a e2=>?_⟩
     cases e2
     exact ⟨o,e,ex.2.1⟩
 | _=>exact False.elim ty
def tBM (K:W.Frag) (T:String) (r:V->List V->Hp->VK->Prop) (to:TE) (t:TA):TE:=fun σ H Q=>to σ H fun x H1=>tyV K T x H1/\t σ H1 fun xs H2=>r x xs H2 Q
variable {o e:Expr}{es:List Expr}{to:TE}{t:TA}{name:Str}{apos cpos:Pos}{T id:String}{r:V->List V->Hp->VK->Prop}
theorem Ao2 (pa:PlainAttrs T) (slot:Slot T name id) (hty:typeOf (.builtin id)=pure (.type "method_descriptor")) (hm:MtR X id r) (ho:PE X o to) (ha:PA X (e::es) t)
 (hbase:attributeBase o name X.env (eval o X.env)=eval o X.env:=by rfl)
 (hfew:((backTo cpos (starEach (e::es) X.env)).all (fun x=>!x.1)&&(backToKw cpos (keywordEach [] X.env)).all (fun x=>x.1.isSome)
   && decide ((e::es).length+([]:List Keyword).length+(if ([]:List Keyword).isEmpty then 0 else 1)<30))=true:=by rfl)
 (hline:(apos.endLine==cpos.line)=true:=by rfl) (hs:starEach (e::es) X.env=(false,eval e X.env)::starEach es X.env:=by rfl) (hplain:(backTo cpos (starEach es X.env)).any (·.1)=false:=by rfl) :
 PE X (.Call (.Attribute o name apos) (e::es) [] cpos) (tBM X.K T r to t):=by
 intro Aa s σ H Q I h
 refine wpAny_Call_method_late hbase hfew hline rfl (thn (ho Aa s σ H _ I h) fun v s1 ⟨x,H1,I1,r1,ty,q1⟩=>?_)
 obtain⟨h1,h2⟩:=Ah1 I1 r1 ty
 refine⟨T,id,pa,slot,hty,h1,h2,?_⟩
 have hA:=ha cpos Aa s1 σ H1 _ I1 q1
 rw [hs] at hA ⊢
 refine Calls.callWith_builtin (by show (false || (backTo cpos (starEach es X.env)).any (·.1))=false;rw [hplain]<;>rfl) (Calls.evalArgs_plain ?_)
 exact thn hA fun us s2 ⟨vs,H2,I2,r2,q2⟩=>hm Aa s2 σ H2 x vs v us Q I2 r1 r2 q2
end
end L2
namespace L2
open PySem PySem.Spec PyProof.Rows
def MtM (X:Cx) (id:String) (r:V->List V->Hp->VK->Prop):Prop :=
 ∀ (Aa:List (Addr × Obj)) (s:Shared) (σ:St) (H:Hp) (x:V) (xs:List V) (v:Value) (us:List Value) (Q:VK),Inv X Aa σ H s->RelV x v->Vals xs us->r x xs H Q →
   wpAny (model X.prog X.w) X.A (call (.builtin id) (v::us)) (EP X Aa σ Q) X.xe s
theorem Vals.one:∀{x:V}{us:List Value},Vals [x] us->∃ u,us=[u]/\RelV x u
 | _,_,.cons r .nil=>⟨_,rfl,r⟩
theorem Vals.rep {xs:List V}{us:List Value} (h:Vals xs us):∀ k:Nat,Vals (List.replicate k xs).flatten (List.replicate k us).flatten
 | 0=>.nil
 | k+1=>by
   rw [List.replicate_succ,List.replicate_succ,List.flatten_cons,List.flatten_cons]
   exact Vals.append h (Vals.rep h k)
theorem Ta (its:List Value):∀ (k:Nat) (acc:List Value),
 List.foldl (fun x1 x2=>x1++x2) acc.toArray (List.replicate k its.toArray)=(acc++(List.replicate k its).flatten).toArray
 | 0,acc=>by simp
 | k+1,acc=>by
   have e:acc.toArray++its.toArray=(acc++its).toArray:=by simp
   have e2:(acc++its)++(List.replicate k its).flatten=acc++(List.replicate (k+1) its).flatten:=by
    rw [List.replicate_succ,List.flatten_cons,List.append_assoc]
   rw [←e2,←Ta its k (acc++its),←e,List.replicate_succ,List.foldl_cons]
section
variable {X:Cx}{Aa:List (Addr × Obj)}{σ:St}{H:Hp}{s:Shared}{l b:Addr}{xs ys zs:List V}
theorem Inv.lset {its its':List Value}{n:Nat}{f:Array Value->Array Value}{t':Nat} (I:Inv X Aa σ H s) (hH:H l=some (.lst xs))
 (e:s.heap.get? l=some { cls:=.type "list",data:=.seq its.toArray n }) (hf:f its.toArray=its'.toArray) (hv:Vals ys its') (hz:ys.length<=sizeLine) :
 Inv X Aa σ (upd H l (.lst ys)) { s with heap:=s.heap.update l (Obj.mapSeq f),toks:=t' }:=by
 have q:=PySem.IsL.update e f
 rw [hf] at q
 refine I.write (x:=l) (e:=l) (by rw [hH];exact trivial) (.inl rfl) (fun b' u hb hu=>(Heap.get?_update_other s.heap (Obj.mapSeq f) (Ne.symm hb)).trans hu) ⟨_,q⟩ ?_
 exact ⟨hz,its',_,hv,q⟩
theorem Inv.lnew {its:List Value}{t':Nat} (I:Inv X Aa σ H s) (hv:Vals ys its) (hz:ys.length<=sizeLine) :
 Inv X Aa σ (upd H s.heap.objs.size (.lst ys)) { s with heap:=s.heap.push { cls:=.type "list",data:=.seq its.toArray },toks:=t' } :=
 I.laid (fun _ _ q=>Heap.get?_push_of_some _ q) (Nat.le_refl _) ⟨hz,its,0,hv,Heap.get?_push_size _ rfl⟩
theorem Inv.fresh (I:Inv X Aa σ H s):H s.heap.objs.size=none:=I.hok.fresh (Nat.le_refl _)
theorem Inv.lstM (I:Inv X Aa σ H s) (hH:H l=some (.lst xs)):xs.length<=sizeLine/\∃ (its:List Value) (n:Nat),Vals xs its/\xs.length=its.length/\s.heap.get? l=some { cls:=.type "list",data:=.seq its.toArray n }:=by
 obtain⟨z,its,n,r,e⟩:=I.hok l _ hH
 exact ⟨z,its,n,r,r.length,e⟩
theorem t6 {n:Nat} (h:n<=sizeLine):Builtin.List.listTooLong n=false:=by
 unfold Builtin.List.listTooLong
 exact decide_eq_false (by omega)
end
section
variable {X:Cx}
def Ac1:V->List V->Hp->VK->Prop:=fun x vs H Q=>∃ l xs y,x=.ref l/\vs=[y]/\H l=some (.lst xs)/\xs.length<sizeLine/\Q .non (upd H l (.lst (xs++[y])))
theorem B9:MtM X "list.append" Ac1:=by
 intro Aa s σ H x vs v us Q I rx rv h
 obtain⟨l,xs,y,rfl,rfl,hH,hz,q⟩:=h
 cases rx
 obtain⟨u,rfl,ru⟩:=rv.one
 obtain⟨z,its,n,r,hl,e⟩:=I.lstM hH
 refine call_meets F.slot_list_append ⟨_,e,rfl⟩ F.entry_list_append (F.args_list_append_2 _ _) (PySem.list_append l its.toArray n u (by rw [List.size_toArray];omega)) ⟨e,?_⟩
 refine⟨.non,_,I.lset (its':=its++[u]) hH e (by simp) (r.append (.cons ru .nil)) ?_,rfl,q⟩
 rw [List.length_append,List.length_singleton]
 omega
def rRep:R2:=fun x y H Q=>∃ l k xs,x=.ref l/\y=.int k/\H l=some (.lst xs)/\-(2 ^ 63)<=k/\k<2 ^ 63/\xs.length*k.toNat<=sizeLine ∧
 ∀ p,H p=none->Q (.ref p) (upd H p (.lst (List.replicate k.toNat xs).flatten))
theorem c5 {α:Type} (xs:List α) (k:Nat):(List.replicate k xs).flatten.length=k*xs.length:=by
 induction k with
 | zero=>simp
 | succ k ih=>rw [List.replicate_succ,List.flatten_cons,List.length_append,ih,Nat.succ_mul,Nat.add_comm]
theorem Aj5:OpR X (binaryOp .Mult) rRep:=by
 intro Aa s σ H x y v u Q I rx ry h
 obtain⟨l,k,xs,rfl,rfl,hH,h1,h2,hz,q⟩:=h
 cases rx
 obtain⟨t,rfl⟩:=ry
 obtain⟨z,its,n,r,hl,e⟩:=I.lstM hH
 have hlen:its.toArray.size*k.toNat<=sizeLine:=by rw [List.size_toArray,←hl];exact hz
 have hcap:¬its.toArray.size*k.toNat > (2 ^ 63-1) / 8:=by
  have:(sizeLine:Nat)<=(2 ^ 63-1) / 8:=by decide
  omega
 have hfit:¬(!Builtin.List.listFitsIndex k)=true:=by
  rw [fitsIndex_both h1 h2]
  exact Bool.false_ne_true
 have hlong:¬Builtin.List.listTooLong (its.toArray.size*k.toNat)=true:=by
  rw [t6 hlen]
  exact Bool.false_ne_true
 have hnew:List.foldl (fun x1 x2=>x1++x2) #[] (List.replicate (if its.toArray.isEmpty=true then 0 else k.toNat) its.toArray)=(List.replicate k.toNat its).flatten.toArray:=by
  have f0:∀ m:Nat,List.foldl (fun x1 x2=>x1++x2) #[] (List.replicate m its.toArray)=(List.replicate m its).flatten.toArray:=fun m=>by
   have:=Ta its m []
   rw [List.nil_append] at this
   exact this
  rw [f0]
  cases its with
  | nil=>simp
  | cons a r'=>rw [if_neg (by simp)]
 refine wpAny_binaryOp_repeat_ref (T:="list") (U:="int") (by decide) ⟨_,e,rfl⟩ (fun s'=>typeIs_int s' k t) noFill_list_mul F.fills_int_mul F.slot_int_rmul repeat_list F.slot_int_index.lookup
  (call_meets F.slot_int_rmul (typeIs_int s k t) F.entry_int_rmul (F.args_int_rmul_2 _ _) (int___rmul___int_list k t l its.toArray n)
    ⟨e,rfl,⟨_,e,rfl⟩,call_meets F.slot_list_mul ⟨_,e,rfl⟩ F.entry_list_mul (F.args_list_mul_2 _ _) (AutoListH.list___mul___list_int_3 l its.toArray n k t hfit hcap hlong) ⟨e,?_⟩⟩)
 rw [hnew]
 exact ⟨.ref _,_,I.lnew (t':=s.toks) (r.rep k.toNat) (by rw [c5,Nat.mul_comm];exact hz),rfl,q _ I.fresh⟩
end
section
variable {prog:Program}{w:World}{A:Around}{E:Value->Shared->Prop}{s:Shared}
end
section
variable {X:Cx}
end
end L2
namespace Att
open PySem PySem.W PySem.Calls PyProof.Rows
theorem L9 {P:Params}{h:Heap}:∀ (ns:List Int) (vs:List Value),WellAll P h vs (ns.map WData.int)->IntsAre vs ns:=by
 intro ns
 induction ns with
 | nil =>
   intro vs w
   rw [List.map_nil] at w
   cases w
   exact .nil
 | cons n ns ih =>
   intro vs w
   rw [List.map_cons] at w
   cases w with
   | cons a b =>
     cases a
     exact .cons _ _ (ih _ b)
theorem Zw {l:OpenLaw}{n:Nat} (hn:l.most=some n) {P:Params}{h:Heap}{args:List WData}{vals:List Value}
 (hpre:l.row.toRowW.claim.pre args=true) (hwl:WellAll P h vals args) :
 ∃ a vs ns,vals=[Value.ref a]/\args=[WData.list (ns.map WData.int)]/\h.get? a=some { cls:=.type "list",data:=.seq vs.toArray }/\IntsAre vs ns/\ns.length<=n:=by
 have hsh:WShape.hasAll [] args [.list .int]=true:=(pre_splitW hpre).1
 have hc:l.pre.holds [] { args:=args }=true:=(pre_splitW hpre).2
 obtain⟨d,r,rfl,h1,h2⟩:=hasAllW_cons hsh
 obtain rfl:=hasAllW_nil h2
 obtain⟨xs,rfl,h3⟩:=hasW_list h1
 obtain⟨ns,rfl⟩:=items_int h3
 have hlen:ns.length<=n:=by
  unfold OpenLaw.pre at hc
  have h4:(WTm.not (.lt (.lit (.int (n:Int))) (.len (.arg 0)))).holds [] { args:=[.list (ns.map .int)] }=true:=by
   have h4:=(holds_andW hc).1
   rw [hn] at h4
   exact h4
  have h5:=condW_of h4 (w_not (w_lt w_lit (w_len_list (w_arg rfl))))
  rw [List.length_map] at h5
  refine Nat.le_of_not_lt fun q=>?_
  have q':(n:Int)<((ns.length:Nat):Int):=by omega
  first
   | (rw [decide_eq_true q'] at h5;exact absurd h5 (by decide))
   | (simp at h5;omega)
 cases hwl with
 | cons w1 w2 =>
   cases w2
   cases w1 with
   | list ho hall=>exact ⟨_,_,ns,rfl,rfl,ho,L9 ns _ hall,hlen⟩
theorem Z3 (l:OpenLaw) (args:List WData):l.row.toRowW.claim.post args (.bool true) args=true :=
 postW_of (r:=l.row.toRowW) (X:=(true==true))
  (show WShape.has [] (.bool true) .bool=true by first | rfl | decide | simp [WShape.has,WShape.arms,WShape.armsAll])
  (show (WTm.eq .res (.lit (.bool true))).value [] { args:=args,res:=some (.bool true),after:=args }=some (.bool (true==true)) from w_eq_bool (w_res rfl) w_lit) rfl
theorem attach_call {l:OpenLaw}{n:Nat}{q:Program}{loose:List Str}{XP:(Str->Option Value)->Heap->Prop}{YP:World->Heap->Prop}{d:DefRec}
 (hn:l.most=some n) (hdf:d.params.defaults=[])
 (call:∀ (w:World) (s₀ s₁:Shared) (mg mb:Str->Option Value) (fa:Addr) (o:Obj) (pm cd doc:Value) (a:Addr) (vs:List Value) (ns:List Int),
   Ground q loose [] XP w s₀ mg mb s₁.heap->YP w s₁.heap →
   s₁.heap.get? fa=some o->o.data=.func (docDef d.name d.params d.body d.scope pm cd doc)->s₁.heap.CodeRec cd d.name->mg d.name=some (.ref fa) →
   s₁.heap.get? a=some { cls:=.type "list",data:=.seq vs.toArray }->IntsAre vs ns->ns.length<=n->s₁.gens=#[] →
   codeAny (model l.prog w) callerA (.call (.ref fa) ⟨[.ref a],[]⟩) (fun r s'=>r=.ok (.ret (.bool true))/\OldK s₁.heap s'.heap/\s'.os=s₁.os/\AllBare s'.gens) s₁) :
 WalkO q loose XP YP l.row.toRowW d [] (fun f vs=>PySem.call f vs):=by
 intro w s₀ s₁ mg mb G Y fa o pm cd doc dV kV ho hd hcd hD hmg hg args vals as hpre hlay hrd hwl hlo
 obtain rfl:dV=.none:=Dflts.none hD hdf
 obtain rfl:kV=.none:=Dflts.noKw hD
 obtain⟨a,vs,ns,rfl,rfl,hobj,hints,hlen⟩:=Zw hn hpre hwl
 refine enter_call (codeAny_mono (call w s₀ s₁ mg mb fa o pm cd doc a vs ns G Y ho (fd_plain hd) hcd hmg hobj hints hlen hg) fun r s' hq=>?_)
 obtain⟨rfl,h2,h3,h4⟩:=hq
 exact ⟨.inl ⟨.bool true,.bool true,[],rfl,fun _=>rfl,.bool true,Z3 l _,fun _=>⟨List.Pairwise.nil,fun _ hm=>(nomatch hm)⟩⟩,h2,h3,h4⟩
section
variable {prog:Program}{w:World}{A:Around}{E:Value->Shared->Prop}{s:Shared}{K:Frag}
end
end Att
namespace L2
open PySem PySem.Spec PyProof.Rows
theorem Qm:∀{vs:List Value}{ns:List Int},IntsAre vs ns->Vals (ns.map V.int) vs
 | _,_,.nil=>.nil
 | _,_,.cons n t h=>.cons ⟨t,rfl⟩ (Qm h)
def Only (H:Hp):Prop:=∀ b,H b=none\/∃ o xs,H b=some (.frz o (.lst xs))
theorem u4 {P:Program}{w:World}{K:W.Frag}{mg mb:Str->Option Value}{CX:CXT}{k:Nat}{fa a:Addr}{fd:FuncData}{x:Str}{sp:Sp}{s₁:Shared}{vs:List Value}{ns:List Int}
 (KX:K.In s₁.heap) (hns:s₁.heap.Ns mainGlobals mg) (hb:s₁.heap.Ns builtinsNs mb) (hbb:∀ x:Str,x≠"__name__"->mb x=bootBuiltins x) (hlim:s₁.heap.NoLimit) (hg:s₁.gens=#[])
 (ha:s₁.heap.get? a=some { cls:=.type "list",data:=.seq vs.toArray }) (hi:IntsAre vs ns) (hl:ns.length<=sizeLine) (hr:Room k callerA)
 (F:∀ base:Heap,K.In base->base.Ns mainGlobals mg->FnOk P w K mg base CX k fa fd [x] sp) (hbind:∀ (s:Shared) (u:Value),BindsTo s fd ⟨[u],[]⟩ [(x,u)])
 (hsp:∀ H:Hp,Only H->SqL K H a (ns.map V.int)->sp [.ref a] H (fun v _=>v=.bl true) fun _ _ _=>False)
 (hCX:∀ H e s',CX [] H s₁ (fun _ _ _=>False) e s'->False) :
 codeAny (model P w) callerA (.call (.ref fa) ⟨[.ref a],[]⟩) (fun r s'=>r=.ok (.ret (.bool true))/\OldK s₁.heap s'.heap/\s'.os=s₁.os/\AllBare s'.gens) s₁:=by
 have rv:=Qm hi
 have lenV:=hi.length
 have core:∀ H:Hp,Only H->SqL K H a (ns.map V.int)->HOk P w H s₁.heap->(∀ b,H b≠none->b=a)->(H a≠none->K.lookup a=none) →
  codeAny (model P w) callerA (.call (.ref fa) ⟨[.ref a],[]⟩) (fun r s'=>r=.ok (.ret (.bool true))/\OldK s₁.heap s'.heap/\s'.os=s₁.os/\AllBare s'.gens) s₁:=by
  intro H hO hS hok hA hK
  have base_of:∀{b:Addr}{o:Obj},s₁.heap.get? b=some o->H b=none->(hidT s₁.heap H).get? b=some o:=fun e n=>u7 e n
  have noA:∀{b:Addr}{o:Obj}{es:Array DictEntry}{ep:Nat},s₁.heap.get? b=some o->o.data=.dict es ep->H b=none:=fun {b o es ep} e d=>by
   cases q:H b with
   | none=>rfl
   | some u =>
     have e':b=a:=hA b (by rw [q];simp)
     subst e'
     rw [ha] at e;cases e
     have d':Data.seq vs.toArray _=Data.dict es ep:=d
     cases d'
  have nsK:∀{b:Addr}{m:Str->Option Value},s₁.heap.Ns b m->(hidT s₁.heap H).Ns b m:=fun {b m} ⟨o,es,ep,e,d,r⟩=>⟨o,es,ep,base_of e (noA e d),d,r⟩
  have hKb:K.In (hidT s₁.heap H):=fun b o e=>base_of (KX b o e) (by
   cases q:H b with
   | none=>rfl
   | some u =>
     have e':b=a:=hA b (by rw [q];simp)
     subst e'
     rw [hK (by rw [q];simp)] at e;cases e)
  have hM:Mod K mg (hidT s₁.heap H):=⟨hKb,nsK hns,⟨mb,nsK hb,hbb⟩,let ⟨mc,h1,h2⟩:=hlim;⟨mc,nsK h1,h2⟩⟩
  have e0:Env0 P w K mg (hidT s₁.heap H) callerA [] s₁ H:=⟨rfl,hM,fun b o e=>Ad9 e,Nat.le_of_eq (e9 _ _),trivial,fun b hb=>absurd (show b∈([]:List Addr) from hb) (by simp),hok,.of_eq hg⟩
  refine codeAny_mono ((F _ hKb (nsK hns)).run callerA [] s₁ H ⟨[.ref a],[]⟩ [.ref a] [.ref a] _ _ hr e0 (hbind s₁ (.ref a)) (.cons rfl .nil) (hsp H hO hS)) fun r s' h=>?_
  cases r with
  | error e=>exact (hCX H e s' h).elim
  | ok fl =>
    cases fl with
    | next=>exact False.elim h
    | brk=>exact False.elim h
    | cont=>exact False.elim h
    | ret u =>
      obtain⟨v,H',os,bare,un,hok',r',q⟩:=h
      have q':v=.bl true:=q
      subst q'
      obtain rfl:u=Value.bool true:=r'
      refine⟨rfl,OldK.of_keep fun b o e=>?_,os,bare⟩
      cases q:H b with
      | none=>exact un.keep b o e q (by intro z;exact absurd (show b∈([]:List Addr) from z) (by simp)) (by simp)
      | some u =>
        rcases hO b with z|⟨ob,xs,z⟩
        . rw [q] at z;cases z
        . have z2:=un.frzs b ob _ z
          obtain⟨e1,_⟩:=hok b _ z
          obtain⟨e2,_⟩:=hok' b _ z2
          rw [e] at e1;cases e1
          exact e2
 cases hk:K.lookup a with
 | some o =>
   have e:=KX a o hk
   rw [ha] at e
   cases e
   refine core (fun _=>none) (fun _=>.inl rfl) (.inr ⟨_,vs.toArray,_,hk,rfl,rfl,rfl,by rw [List.size_toArray,lenV];exact hl,by simpa using rv⟩) (fun b u z=>by have z':(none:Option HO)=some u:=z;cases z') (fun b z=>absurd rfl z) fun z=>absurd rfl z
 | none =>
   refine core (fun b=>if b=a then some (.frz { cls:=.type "list",data:=.seq vs.toArray } (.lst (ns.map V.int))) else none) (fun b=>?_) (.inl (.inr ⟨{ cls:=.type "list",data:=.seq vs.toArray },if_pos rfl⟩)) (fun b u z=>?_) (fun b z=>?_) fun _=>hk
   . by_cases hb:b=a
     . exact .inr ⟨_,_,if_pos hb⟩
     . exact .inl (if_neg hb)
   . by_cases hb:b=a
     . have z':=(if_pos hb).symm.trans z
       cases z'
       subst hb
       exact ⟨ha,by rw [List.length_map];exact hl,vs,_,rv,ha⟩
     . have z':=(if_neg hb).symm.trans z
       cases z'
   . by_cases hb:b=a
     . exact hb
     . exact absurd (if_neg hb) z
end L2
namespace L2
open PySem PySem.Spec PyProof.Rows
theorem walk_of {l:PySem.W.OpenLaw}{n k:Nat}{q:Program}{loose:List Str}{XP:(Str->Option Value)->Heap->Prop}{YP:World->Heap->Prop}{d:DefRec}{K:Params->PySem.W.Frag}{CX:World->CXT}{sp:World->Sp}{x:Str}
 (hn:l.most=some n) (hn2:n<=sizeLine) (hdf:d.params.defaults=[]) (hr:Room k callerA)
 (hY:∀ (w:World) (h:Heap),YP w h->(K w.params).In h)
 (F:∀ (w:World) (mg:Str->Option Value) (fa:Addr) (h:Heap),(K w.params).In h->h.Ns mainGlobals mg->mg d.name=some (.ref fa) →
   ∃ fd:FuncData,(∀ (s:Shared) (u:Value),BindsTo s fd ⟨[u],[]⟩ [(x,u)]) ∧
     ∀ base:Heap,(K w.params).In base->base.Ns mainGlobals mg->FnOk l.prog w (K w.params) mg base (CX w) k fa fd [x] (sp w))
 (hsp:∀ (w:World) (H:Hp) (a:Addr) (ns:List Int),ns.length<=n->Only H->SqL (K w.params) H a (ns.map V.int)->sp w [.ref a] H (fun v _=>v=.bl true) fun _ _ _=>False)
 (hCX:∀ (w:World) (H:Hp) (s:Shared) (e:Value) (s':Shared),CX w [] H s (fun _ _ _=>False) e s'->False) :
 PySem.W.WalkO q loose XP YP l.row.toRowW d [] (fun f vs=>PySem.call f vs):=by
 refine Att.attach_call hn hdf fun w s₀ s₁ mg mb fa o pm cd doc a vs ns G Y ho hd hcd hmg hobj hints hlen hg=>?_
 have KX:=hY w _ Y
 obtain⟨fd,hb,hF⟩:=F w mg fa _ KX G.T.g hmg
 exact u4 KX G.T.g G.T.b G.T.builtins G.T.nolimit hg hobj hints (Nat.le_trans hlen hn2) hr hF hb (fun H hO hS=>hsp w H a ns hlen hO hS) fun H e s'=>hCX w H s₁ e s'
end L2
namespace L2
open PySem PySem.Spec PyProof.Rows
def Af2 (s:Stmt) (j:Nat):Stmt:=match s with
 | .ClassDef _ _ _ body _ _ _ _ _ _ _=>body.getD j (.Pass ⟨0,0,0,0⟩)
 | _=>.Pass ⟨0,0,0,0⟩
def A3 (s:Stmt):Arguments:=match s with
 | .FunctionDef _ a _ _ _ _ _ _ _ _=>a
 | _=>{ posonlyargs:=[],args:=[],vararg:=none,kwonlyargs:=[],kw_defaults:=[],kwarg:=none,defaults:=[] }
def A2 (s:Stmt):List Stmt:=match s with
 | .FunctionDef _ _ b _ _ _ _ _ _ _=>b
 | _=>[]
def Ak (s:Stmt):Scope:=match s with
 | .FunctionDef _ _ _ _ _ _ sc _ _ _=>sc
 | _=>{ kind:=.function,names:=[],isGenerator:=false,isCoroutine:=false }
abbrev CX0:CXT:=fun _ _ _ _ _ _=>False
abbrev E0:XK:=fun _ _ _=>False
theorem Ao3 {X:Cx}:l6 CX0 X E0:=fun _ _ _ _ _ _ _ h=>h.elim
structure Fun (K:W.Frag) (x qual:Str) (st:Stmt) (f:Addr) (fd:FuncData):Prop where
 ex:∃ (oc:Value) (od:Option Addr) (kV doc pm:Value) (an:Option Addr) (B5 ct:Value) (osl:Array (Option Value)),
  fd=PySem.W.fnOf x qual (A3 st) (A2 st) (Ak st) .none kV doc pm an B5 ct/\K.lookup f=some ⟨oc,od,.func fd,osl⟩/\PySem.W.codeIn K B5 qual=true
 kp:PySem.W.keepIn K (.ref f)=true
section
variable {P:Program}{w:World}{K:W.Frag}{mg:Str->Option Value}{base:Heap}
theorem Fun.ok {x qual:Str}{st:Stmt}{f:Addr}{fd:FuncData}{N ps:List Str}{k:Nat}{sp:Sp} (F:Fun K x qual st f fd) (S:FnScope N ps (Ak st)) (len:∀ vs H Q E,sp vs H Q E->vs.length=ps.length)
 (hbody:∀ (B5:Value) (A:Around) (outer:List Env) (s:Shared) (H:Hp) (vs:List V) (Q:VK) (E:XK),Room k (A.deeper (envOfC qual (Ak st) s.heap.objs.size f B5))->sp vs H Q E →
   ∃ t,PSs (cxOf CX0 P w K mg base N qual (Ak st) f B5 A outer s H E).nox (A2 st) t/\t { nx:=fun _ H'=>Q .non H',rt:=Q } (Jg N vs) H):FnOk P w K mg base CX0 (k+1) f fd ps sp:=by
 obtain⟨oc,od,kV,doc,pm,an,B5,ct,osl,rfl,lk,hcd⟩:=F.ex
 refine Al7 lk hcd S len fun A outer s H vs Q E hr hsp=>?_
 obtain⟨t,h,q⟩:=hbody B5 A outer s H vs Q E hr hsp
 exact ⟨t,h.nox,q⟩
theorem Fun.binds {x qual:Str}{st:Stmt}{f:Addr}{fd:FuncData}{ps:List Str} (F:Fun K x qual st f fd)
 (h:∀ (kV doc pm:Value) (an:Option Addr) (B5 ct:Value) (us:List Value),us.length=ps.length->bindArgs (PySem.W.fnOf x qual (A3 st) (A2 st) (Ak st) .none kV doc pm an B5 ct) ⟨us,[]⟩=pure (ps.zip us)):Na K fd ps []:=by
 obtain⟨oc,od,kV,doc,pm,an,B5,ct,osl,rfl,lk,hcd⟩:=F.ex
 exact .all (h kV doc pm an B5 ct)
theorem Bl {x qual:Str}{st:Stmt}{f:Addr}{oc:Value}{od an:Option Addr}{osl:Array (Option Value)}{kV doc pm B5 ct:Value} (l:K.lookup f=some ⟨oc,od,.func (PySem.W.fnOf x qual (A3 st) (A2 st) (Ak st) .none kV doc pm an B5 ct),osl⟩)
 (c:PySem.W.codeIn K B5 qual=true) (k:PySem.W.keepIn K (.ref f)=true):Fun K x qual st f (PySem.W.fnOf x qual (A3 st) (A2 st) (Ak st) .none kV doc pm an B5 ct):=⟨⟨oc,od,kV,doc,pm,an,B5,ct,osl,rfl,l,c⟩,k⟩
end
section
variable {X:Cx}
theorem pv (i:Nat) {x:Str}{pos:Pos} (hN:X.N[i]?=some x:=by rfl) (hv:Vis X.env.scope x:=by first | exact Or.inl rfl | exact Or.inr (Or.inl rfl) | exact Or.inr (Or.inr rfl)) (hd:(x==("__debug__":Str))=false:=by decide)
 (hcd:(x==("__classdict__":Str))=false:=by decide):PE X (.Name x pos) (tVar i):=Aj4 hN hv hd hcd
end
theorem ite2 {c A B:Prop} [Decidable c] (h1:c->A) (h2:¬c->B):if c then A else B:=by
 by_cases h:c
 . rw [if_pos h]
   exact h1 h
 . rw [if_neg h]
   exact h2 h
def Same (H H':Hp):Prop:=∀ b o,H b=some o->H' b=some o
theorem Same.refl (H:Hp):Same H H:=fun _ _ h=>h
theorem Same.trans {H H1 H2:Hp} (a:Same H H1) (b:Same H1 H2):Same H H2:=fun c o h=>b c o (a c o h)
theorem Same.free {H H':Hp} (e:Same H H') {l:Addr} (h:H' l=Option.none):H l=Option.none:=by
 cases q:H l with
 | none=>rfl
 | some o =>
   rw [e l o q] at h
   cases h
theorem Same.seq {K:W.Frag}{H H':Hp}{a:Addr}{xs:List V} (e:Same H H') (h:SqL K H a xs):SqL K H' a xs:=by
 rcases h with (h|⟨o,h⟩) | h
 . exact .inl (.inl (e _ _ h))
 . exact .inl (.inr ⟨o,e _ _ h⟩)
 . exact .inr h
end L2
namespace L2
open PySem PySem.Spec PyProof.Rows
def clOf (cells:List (Str × Addr)):List (Str × NameKind)->List (Str × Addr)->List (Str × Addr)
 | [],acc=>acc
 | (n,k)::r,acc=>clOf cells r (if (k==NameKind.free)=true then (n,(cells.lookup n).getD 0)::acc else acc)
theorem Km {sc:Scope}{env:Env} (h:∀ n,(n,NameKind.free)∈sc.names->∃ c,env.cells.lookup n=some c):closureFor sc env=pure (clOf env.cells sc.names []):=by
 have all:∀ (l:List (Str × NameKind)) (acc:List (Str × Addr)),(∀ n,(n,NameKind.free)∈l->∃ c,env.cells.lookup n=some c) →
  (forIn l acc fun (x:Str × NameKind) (cs:List (Str × Addr))=>match x with
    | (name,kind)=>if (kind==NameKind.free)=true then (do let c ←cellOf env name;pure (ForInStep.yield ((name,c)::cs))) else pure (ForInStep.yield cs))=(pure (clOf env.cells l acc):Sem _):=by
  intro l
  induction l with
  | nil=>intro acc _;rfl
  | cons x r ih =>
    intro acc hl
    obtain⟨n,k⟩:=x
    rw [List.forIn_cons]
    by_cases hk:(k==NameKind.free)=true
    . have hk':k=NameKind.free:=by simpa using hk
      subst hk'
      obtain⟨c,hc⟩:=hl n List.mem_cons_self
      have e1:cellOf env n=pure c:=by unfold cellOf;rw [hc]
      simp only [beq_self_eq_true,if_true,e1,pure_bind]
      rw [ih _ fun m hm=>hl m (List.mem_cons_of_mem _ hm)]
      show _=(pure (clOf env.cells r (if (NameKind.free==NameKind.free)=true then (n,(env.cells.lookup n).getD 0)::acc else acc)):Sem _)
      rw [if_pos (by simp),hc]
      rfl
    . have hk2:(k==NameKind.free)=false:=by simpa using hk
      simp only [hk2,Bool.false_eq_true,if_false,pure_bind]
      rw [ih _ fun m hm=>hl m (List.mem_cons_of_mem _ hm)]
      show _=(pure (clOf env.cells r (if (k==NameKind.free)=true then (n,(env.cells.lookup n).getD 0)::acc else acc)):Sem _)
      rw [if_neg hk]
 have:=all sc.names [] h
 unfold closureFor
 dsimp only
 rw [this,pure_bind]
theorem Ck {cells:List (Str × Addr)}{x:Str}{c:Addr}:∀{l:List (Str × NameKind)}{acc:List (Str × Addr)},(∀ n,(n,NameKind.free)∈l->∃ c,cells.lookup n=some c) →
 (acc.lookup x=some c->cells.lookup x=some c)->(clOf cells l acc).lookup x=some c->cells.lookup x=some c
 | [],_,_,ha,h=>ha h
 | (n,k)::r,acc,hl,ha,h=>by
   refine Ck (l:=r) (fun m hm=>hl m (List.mem_cons_of_mem _ hm)) ?_ h
   by_cases hk:(k==NameKind.free)=true
   . rw [if_pos hk]
     have hk':k=NameKind.free:=by simpa using hk
     subst hk'
     obtain⟨d,hd⟩:=hl n List.mem_cons_self
     intro e
     rw [List.lookup_cons] at e
     cases hx:x==n with
     | true =>
       rw [hx] at e
       have hxn:x=n:=by simpa using hx
       subst hxn
       rw [hd] at e ⊢
       exact e
     | false=>rw [hx] at e;exact ha e
   . rw [if_neg hk];exact ha
theorem Qe {cells:List (Str × Addr)}{x:Str}:∀{l:List (Str × NameKind)}{acc:List (Str × Addr)},((x,NameKind.free)∈l\/∃ c,acc.lookup x=some c)->∃ c,(clOf cells l acc).lookup x=some c
 | [],_,h=>by
   rcases h with h | h
   . exact nomatch h
   . exact h
 | (n,k)::r,acc,h=>by
   refine Qe (l:=r) ?_
   by_cases hk:(k==NameKind.free)=true
   . rw [if_pos hk]
     by_cases hx:(x==n)=true
     . exact .inr ⟨(cells.lookup n).getD 0,by rw [List.lookup_cons,hx]⟩
     . have hx2:(x==n)=false:=by simpa using hx
       rcases h with h|⟨c,h⟩
       . rcases List.mem_cons.mp h with e | e
         . have e1:x=n:=congrArg Prod.fst e
           exact absurd (by simp [e1]) hx
         . exact .inl e
       . exact .inr ⟨c,by rw [List.lookup_cons,hx2];exact h⟩
   . rw [if_neg hk]
     rcases h with h | h
     . rcases List.mem_cons.mp h with e | e
       . have e2:NameKind.free=k:=congrArg Prod.snd e
         exact absurd (by simp [←e2]) hk
       . exact .inl e
     . exact .inr h
def compCx (X:Cx) (sc:Scope) (N':List Str) (C:Addr) (s₀:Shared) (H₀:Hp) (fp:List Addr):Cx where
 prog:=X.prog
 w:=X.w
 K:=X.K
 mg:=X.mg
 base:=X.base
 A:=X.A
 N:=N'
 s₀:=s₀
 H₀:=H₀
 env:=compEnvC sc (clOf X.env.cells sc.names []) C X.env
 outer:=X.stack
 stack:=X.stack
 ex:=fp
 fn:=fun _=>false
 calm:=X.calm
 pn:=[]
 xe:=fun _ _=>False
def capS (cap:List (Option Nat)) (σ:St):St:=cap.map fun o=>o.bind fun j=>(σ[j]?).join
structure N0 (X:Cx) (sc:Scope) (N':List Str) (cap:List (Option Nat)):Prop where
 kind:sc.kind=.function
 len:cap.length=N'.length
 nocell:∀ x∈sc.names,x.2≠NameKind.cell
 locals:∀ x∈sc.names,x.2=NameKind.local->sc.names.lookup x.1=some NameKind.local
 free:∀ n,(n,NameKind.free)∈sc.names->X.env.kindOf n=some .cell\/X.env.kindOf n=some .free
 slots:∀ (i j:Nat) (x:Str),N'[i]?=some x->cap[i]?=some (some j)->X.N[j]?=some x/\((relabel sc X.env).names.lookup x=some .cell\/(relabel sc X.env).names.lookup x=some .free)/\Vis X.env.scope x
section
variable {X:Cx}{sc:Scope}{N':List Str}{cap:List (Option Nat)}{Aa:List (Addr × Obj)}{σ:St}{H:Hp}{s:Shared}{C:Addr}{fp:List Addr}
theorem N0.cells (c:N0 X sc N' cap) (ok:X.Ok):∀ n,(n,NameKind.free)∈sc.names->∃ c,X.env.cells.lookup n=some c:=fun n hn=>ok.has n (c.free n hn)
theorem E8 {env:Env}{x:Str}{k:NameKind} (hnc:∀ x∈sc.names,x.2≠NameKind.cell) (h:(relabel sc env).names.lookup x=some k) (hk:k=.cell\/k=.free):(x,NameKind.free)∈sc.names:=by
 have all:∀ (l:List (Str × NameKind)),(∀ x∈l,x.2≠NameKind.cell)->(l.map fun (n,k)=>if (k==NameKind.free&&env.scope.kind==.function&&env.kindOf n==some .cell) then (n,NameKind.cell) else (n,k)).lookup x=some k->(x,NameKind.free)∈l:=by
  intro l
  induction l with
  | nil=>intro _ h;exact nomatch h
  | cons p r ih =>
    intro hn h
    obtain⟨n,q⟩:=p
    rw [List.map_cons,List.lookup_cons] at h
    by_cases hc:(q==NameKind.free&&env.scope.kind==.function&&env.kindOf n==some .cell)=true
    . have hq:q=NameKind.free:=by
       have:=hc
       simp only [Bool.and_eq_true] at this
       simpa using this.1.1
      simp only [hc,if_true] at h
      cases hx:x==n with
      | true =>
        have e:x=n:=by simpa using hx
        rw [e,hq]
        exact List.mem_cons_self
      | false =>
        rw [hx] at h
        exact List.mem_cons_of_mem _ (ih (fun y hy=>hn y (List.mem_cons_of_mem _ hy)) h)
    . simp only [hc] at h
      cases hx:x==n with
      | true =>
        have e:x=n:=by simpa using hx
        simp only [Bool.false_eq_true,if_false,hx] at h
        have e2:q=k:=by simpa using h
        rcases hk with z | z
        . exact absurd (e2.trans z) (hn (n,q) List.mem_cons_self)
        . rw [e,←z,←e2]
          exact List.mem_cons_self
      | false =>
        simp only [Bool.false_eq_true,if_false,hx] at h
        exact List.mem_cons_of_mem _ (ih (fun y hy=>hn y (List.mem_cons_of_mem _ hy)) h)
 exact all sc.names hnc h
theorem Ag3 (c:N0 X sc N' cap) (I:Inv X Aa σ H s) (hC:s.heap.objs.size<=C) (hf:∀ b∈fp,FpOk X Aa H b) (hb:∀ b∈fp,b<s.heap.objs.size):(compCx X sc N' C s H fp).Ok where
 mod:=I.ok.mod
 kind:=c.kind
 glob:=I.ok.glob
 blt:=I.ok.blt
 above:=hC
 inj:=fun x y a hx hy=>I.ok.inj x y a (Ck (c.cells I.ok) (fun z=>by simp at z) hx) (Ck (c.cells I.ok) (fun z=>by simp at z) hy)
 has:=fun x hx=>by
  refine Qe (.inl ?_)
  rcases hx with hx | hx
  . exact E8 c.nocell hx (.inl rfl)
  . exact E8 c.nocell hx (.inr rfl)
 cab:=fun _ _ h=>nomatch h
 hd:=I.ok.hd
 frames:=I.ok.frames
 stk:=.inl rfl
 exf:=fun b hb'=>⟨Nat.ne_of_lt (Nat.lt_of_lt_of_le (hb b hb') hC),fun x a e=>(hf b hb').2.2.2.2.1 x a (Ck (c.cells I.ok) (fun z=>by simp at z) e)⟩
 bs:=I.bs
 bsz:=Nat.le_trans I.ok.bsz I.sz
 noex:=fun b o e hb'=>by
  rcases (hf b hb').2.2.2.1 with z | z
  . exact I.ok.noex b o e z
  . exact absurd (Nat.lt_of_lt_of_le (Heap.lt_size e) (Nat.le_trans I.ok.bsz z)) (Nat.lt_irrefl _)
 exfs:=fun b hb' z=>by
  obtain⟨_,f1,f2,_⟩:=hf b hb'
  rcases List.mem_cons.mp (I.stkSub b z) with e | e
  . exact f1 e
  . exact f2 e
 funs:=I.stack
 frf:=I.stkFree
theorem Xb (c:N0 X sc N' cap) (I:Inv X Aa σ H s) {D:Addr}{h1:Heap}{t:Nat} (hC:C=s.heap.objs.size+1) (hD:D=s.heap.objs.size) (hf:∀ b∈fp,FpOk X Aa H b) (hb:∀ b∈fp,b<s.heap.objs.size)
 (hn:h1.Ns C fun _=>none) (hl:h1.get? D=some { cls:=.type "list",data:=.seq #[] 0 }) (k:∀ b o,s.heap.get? b=some o->h1.get? b=some o) :
 Inv (compCx X sc N' C s H fp) [] (capS cap σ) (upd H D (.lst [])) { s with heap:=h1,toks:=t }:=by
 have hCs:s.heap.objs.size<=C:=by rw [hC];exact Nat.le_succ _
 have hCD:C≠D:=by rw [hC,hD];exact Nat.succ_ne_self _
 have ok:=Ag3 (C:=C) (fp:=fp) c I hCs hf hb
 have hDn:H D=none:=by rw [hD];exact I.fresh
 have ltc:∀ x a,(clOf X.env.cells sc.names []).lookup x=some a->X.env.cells.lookup x=some a:=fun x a e=>Ck (c.cells I.ok) (fun z=>by simp at z) e
 have cel:∀ a v,s.heap.IsCell a v->h1.IsCell a v:=fun a v ⟨o,ho,hd⟩=>⟨o,k a o ho,hd⟩
 have ltD:∀ a v,s.heap.IsCell a v->a≠D:=fun a v ⟨o,ho,hd⟩=>by rw [hD];exact Nat.ne_of_lt (Heap.lt_size ho)
 refine⟨ok,rfl,I.bare,Un.laid k (by rw [hD];exact Nat.le_refl _) hDn,⟨_,hn,fun i x v e1 e2 e3=>?_⟩,fun x a e=>?_,?_,fun x a e=>?_,fun p hp=>absurd hp (by simp [compCx]),?_,?_⟩
 . have e2':cap[i]?.map (fun o=>o.bind fun j=>(σ[j]?).join)=some (some v):=by
    have:=e2
    unfold capS at this
    rw [List.getElem?_map] at this
    exact this
   cases hc:cap[i]? with
   | none=>rw [hc] at e2';cases e2'
   | some o =>
     rw [hc] at e2'
     cases o with
     | none=>cases e2'
     | some j =>
       have e4:(σ[j]?).join=some v:=by simpa using e2'
       obtain⟨q1,q2',q3⟩:=c.slots i j x e1 hc
       have q2:(x,NameKind.free)∈sc.names:=q2'.elim (fun z=>E8 c.nocell z (.inl rfl)) fun z=>E8 c.nocell z (.inr rfl)
       obtain⟨m,hm,hl'⟩:=I.loc
       have e5:σ[j]?=some (some v):=by
        cases z:σ[j]? with
        | none=>rw [z] at e4;cases e4
        | some y=>rw [z] at e4;cases y with
          | none=>cases e4
          | some y'=>cases e4;rfl
       obtain⟨u,r,l⟩:=hl' j x v q1 e5 q3
       refine⟨u,r,?_⟩
       obtain⟨a,ha⟩:=Qe (cells:=X.env.cells) (l:=sc.names) (acc:=[]) (x:=x) (.inl q2)
       have kd:X.env.kindOf x=some .cell\/X.env.kindOf x=some .free:=c.free x q2
       rcases l with ⟨hk,_⟩|⟨hk,a',ha',hcell⟩
       . rcases kd with z | z<;>rw [z] at hk<;>cases hk
       . have e6:a'=a:=by
          have:=ltc x a ha
          rw [ha'] at this
          exact Option.some.inj this
         refine .inr ⟨q2',a,ha,?_⟩
         rw [←e6]
         exact cel _ _ hcell
 . obtain⟨v,z⟩:=I.cell x a (ltc x a e)
   exact ⟨v,cel a v z⟩
 . show upd H D (.lst []) C=none
   rw [Ax hCD]
   exact I.hok.fresh hCs
 . show upd H D (.lst []) a=none
   obtain⟨v,z⟩:=I.cell x a (ltc x a e)
   rw [Ax (ltD a v z)]
   exact I.freeC x a (ltc x a e)
 . exact I.hok.laid k (by rw [hD];exact Nat.le_refl _) ⟨Nat.zero_le _,[],0,.nil,hl⟩
 . show (capS cap σ).length=N'.length
   unfold capS
   rw [List.length_map,c.len]
end
end L2
namespace L2
open PySem PySem.Spec PyProof.Rows
def capB (osc:Scope) (N:List Str) (sc:Scope) (N':List Str) (cap:List (Option Nat)):Bool :=
 decide (sc.kind=.function)&&decide (cap.length=N'.length)&&sc.names.all (fun x=>decide (x.2≠NameKind.cell))&&sc.names.all (fun x=>decide (x.2=NameKind.local->sc.names.lookup x.1=some NameKind.local)) &&
 sc.names.all (fun x=>decide (x.2=NameKind.free->(osc.names.lookup x.1=some .cell\/osc.names.lookup x.1=some .free))) &&
 (N'.zip cap).all (fun p=>match p.2 with
   | none=>true
   | some j=>decide (N[j]?=some p.1)&&decide (((sc.names.map fun (n,k)=>if (k==.free&&osc.kind==.function&&osc.names.lookup n==some .cell) then (n,NameKind.cell) else (n,k)).lookup p.1=some .cell) ∨
      ((sc.names.map fun (n,k)=>if (k==.free&&osc.kind==.function&&osc.names.lookup n==some .cell) then (n,NameKind.cell) else (n,k)).lookup p.1=some .free)) &&
     decide (osc.names.lookup p.1=some .local\/osc.names.lookup p.1=some .cell\/osc.names.lookup p.1=some .free))
theorem Wl {X:Cx}{sc:Scope}{N':List Str}{cap:List (Option Nat)} (h:capB X.env.scope X.N sc N' cap=true):N0 X sc N' cap:=by
 unfold capB at h
 rw [Bool.and_eq_true,Bool.and_eq_true,Bool.and_eq_true,Bool.and_eq_true,Bool.and_eq_true,List.all_eq_true,List.all_eq_true,List.all_eq_true,List.all_eq_true] at h
 obtain⟨⟨⟨⟨⟨h1,h2⟩,h3⟩,h4⟩,h5⟩,h6⟩:=h
 refine⟨of_decide_eq_true h1,of_decide_eq_true h2,fun x hx=>of_decide_eq_true (h3 x hx),fun x hx=>of_decide_eq_true (h4 x hx),fun n hn=>of_decide_eq_true (h5 _ hn) rfl,fun i j x e1 e2=>?_⟩
 have hm:(x,some j)∈N'.zip cap:=by
  have e:(N'.zip cap)[i]?=some (x,some j):=by
   rw [List.getElem?_zip_eq_some]
   exact ⟨e1,e2⟩
  exact List.mem_of_getElem? e
 have h7:=h6 _ hm
 dsimp only at h7
 rw [Bool.and_eq_true,Bool.and_eq_true] at h7
 obtain⟨⟨h8,h9⟩,h10⟩:=h7
 exact ⟨of_decide_eq_true h8,of_decide_eq_true (p:=(relabel sc X.env).names.lookup x=some .cell\/(relabel sc X.env).names.lookup x=some .free) h9,of_decide_eq_true (p:=X.env.scope.names.lookup x=some .local\/X.env.scope.names.lookup x=some .cell\/X.env.scope.names.lookup x=some .free) h10⟩
def PTs (X:Cx) (ifs:List Expr) (t:TT):Prop :=
 ∀ (Aa:List (Addr × Obj)) (s:Shared) (σ:St) (H:Hp) (Q:Bool->Hp->Prop),Inv X Aa σ H s->t σ H Q →
   wpAny (model X.prog X.w) X.A (forIn ifs true fun c r=>if r=true then do let ok ←isTrue c X.env (eval c X.env);pure (ForInStep.yield ok) else pure (ForInStep.yield r)) (TP X Aa σ Q) X.xe s
def tYes:TT:=fun _ H Q=>Q true H
theorem Dd {X:Cx}:PTs X [] tYes:=fun _ _ _ H _ I h=>wpAny_tests_nil ⟨H,I,h⟩
def RunC (J:It) (g:TG) (tc:TT) (te:TE) (D:Addr) (Q:Hp->Prop) (τ:St) (H:Hp):Prop :=
 ∃ W:Nat->Nat->List V->St->Hp->Prop,(∃ m,W 0 m [] τ H)/\∀ i m ys τ H,W i m ys τ H →
   (J.stop i H/\Q H) ∨
   (J.go i H/\∃ N:List V->St->Hp->Prop,(∀ ys' τ' H',N ys' τ' H'->∃ m',m'<m/\W (i+1) m' ys' τ' H') ∧
     ∀ x H',J.yld i H x H'->g x τ H' fun τ2 H2=>tc τ2 H2 fun b H3=>if b=true then te τ2 H3 fun y H4=>H4 D=some (.lst ys)/\ys.length<sizeLine/\N (ys++[y]) τ2 (upd H4 D (.lst (ys++[y]))) else N ys τ2 H3)
section
variable {X:Cx}{sc:Scope}{N':List Str}{cap:List (Option Nat)}{tg elt iter:Expr}{ifs:List Expr}{pos:Pos}{g:TG}{tc:TT}{te:TE}
theorem j5 {Y:Cx}{J:It}{fp:List Addr}{it D:Addr}{tn:Nat->Heap->Prop}{R:Result->Shared->Prop}{Q:Hp->Prop}{τ:St}{H:Hp}{s:Shared}
 (hx:Y.xe=fun _ _=>False) (hc:Y.calm=true) (hg:PG Y tg g) (ht:PTs Y ifs tc) (he:PE Y elt te) (T:Turn Y.prog Y.w Y.K tg J fp it tn) (st:tn 0 s.heap) (hf:∀ b∈fp,FpOk Y [] H b) (I:Inv Y [] τ H s)
 (h:RunC J g tc te D Q τ H) (hR:∀ τ' H' s',Inv Y [] τ' H' s'->Q H'->R (.ok .next) s') :
 codeAny (model Y.prog Y.w) Y.A (.compLoop (.ListComp elt [⟨tg,iter,ifs,0⟩] sc pos) 0 (.ref it) (.ref D) Y.env) R s:=by
 obtain⟨W,⟨m0,w0⟩,turn⟩:=h
 have stat:∀{H':Hp},(∀ b∈fp,H' b=none)->∀ b∈fp,FpOk Y [] H' b:=fun hn b hb=>⟨hn b hb,(hf b hb).2⟩
 have no:∀{P:Prop}{e:Value}{s':Shared},Y.xe e s'->P:=fun z=>by rw [hx] at z;exact z.elim
 refine codeAny_loop rfl (fun n s'=>∃ i ys τ' H',Inv Y [] τ' H' s'/\tn i s'.heap/\(∀ b∈fp,H' b=none)/\W i n ys τ' H') ?_ m0 ⟨0,[],τ,H,I,st,fun b hb=>(hf b hb).1,w0⟩
 rintro n s3 ⟨i,ys,τ3,H3,I3,st3,fr3,w3⟩
 show wpAny _ Y.A ((compTurn (.ListComp elt [⟨tg,iter,ifs,0⟩] sc pos) 0 (.ref it) (.ref D) Y.env).onRaise (fun x=>do noteFrame x Y.env;theTreesLotGoes x)) _ _ s3
 refine wpAny_noted ?_
 rw [compTurn_list]
 refine wpAny_bind (wpAny_standAt (wpAny_bind ?_))
 rcases turn i n ys τ3 H3 w3 with ⟨stop,qn⟩|⟨go,N,hN,step⟩
 . refine wpAny_mono (T.done Y rfl rfl rfl hc i [] s3 τ3 H3 (fun _ _=>False) I3 (stat fr3) st3 stop) (fun r s4 ⟨hr,I4⟩=>?_) fun _ _ z=>z.elim
   subst hr
   exact wpAny_pure (hR _ _ _ I4 qn)
 . refine wpAny_mono (T.item Y rfl rfl rfl hc i [] s3 τ3 H3 (fun _ _=>False) I3 (stat fr3) st3 go) (fun r s4 ⟨u,hr,h4⟩=>?_) fun _ _ z=>z.elim
   subst hr
   refine wpAny_bind (wpAny_mono h4 (fun _ s5 ⟨x,H5,I5,r5,y5,st5,fr5⟩=>?_) fun _ _ z=>z.elim)
   have I5':=I5.pinned (stat fr5) (T.obj _ _ st5)
   have again:∀{τ7:St}{H7:Hp}{ys7:List V}{s7:Shared},Inv Y ([]++N5 fp s5.heap) τ7 H7 s7->N ys7 τ7 H7->∃ m,m<n/\∃ i ys τ' H',Inv Y [] τ' H' s7/\tn i s7.heap/\(∀ b∈fp,H' b=none)/\W i m ys τ' H':=fun {τ7 H7 ys7 s7} I7 n7=>by
    obtain⟨m',hm,w7⟩:=hN ys7 τ7 H7 n7
    refine⟨m',hm,i+1,ys7,τ7,H7,I7.unpinned,T.keep _ _ _ st5 fun b hb o e=>(I7.pin (b,o) (List.mem_append_right _ (List.mem_append_right _ (Ds hb e)))).1,fun b hb=>?_,w7⟩
    obtain⟨o,e,d⟩:=T.obj _ _ st5 b hb
    exact (I7.pin (b,o) (List.mem_append_right _ (List.mem_append_right _ (Ds hb e)))).2.1
   refine wpAny_bind (wpAny_mono (hg _ s5 τ3 H5 x u _ I5' r5 (step x H5 y5)) (fun _ s6 ⟨τ6,H6,I6,q6⟩=>?_) fun _ _ z=>no z)
   refine wpAny_bind (wpAny_mono (ht _ s6 τ6 H6 _ I6 q6) (fun ok s7 ⟨H7,I7,q7⟩=>?_) fun _ _ z=>no z)
   cases ok with
   | false =>
     have q8:N ys τ6 H7:=by simpa using q7
     exact wpAny_pure ⟨rfl,again I7 q8⟩
   | true =>
     have q8:te τ6 H7 fun y H4=>H4 D=some (.lst ys)/\ys.length<sizeLine/\N (ys++[y]) τ6 (upd H4 D (.lst (ys++[y]))):=by simpa using q7
     refine wpAny_bind (wpAny_bind (wpAny_mono (he _ s7 τ6 H7 _ I7 q8) (fun y s8 ⟨v8,H8,I8,r8,hD,hl,n8⟩=>?_) fun _ _ z=>no z))
     refine wpAny_bind (wpAny_mono (B9 _ s8 τ6 H8 (.ref D) [v8] (.ref D) [y] (fun _ H9=>N (ys++[v8]) τ6 H9) I8 rfl (.cons r8 .nil) ⟨D,ys,v8,rfl,rfl,hD,hl,n8⟩) (fun _ s9 ⟨_,H9,I9,_,n9⟩=>?_) fun _ _ z=>no z)
     exact wpAny_pure (wpAny_pure ⟨rfl,again I9 n9⟩)
theorem Ob {Aa:List (Addr × Obj)}{σ:St}{H:Hp}{s:Shared}{J:It}{fp:List Addr}{it:Addr}{tn:Nat->Heap->Prop}{RR:Value->Addr->Result->Shared->Prop}{Q:Addr->Hp->Prop}{E:Value->Shared->Prop}
 (c:N0 X sc N' cap) (hc:X.calm=true) (hg:∀ C s₀ H₀ fp,PG (compCx X sc N' C s₀ H₀ fp) tg g) (ht:∀ C s₀ H₀ fp,PTs (compCx X sc N' C s₀ H₀ fp) ifs tc) (he:∀ C s₀ H₀ fp,PE (compCx X sc N' C s₀ H₀ fp) elt te)
 (I:Inv X Aa σ H s) (T:Turn X.prog X.w X.K tg J fp it tn) (st:tn 0 s.heap) (hf:∀ b∈fp,FpOk X Aa H b)
 (h:∀ D,H D=none->RunC J g tc te D (Q D) (capS cap σ) (upd H D (.lst [])))
 (hR:∀ D C s' H' m',H D=none->s.heap.objs.size<=C->s'.os=s.os->AllBare s'.gens->Un (frs X.stack) fp H H' s.heap s'.heap->HOk X.prog X.w H' s'.heap->s'.heap.Ns C m'->H' C=none->C ∉ fp->Q D H'->RR (.ref D) C (.ok .next) s') :
 wpAny (model X.prog X.w) X.A (newList []) (fun acc s₃=>wpAny (model X.prog X.w) X.A (newFunctionEnv sc X.env.globals (clOf X.env.cells sc.names []) [] X.env.qual none .none (some X.env)) (fun cenv s₄ =>
  codeAny (model X.prog X.w) X.A (.compStart (.ListComp elt [⟨tg,iter,ifs,0⟩] sc pos) 0 (.ref it) acc { cenv with scope:=relabel sc X.env }) (RR acc cenv.locals) s₄) E s₃) E s:=by
 have hb:∀ b∈fp,b<s.heap.objs.size:=fun b hb=>by
  obtain⟨o,e,_⟩:=T.obj _ _ st b hb
  exact Heap.lt_size e
 refine wpAny_newObj_type (wpAny_newFunctionEnv c.nocell (by intro y hy;simp at hy) (fun h₁ hns₁ hsb₁=>?_) c.kind)
 dsimp only at hns₁ hsb₁ ⊢
 generalize hH2:s.heap.push { cls:=.type "list",dict:=none,data:=.seq ([]:List Value).toArray }=H2 at hns₁ hsb₁ ⊢
 have hC:H2.objs.size=s.heap.objs.size+1:=by rw [←hH2,Heap.size_push]
 have hCl:s.heap.objs.size<=H2.objs.size:=by rw [hC];exact Nat.le_succ _
 have hCn:s.heap.objs.size≠H2.objs.size:=by rw [hC];exact (Nat.succ_ne_self _).symm
 have old:∀ b o,s.heap.get? b=some o->h₁.get? b=some o:=fun b o e=>by
  have l1:=Heap.lt_size e
  exact hsb₁.extBut b o (Nat.ne_of_lt (Nat.lt_of_lt_of_le l1 hCl)) (Heap.get?_push_of_some _ (hH2▸Heap.get?_push_of_some _ e))
 have hl:h₁.get? s.heap.objs.size=some { cls:=.type "list",data:=.seq #[] 0 }:=hsb₁.extBut _ _ hCn (Heap.get?_push_of_some _ (hH2▸Heap.get?_push_size _ rfl))
 have hns₂:h₁.Ns H2.objs.size fun _=>none:=by simpa using hns₁
 have I4:Inv (compCx X sc N' H2.objs.size s H fp) [] (capS cap σ) (upd H s.heap.objs.size (.lst [])) { s with heap:=h₁,toks:=s.toks+([]:List (Str × Value)).length }:=Xb c I hC rfl hf hb hns₂ hl old
 have hfr:H s.heap.objs.size=none:=I.fresh
 have f4:∀ b∈fp,FpOk (compCx X sc N' H2.objs.size s H fp) [] (upd H s.heap.objs.size (.lst [])) b:=fun b hb'=>by
  obtain⟨f0,f1,f2,f3,f4,f5⟩:=hf b hb'
  have lb:=hb b hb'
  refine⟨by rw [Ax (Nat.ne_of_lt lb)];exact f0,(Nat.ne_of_lt (Nat.lt_of_lt_of_le lb hCl):b≠H2.objs.size),fun z=>?_,.inl hb',fun x a e=>f4 x a (Ck (c.cells I.ok) (fun z=>by simp at z) e),fun p hp=>absurd hp (by simp [compCx])⟩
  rcases List.mem_cons.mp (I.stkSub b z) with e | e
  . exact f1 e
  . exact f2 e
 have st4:tn 0 h₁:=T.keep _ _ _ st fun b _ o e=>old b o e
 have loop:∀ s₅:Shared,s₅={ s with heap:=h₁,toks:=s.toks+([]:List (Str × Value)).length } →
  codeAny (model X.prog X.w) X.A (.compLoop (.ListComp elt [⟨tg,iter,ifs,0⟩] sc pos) 0 (.ref it) (.ref s.heap.objs.size) (compCx X sc N' H2.objs.size s H fp).env) (RR (.ref s.heap.objs.size) H2.objs.size) s₅:=by
  rintro s₅ rfl
  refine j5 (Y:=compCx X sc N' H2.objs.size s H fp) (J:=J) (fp:=fp) (tn:=tn) (Q:=Q s.heap.objs.size) rfl hc (hg _ _ _ _) (ht _ _ _ _) (he _ _ _ _) T st4 f4 I4 (h _ hfr) fun τ' H' s' I' q'=>?_
  obtain⟨m',hn',_⟩:=I'.loc
  exact hR _ _ s' H' m' hfr hCl I'.os I'.bare I'.base I'.hok hn' I'.free (fun z=>absurd (Nat.lt_of_lt_of_le (hb _ z) hCl) (Nat.lt_irrefl _)) q'
 exact codeAny_compStart_list (loop _ rfl) (T.self _ 0 _ _ _ st4 (loop _ rfl))
def Aa8 (wi:TI) (cap:List (Option Nat)) (g:TG) (tc:TT) (te:TE):TE:=fun σ H Q=>wi σ H fun J H1=>∀ D,H1 D=none->RunC J g tc te D (fun H'=>Q (.ref D) H') (capS cap σ) (upd H1 D (.lst []))
theorem Inv.fpCh {Aa:List (Addr × Obj)}{H:Hp}{fp:List Addr} (hf:∀ b∈fp,FpOk X Aa H b):∀ b∈fp,(b∈X.ex\/X.s₀.heap.objs.size<=b)/\b≠X.env.locals/\(∀ x c,X.env.cells.lookup x=some c->c≠b)/\∀ p∈X.pn++Aa,p.1≠b :=
 fun b hb=>let ⟨_,f1,_,f3,f4,f5⟩:=hf b hb;⟨f3,f1,f4,f5⟩
theorem Fa {wi:TI} (hc:X.calm=true) (hcap:capB X.env.scope X.N sc N' cap=true) (hi:PI X tg iter wi) (hg:∀ C s₀ H₀ fp,PG (compCx X sc N' C s₀ H₀ fp) tg g) (ht:∀ C s₀ H₀ fp,PTs (compCx X sc N' C s₀ H₀ fp) ifs tc)
 (he:∀ C s₀ H₀ fp,PE (compCx X sc N' C s₀ H₀ fp) elt te) (hs:∀ x,foldedSetIterable iter X.env x=pure x:=by intro _;rfl):PE X (.ListComp elt [⟨tg,iter,ifs,0⟩] sc pos) (Aa8 wi cap g tc te):=by
 intro Aa s σ H Q I h
 have c:N0 X sc N' cap:=Wl hcap
 rw [eval_ListComp]
 refine wpAny_comprehension_free (use:=none) rfl hs (Km (c.cells I.ok)) c.kind c.locals (thn (hi Aa s σ H _ I h) fun v s1 h1=>thn h1 fun itv s2 h2=>?_)
 obtain⟨it,fp,tn,J,H2,e,I2,T,st2,f2,hW⟩:=h2
 subst e
 refine Ob (RR:=fun acc C=>compPost (model X.prog X.w) X.A X.xe none (EP X Aa σ Q) acc C) (Q:=fun D H'=>Q (.ref D) H') c hc hg ht he I2 T st2 f2 hW ?_
 intro D C s' H' m' hD hC hos hbare hun hok hn hHC hCf q
 refine⟨m',hn,fun h' hsb=>?_⟩
 have I3:Inv X Aa σ H' s':=I2.call' hos hun hok hbare (Inv.fpCh f2)
 have f3:FpOk X Aa H' C:=I2.fpOk hC hHC
 obtain⟨_,k1,_,k3,k4,k5⟩:=f3
 have I4:Inv X Aa σ H' { s' with heap:=h' }:=I3.turned (t':=s'.toks) (fun b o hb e=>(hsb.2 b hb).trans e) hHC k1 k3 k4 k5
 exact ⟨.ref D,H',I4,rfl,q⟩
theorem Z0 {wi:TI}{i:Nat}{x:Str}{px spos:Pos} (hN:X.N.Nodup) (hi':X.N[i]?=some x) (hx:Loc X.env.scope x) (hc:X.calm=true) (hcap:capB X.env.scope X.N sc N' cap=true) (hi:PI X tg iter wi)
 (hg:∀ C s₀ H₀ fp,PG (compCx X sc N' C s₀ H₀ fp) tg g) (ht:∀ C s₀ H₀ fp,PTs (compCx X sc N' C s₀ H₀ fp) ifs tc) (he:∀ C s₀ H₀ fp,PE (compCx X sc N' C s₀ H₀ fp) elt te)
 (hsw:swapsWith (.ListComp elt [⟨tg,iter,ifs,0⟩] sc pos) (some (.Name x px)) spos.line X.env=pure true:=by rfl)
 (hs:∀ x,foldedSetIterable iter X.env x=pure x:=by intro _;rfl) (hf:X.fn x=true\/X.env.scope.names.lookup x=some .local:=by first | exact .inl rfl | exact .inr rfl | assumption) :
 PS X (.Assign [.Name x px] (.ListComp elt [⟨tg,iter,ifs,0⟩] sc pos) spos) (tAsg (Aa8 wi cap g tc te) (u9 i)):=by
 intro Aa s σ H D I h
 have c:N0 X sc N' cap:=Wl hcap
 rw [exec_Assign_Name_used _ _ _ _ hsw]
 refine wpAny_bind (wpAny_standAt (wpAny_bind ?_))
 show wpAny _ X.A (do let _ ←comprehension (.ListComp elt [⟨tg,iter,ifs,0⟩] sc pos) sc X.env _ (newList []) false (eval iter X.env) (some (assign (.Name x px) X.env))) _ _ s
 refine wpAny_bind (thn (wpAny_comprehension_free (use:=some (assign (.Name x px) X.env)) (Q:=fun _ s'=>SP X Aa D .next s') rfl hs (Km (c.cells I.ok)) c.kind c.locals
  (thn (hi Aa s σ H _ I h) fun v s1 h1=>thn h1 fun itv s2 h2=>?_)) fun _ s' hq=>wpAny_pure (wpAny_pure hq))
 obtain⟨it,fp,tn,J,H2,e,I2,T,st2,f2,hW⟩:=h2
 subst e
 refine Ob (RR:=fun acc C=>compPost (model X.prog X.w) X.A X.xe (some (assign (.Name x px) X.env)) (fun _ s'=>SP X Aa D .next s') acc C) (Q:=fun A H'=>u9 i (.ref A) σ H' D.nx) c hc hg ht he I2 T st2 f2 hW ?_
 intro A C s' H' m' hD hC hos hbare hun hok hn hHC hCf q
 have I3:Inv X Aa σ H' s':=I2.call' hos hun hok hbare (Inv.fpCh f2)
 have f3:FpOk X Aa H' C:=I2.fpOk hC hHC
 obtain⟨_,k1,_,k3,k4,k5⟩:=f3
 show wpAny _ X.A (assign (.Name x px) X.env (.ref A)) _ _ s'
 refine wpAny_assign_Name (Qp I3 hN hi' hx (v:=.ref A) rfl (fun s'' I'' ⟨a,hsb,ha⟩=>?_) hf)
 have hCa:C≠a:=by
  rcases ha with z | z
  . rw [z];exact k1
  . exact fun z'=>k4 x a z z'.symm
 refine⟨m',hn.sameBut hsb hCa,fun h' hsb'=>?_⟩
 have I4:Inv X Aa (σ.set i (some (.ref A))) H' { s'' with heap:=h' }:=I''.turned (t':=s''.toks) (fun b o hb e=>(hsb'.2 b hb).trans e) hHC k1 k3 k4 k5
 exact ⟨_,H',I4,q⟩
end
section
variable {g:TG}{tc:TT}{te:TE}{D:Addr}{Q:Hp->Prop}{τ:St}{H:Hp}
theorem j6 {K:W.Frag}{a:Addr}{xs:List V} (Pv:Nat->List V->St->Hp->Prop) (h0:Pv 0 [] τ H) (hl:∀ i ys τ H,i<=xs.length->Pv i ys τ H->SqL K H a xs)
 (hs:∀ i x ys τ H,xs[i]?=some x->Pv i ys τ H->g x τ H fun τ2 H2=>tc τ2 H2 fun b H3=>if b=true then te τ2 H3 fun y H4=>H4 D=some (.lst ys)/\ys.length<sizeLine/\Pv (i+1) (ys++[y]) τ2 (upd H4 D (.lst (ys++[y]))) else Pv (i+1) ys τ2 H3)
 (hd:∀ ys τ H,Pv xs.length ys τ H->Q H):RunC (Itl K a) g tc te D Q τ H:=by
 refine⟨fun i m ys τ H=>m=xs.length-i/\i<=xs.length/\Pv i ys τ H,⟨xs.length,by simp,Nat.zero_le _,h0⟩,?_⟩
 rintro i m ys τ H ⟨rfl,hi,p⟩
 have q:=hl i ys τ H hi p
 by_cases hlt:i<xs.length
 . refine .inr ⟨⟨xs,xs[i],q,by simp [hlt]⟩,Pv (i+1),fun ys' τ' H' p'=>⟨xs.length-(i+1),by omega,rfl,hlt,p'⟩,fun x H' y=>?_⟩
   obtain⟨e,y⟩:=y
   subst e
   exact hs i x ys τ _ (y xs q) p
 . have e:i=xs.length:=by omega
   subst e
   exact .inl ⟨⟨xs,q,Nat.le_refl _⟩,hd ys τ H p⟩
theorem w4 {K:W.Frag}{a:Addr}{xs:List V} (Pv:Nat->List V->St->Hp->Prop) (h0:Pv 0 [] τ H) (hl:∀ i ys τ H,i<=xs.length->Pv i ys τ H->SqT K H a xs)
 (hs:∀ i x ys τ H,xs[i]?=some x->Pv i ys τ H->g x τ H fun τ2 H2=>tc τ2 H2 fun b H3=>if b=true then te τ2 H3 fun y H4=>H4 D=some (.lst ys)/\ys.length<sizeLine/\Pv (i+1) (ys++[y]) τ2 (upd H4 D (.lst (ys++[y]))) else Pv (i+1) ys τ2 H3)
 (hd:∀ ys τ H,Pv xs.length ys τ H->Q H):RunC (Itt K a) g tc te D Q τ H:=by
 refine⟨fun i m ys τ H=>m=xs.length-i/\i<=xs.length/\Pv i ys τ H,⟨xs.length,by simp,Nat.zero_le _,h0⟩,?_⟩
 rintro i m ys τ H ⟨rfl,hi,p⟩
 have q:=hl i ys τ H hi p
 by_cases hlt:i<xs.length
 . refine .inr ⟨⟨xs,xs[i],q,by simp [hlt]⟩,Pv (i+1),fun ys' τ' H' p'=>⟨xs.length-(i+1),by omega,rfl,hlt,p'⟩,fun x H' y=>?_⟩
   obtain⟨e,y⟩:=y
   subst e
   exact hs i x ys τ _ (y xs q) p
 . have e:i=xs.length:=by omega
   subst e
   exact .inl ⟨⟨xs,q,Nat.le_refl _⟩,hd ys τ H p⟩
theorem Za {lo:Int}{n:Nat} (Pv:Nat->List V->St->Hp->Prop) (h0:Pv 0 [] τ H)
 (hs:∀ i ys τ H,i<n->Pv i ys τ H->g (.int (lo+i)) τ H fun τ2 H2=>tc τ2 H2 fun b H3=>if b=true then te τ2 H3 fun y H4=>H4 D=some (.lst ys)/\ys.length<sizeLine/\Pv (i+1) (ys++[y]) τ2 (upd H4 D (.lst (ys++[y]))) else Pv (i+1) ys τ2 H3)
 (hd:∀ ys τ H,Pv n ys τ H->Q H):RunC (Itr lo n) g tc te D Q τ H:=by
 refine⟨fun i m ys τ H=>m=n-i/\i<=n/\Pv i ys τ H,⟨n,by simp,Nat.zero_le _,h0⟩,?_⟩
 rintro i m ys τ H ⟨rfl,hi,p⟩
 by_cases hlt:i<n
 . refine .inr ⟨hlt,Pv (i+1),fun ys' τ' H' p'=>⟨n-(i+1),by omega,rfl,hlt,p'⟩,fun x H' y=>?_⟩
   obtain⟨e,y⟩:=y
   subst e y
   exact hs i ys τ _ hlt p
 . have e:i=n:=by omega
   subst e
   exact .inl ⟨Nat.le_refl _,hd ys τ H p⟩
end
end L2
namespace L2
open PySem PySem.Spec PyProof.Rows PySem.SeqAt
inductive D where
 | non | bl (b:Bool) | int (i:Int) | str (x:Str) | tup (ds:List D) | lst (ds:List D)
mutual
def Rep (K:W.Frag) (H:Hp):V->D->Prop
 | v,.non=>v=.non
 | v,.bl b=>v=.bl b
 | v,.int i=>v=.int i
 | v,.str x=>v=.str x
 | v,.tup ds=>∃ a vs,v=.ref a/\SqT K H a vs/\Reps K H vs ds
 | v,.lst ds=>∃ a vs,v=.ref a/\SqL K H a vs/\Reps K H vs ds
def Reps (K:W.Frag) (H:Hp):List V->List D->Prop
 | vs,[]=>vs=[]
 | vs,d::ds=>∃ v r,vs=v::r/\Rep K H v d/\Reps K H r ds
end
mutual
def imm:D->Bool
 | .lst _=>false
 | .tup ds=>imms ds
 | _=>true
def imms:List D->Bool
 | []=>true
 | d::ds=>imm d&&imms ds
end
mutual
def dep:D->Nat
 | .lst ds=>deps ds+1
 | .tup ds=>deps ds+1
 | _=>0
def deps:List D->Nat
 | []=>0
 | d::ds=>max (dep d) (deps ds)
end
mutual
def eqD:D->D->Bool
 | .non,.non=>true
 | .bl a,.bl b=>a==b
 | .bl a,.int b=>(if a then 1 else 0)==b
 | .int a,.bl b=>a==(if b then 1 else 0)
 | .int a,.int b=>a==b
 | .str a,.str b=>a==b
 | .tup a,.tup b=>eqDs a b
 | .lst a,.lst b=>eqDs a b
 | _,_=>false
def eqDs:List D->List D->Bool
 | [],[]=>true
 | a::r,b::q=>eqD a b&&eqDs r q
 | _,_=>false
end
mutual
theorem Iw (d:D):eqD d d=true:=by
 cases d with
 | non=>rfl
 | bl b=>simp [eqD]
 | int b=>simp [eqD]
 | str b=>simp [eqD]
 | tup ds=>simp only [eqD];exact eqDs_refl ds
 | lst ds=>simp only [eqD];exact eqDs_refl ds
theorem eqDs_refl (ds:List D):eqDs ds ds=true:=by
 cases ds with
 | nil=>rfl
 | cons d r=>simp only [eqDs,Bool.and_eq_true];exact ⟨Iw d,eqDs_refl r⟩
end
theorem eqDs_len:∀{a b:List D},eqDs a b=true->a.length=b.length
 | [],[],_=>rfl
 | [],_::_,h=>by simp [eqDs] at h
 | _::_,[],h=>by simp [eqDs] at h
 | x::a,y::b,h=>by
   simp only [eqDs,Bool.and_eq_true] at h
   rw [List.length_cons,List.length_cons,eqDs_len h.2]
theorem P6:∀ (a b:List D),a.length=b.length->eqDs a b=(List.range a.length).all fun j=>match a[j]?,b[j]? with | some x,some y=>eqD x y | _,_=>true
 | [],[],_=>by simp [eqDs]
 | [],_::_,h=>by simp at h
 | _::_,[],h=>by simp at h
 | x::a,y::b,h=>by
   have h':a.length=b.length:=by simpa using h
   rw [List.length_cons,List.range_succ_eq_map,List.all_cons,List.all_map]
   simp only [eqDs,P6 a b h']
   congr 1
structure Qk (H H':Hp):Prop where
 tup:∀ b xs,H b=some (.tup xs)->H' b=some (.tup xs)
 frz:∀ b o u,H b=some (.frz o u)->H' b=some (.frz o u)
section
variable {K:W.Frag}{H H' H1 H2:Hp}{a l p:Addr}{xs:List V}{o:HO}
theorem Same.t (x:Same H H'):Qk H H':=⟨fun b xs h=>x b _ h,fun b o u h=>x b _ h⟩
theorem Qk.lst (h:H l=some (.lst xs)):Qk H (upd H l o):=⟨fun b ys e=>by rw [Ax (b8 e h (by intro z;cases z))];exact e,fun b ob u e=>by rw [Ax (b8 e h (by intro z;cases z))];exact e⟩
theorem Same.new (h:H l=none):Same H (upd H l o):=fun b u e=>by rw [Ax (A8 e h)];exact e
theorem Same.turn (x:Same H H1) (h:H l=none):Same H (upd H1 l o):=fun b u e=>by rw [Ax (A8 e h)];exact x b u e
theorem SqT.t (x:Qk H H') (h:SqT K H a xs):SqT K H' a xs:=by
 rcases h with (h|⟨o,h⟩) | h
 . exact .inl (.inl (x.tup _ _ h))
 . exact .inl (.inr ⟨o,x.frz _ _ _ h⟩)
 . exact .inr h
theorem Same.seqT (x:Same H H') (h:SqT K H a xs):SqT K H' a xs:=h.t x.t
mutual
theorem Rep.t (x:Qk H H') {v:V}{d:D} (hi:imm d=true) (h:Rep K H v d):Rep K H' v d:=by
 cases d with
 | non=>exact h
 | bl b=>exact h
 | int i=>exact h
 | str x=>exact h
 | tup ds =>
   obtain⟨a,vs,e,q,r⟩:=h
   exact ⟨a,vs,e,q.t x,Reps.t x (by simpa [imm] using hi) r⟩
 | lst ds=>simp [imm] at hi
theorem Reps.t (x:Qk H H') {vs:List V}{ds:List D} (hi:imms ds=true) (h:Reps K H vs ds):Reps K H' vs ds:=by
 cases ds with
 | nil=>exact h
 | cons d r =>
   obtain⟨v,q,e,h1,h2⟩:=h
   simp only [imms,Bool.and_eq_true] at hi
   exact ⟨v,q,e,Rep.t x hi.1 h1,Reps.t x hi.2 h2⟩
end
mutual
theorem Rep.same (x:Same H H') {v:V}{d:D} (h:Rep K H v d):Rep K H' v d:=by
 cases d with
 | non=>exact h
 | bl b=>exact h
 | int i=>exact h
 | str x=>exact h
 | tup ds =>
   obtain⟨a,vs,e,q,r⟩:=h
   exact ⟨a,vs,e,x.seqT q,Reps.same x r⟩
 | lst ds =>
   obtain⟨a,vs,e,q,r⟩:=h
   exact ⟨a,vs,e,x.seq q,Reps.same x r⟩
theorem Reps.same (x:Same H H') {vs:List V}{ds:List D} (h:Reps K H vs ds):Reps K H' vs ds:=by
 cases ds with
 | nil=>exact h
 | cons d r =>
   obtain⟨v,q,e,h1,h2⟩:=h
   exact ⟨v,q,e,Rep.same x h1,Reps.same x h2⟩
end
theorem Reps.length:∀{vs:List V}{ds:List D},Reps K H vs ds->vs.length=ds.length
 | vs,[],h=>by cases (show vs=[] from h);rfl
 | vs,d::ds,h=>by
   obtain⟨v,r,rfl,_,h2⟩:=h
   rw [List.length_cons,List.length_cons,Reps.length h2]
theorem Reps.get:∀{vs:List V}{ds:List D}{i:Nat}{d:D},Reps K H vs ds->ds[i]?=some d->∃ v,vs[i]?=some v/\Rep K H v d
 | vs,[],i,d,h,e=>by simp at e
 | vs,d0::ds,0,d,h,e=>by
   obtain⟨v,r,rfl,h1,_⟩:=h
   simp only [List.getElem?_cons_zero,Option.some.injEq] at e
   subst e
   exact ⟨v,by simp,h1⟩
 | vs,d0::ds,i+1,d,h,e=>by
   obtain⟨v,r,rfl,_,h2⟩:=h
   obtain⟨u,e1,e2⟩:=Reps.get (i:=i) h2 (by simpa using e)
   exact ⟨u,by simpa using e1,e2⟩
theorem Reps.getV:∀{vs:List V}{ds:List D}{i:Nat}{v:V},Reps K H vs ds->vs[i]?=some v->∃ d,ds[i]?=some d/\Rep K H v d:=fun {vs ds i v} h e=>by
 have hl:=h.length
 have hi:i<vs.length:=(List.getElem?_eq_some_iff.mp e).1
 obtain⟨d,hd⟩:∃ d,ds[i]?=some d:=⟨ds[i]'(by omega),by simp<;>omega⟩
 obtain⟨u,e1,e2⟩:=h.get hd
 rw [e] at e1
 cases e1
 exact ⟨d,hd,e2⟩
theorem Reps.append:∀{vs ws:List V}{ds es:List D},Reps K H vs ds->Reps K H ws es->Reps K H (vs++ws) (ds++es)
 | vs,ws,[],es,h,h'=>by cases (show vs=[] from h);exact h'
 | vs,ws,d::ds,es,h,h'=>by
   obtain⟨v,r,rfl,h1,h2⟩:=h
   exact ⟨v,r++ws,rfl,h1,Reps.append h2 h'⟩
theorem Reps.one {v:V}{d:D} (h:Rep K H v d):Reps K H [v] [d]:=⟨v,[],rfl,h,rfl⟩
theorem Reps.snoc {vs:List V}{ds:List D}{v:V}{d:D} (h:Reps K H vs ds) (h':Rep K H v d):Reps K H (vs++[v]) (ds++[d]):=h.append (.one h')
theorem Reps.take:∀{vs:List V}{ds:List D} (n:Nat),Reps K H vs ds->Reps K H (vs.take n) (ds.take n)
 | vs,ds,0,h=>by simp [Reps]
 | vs,[],n+1,h=>by cases (show vs=[] from h);simp [Reps]
 | vs,d::ds,n+1,h=>by
   obtain⟨v,r,rfl,h1,h2⟩:=h
   exact ⟨v,r.take n,rfl,h1,Reps.take n h2⟩
def nums (ns:List Int):List D:=ns.map D.int
abbrev tI (ns:List Int):D:=.tup (nums ns)
theorem S7:∀ ns:List Int,imms (nums ns)=true
 | []=>rfl
 | n::ns=>by show (imm (.int n)&&imms (nums ns))=true;rw [S7 ns];rfl
theorem y9 (ns:List Int):imm (tI ns)=true:=S7 ns
theorem P3:∀ xs:List (List Int),imms (xs.map tI)=true
 | []=>rfl
 | x::xs=>by show (imm (tI x)&&imms (xs.map tI))=true;rw [P3 xs,y9];rfl
theorem Tc:∀ a b:List Int,eqDs (nums a) (nums b)=decide (a=b)
 | [],[]=>by simp [nums,eqDs]
 | [],_::_=>by simp [nums,eqDs]
 | _::_,[]=>by simp [nums,eqDs]
 | x::a,y::b=>by
   show (eqD (.int x) (.int y)&&eqDs (nums a) (nums b))=_
   rw [Tc a b]
   simp only [eqD]
   by_cases e:x=y
   . subst e;by_cases e2:a=b<;>simp [e2]
   . simp [e]
theorem z0 (a b:List Int):eqD (tI a) (tI b)=decide (a=b):=by simp only [eqD];exact Tc a b
theorem D1:∀{vs:List V}{ns:List Int},Reps K H vs (nums ns)↔vs=ns.map V.int
 | vs,[]=>Iff.rfl
 | vs,n::ns=>by
   constructor
   . rintro ⟨v,r,rfl,h1,h2⟩
     have h1':v=.int n:=h1
     rw [h1',D1.mp h2];rfl
   . rintro rfl
     exact ⟨.int n,ns.map V.int,rfl,rfl,D1.mpr rfl⟩
end
section
variable {X:Cx}{Aa:List (Addr × Obj)}{σ:St}{H:Hp}{s:Shared}
theorem a8 (I:Inv X Aa σ H s) {a:Addr}{xs ys:List V} (h:SqT X.K H a xs) (h':SqL X.K H a ys):False:=by
 obtain⟨its,r,⟨o,e,c,n,d⟩,_⟩:=I.tuple h
 obtain⟨its',r',⟨o',n',e',c',_,d'⟩,_⟩:=I.list h'
 rw [e] at e';cases e'
 rw [c] at c'
 have z:("tuple":String)="list":=by injection c'
 exact absurd z (by decide)
mutual
theorem Rep.inj (I:Inv X Aa σ H s) {v:V}{d e:D} (h:Rep X.K H v d) (h':Rep X.K H v e):d=e:=by
 cases d with
 | non=>cases (show v=.non from h);cases e<;>first | rfl | (exfalso;first | (cases (show V.non=_ from h')) | (obtain⟨_,_,z,_⟩:=h';cases z))
 | bl b=>cases (show v=.bl b from h);cases e<;>first | (cases (show V.bl b=_ from h');rfl) | (exfalso;first | (cases (show V.bl b=_ from h')) | (obtain⟨_,_,z,_⟩:=h';cases z))
 | int b=>cases (show v=.int b from h);cases e<;>first | (cases (show V.int b=_ from h');rfl) | (exfalso;first | (cases (show V.int b=_ from h')) | (obtain⟨_,_,z,_⟩:=h';cases z))
 | str b=>cases (show v=.str b from h);cases e<;>first | (cases (show V.str b=_ from h');rfl) | (exfalso;first | (cases (show V.str b=_ from h')) | (obtain⟨_,_,z,_⟩:=h';cases z))
 | tup ds =>
   obtain⟨a,vs,rfl,q,r⟩:=h
   cases e with
   | tup es =>
     obtain⟨b,ws,z,q',r'⟩:=h'
     cases z
     have e1:=I.tuple_inj q q'
     subst e1
     rw [Reps.inj I r r']
   | lst es =>
     obtain⟨b,ws,z,q',r'⟩:=h'
     cases z
     exact (a8 I q q').elim
   | non=>cases (show V.ref a=_ from h')
   | bl _=>cases (show V.ref a=_ from h')
   | int _=>cases (show V.ref a=_ from h')
   | str _=>cases (show V.ref a=_ from h')
 | lst ds =>
   obtain⟨a,vs,rfl,q,r⟩:=h
   cases e with
   | lst es =>
     obtain⟨b,ws,z,q',r'⟩:=h'
     cases z
     have e1:=I.list_inj q q'
     subst e1
     rw [Reps.inj I r r']
   | tup es =>
     obtain⟨b,ws,z,q',r'⟩:=h'
     cases z
     exact (a8 I q' q).elim
   | non=>cases (show V.ref a=_ from h')
   | bl _=>cases (show V.ref a=_ from h')
   | int _=>cases (show V.ref a=_ from h')
   | str _=>cases (show V.ref a=_ from h')
theorem Reps.inj (I:Inv X Aa σ H s) {vs:List V}{ds es:List D} (h:Reps X.K H vs ds) (h':Reps X.K H vs es):ds=es:=by
 cases ds with
 | nil =>
   cases (show vs=[] from h)
   cases es with
   | nil=>rfl
   | cons e es=>obtain⟨_,_,z,_⟩:=h';cases z
 | cons d ds =>
   obtain⟨v,r,rfl,h1,h2⟩:=h
   cases es with
   | nil=>cases (show v::r=[] from h')
   | cons e es =>
     obtain⟨v',r',z,h1',h2'⟩:=h'
     cases z
     rw [Rep.inj I h1 h1',Reps.inj I h2 h2']
end
def EqD (X:Cx) (H:Hp) (s:Shared) (d:D):Prop:=∀ (A:Around) (x y:V) (u v:Value) (e:D),A.units+dep d<cLine->Rep X.K H x d->Rep X.K H y e->RelV x u->RelV y v->RcAt A s u v (eqD d e)/\EqAt A s u v (eqD d e)
theorem x0 (I:Inv X Aa σ H s) {ds es:List D}{vs ws:List V}{us us':List Value}{A:Around} (hu:A.units+deps ds<cLine) (r:Reps X.K H vs ds) (r':Reps X.K H ws es) (rv:Vals vs us) (rv':Vals ws us')
 (ih:∀ d∈ds,EqD X H s d) (hdm:∀ d∈ds,dep d<=deps ds):∀ j (h1:j<us.toArray.size) (h2:j<us'.toArray.size),EqAt A s us.toArray[j] us'.toArray[j] (match ds[j]?,es[j]? with | some x,some y=>eqD x y | _,_=>true):=by
 intro j h1 h2
 have l1:=r.length
 have l2:=r'.length
 have l3:=rv.length
 have l4:=rv'.length
 have h1':j<us.length:=by simpa using h1
 have h2':j<us'.length:=by simpa using h2
 have e1:ds[j]?=some (ds[j]'(by omega)):=by simp<;>omega
 have e2:es[j]?=some (es[j]'(by omega)):=by simp<;>omega
 obtain⟨v,ev,rd⟩:=r.get e1
 obtain⟨w,ew,re⟩:=r'.get e2
 obtain⟨u,eu,ru⟩:=rv.get ev
 obtain⟨u',eu',ru'⟩:=rv'.get ew
 have f1:us.toArray[j]=u:=by
  have:us[j]?=some us[j]:=by simp
  rw [eu] at this
  have:=(Option.some.inj this).symm
  simpa using this
 have f2:us'.toArray[j]=u':=by
  have:us'[j]?=some us'[j]:=by simp
  rw [eu'] at this
  have:=(Option.some.inj this).symm
  simpa using this
 rw [f1,f2,e1,e2]
 have hm:ds[j]'(by omega)∈ds:=List.getElem_mem _
 exact (ih _ hm A v w u u' _ (by have:=hdm _ hm;omega) rd re ru ru').2
theorem P7:∀{ds:List D}{d:D},d∈ds->dep d<=deps ds
 | d0::ds,d,h=>by
   simp only [deps]
   rcases List.mem_cons.mp h with rfl | h
   . omega
   . have:=P7 h;omega
theorem Rc {a b:List D} (h:¬a.length=b.length):eqDs a b=false:=by
 cases q:eqDs a b with
 | false=>rfl
 | true=>exact absurd (eqDs_len q) h
mutual
theorem g9 (I:Inv X Aa σ H s) (d:D):EqD X H s d:=by
 intro A x y u v e hu hx hy rx ry
 cases d with
 | non =>
   cases (show x=.non from hx)
   cases (show u=Value.none from rx)
   cases e with
   | non=>cases (show y=.non from hy);cases (show v=Value.none from ry);exact ⟨.none_none,.same _⟩
   | bl b=>cases (show y=.bl b from hy);cases (show v=Value.bool b from ry);exact ⟨.none_bool b,.none_bool b⟩
   | int i=>cases (show y=.int i from hy);obtain⟨t,rfl⟩:=ry;exact ⟨.none_int i t,.none_int i t⟩
   | str z=>cases (show y=.str z from hy);obtain⟨t,rfl⟩:=ry;exact ⟨.none_str z t,.none_str z t⟩
   | tup es=>obtain⟨a,vs,rfl,q,r⟩:=hy;cases ry;obtain⟨its,_,p,_⟩:=I.tuple q;exact ⟨.none_tuple p (by omega),.none_tuple p (by omega)⟩
   | lst es=>obtain⟨a,vs,rfl,q,r⟩:=hy;cases ry;obtain⟨its,_,p,_⟩:=I.list q;exact ⟨.none_list p.isList (by omega),.none_list p.isList (by omega)⟩
 | bl c =>
   cases (show x=.bl c from hx)
   cases (show u=Value.bool c from rx)
   cases e with
   | non=>cases (show y=.non from hy);cases (show v=Value.none from ry);exact ⟨.bool_none c,.bool_none c⟩
   | bl b=>cases (show y=.bl b from hy);cases (show v=Value.bool b from ry);exact ⟨.bool_bool c b,.bool_bool c b⟩
   | int i=>cases (show y=.int i from hy);obtain⟨t,rfl⟩:=ry;exact ⟨.bool_int c i t,.bool_int c i t⟩
   | str z=>cases (show y=.str z from hy);obtain⟨t,rfl⟩:=ry;exact ⟨.bool_str c z t,.bool_str c z t⟩
   | tup es=>obtain⟨a,vs,rfl,q,r⟩:=hy;cases ry;obtain⟨its,_,p,_⟩:=I.tuple q;exact ⟨.bool_tuple c p (by omega),.bool_tuple c p (by omega)⟩
   | lst es=>obtain⟨a,vs,rfl,q,r⟩:=hy;cases ry;obtain⟨its,_,p,_⟩:=I.list q;exact ⟨.bool_list c p.isList (by omega),.bool_list c p.isList (by omega)⟩
 | int c =>
   cases (show x=.int c from hx)
   obtain⟨t,rfl⟩:=rx
   cases e with
   | non=>cases (show y=.non from hy);cases (show v=Value.none from ry);exact ⟨.int_none c t,.int_none c t⟩
   | bl b=>cases (show y=.bl b from hy);cases (show v=Value.bool b from ry);exact ⟨.int_bool c t b,.int_bool c t b⟩
   | int i=>cases (show y=.int i from hy);obtain⟨t',rfl⟩:=ry;exact ⟨.int_int c t i t',.int_int c t i t'⟩
   | str z=>cases (show y=.str z from hy);obtain⟨t',rfl⟩:=ry;exact ⟨.int_str c t z t',.int_str c t z t'⟩
   | tup es=>obtain⟨a,vs,rfl,q,r⟩:=hy;cases ry;obtain⟨its,_,p,_⟩:=I.tuple q;exact ⟨.int_tuple c t p (by omega),.int_tuple c t p (by omega)⟩
   | lst es=>obtain⟨a,vs,rfl,q,r⟩:=hy;cases ry;obtain⟨its,_,p,_⟩:=I.list q;exact ⟨.int_list c t p.isList (by omega),.int_list c t p.isList (by omega)⟩
 | str c =>
   cases (show x=.str c from hx)
   obtain⟨t,rfl⟩:=rx
   cases e with
   | non=>cases (show y=.non from hy);cases (show v=Value.none from ry);exact ⟨.str_none c t,.str_none c t⟩
   | bl b=>cases (show y=.bl b from hy);cases (show v=Value.bool b from ry);exact ⟨.str_bool c t b,.str_bool c t b⟩
   | int i=>cases (show y=.int i from hy);obtain⟨t',rfl⟩:=ry;exact ⟨.str_int c t i t',.str_int c t i t'⟩
   | str z=>cases (show y=.str z from hy);obtain⟨t',rfl⟩:=ry;exact ⟨.str_str c t z t',.str_str c t z t'⟩
   | tup es=>obtain⟨a,vs,rfl,q,r⟩:=hy;cases ry;obtain⟨its,_,p,_⟩:=I.tuple q;exact ⟨.str_tuple c t p (by omega),.str_tuple c t p (by omega)⟩
   | lst es=>obtain⟨a,vs,rfl,q,r⟩:=hy;cases ry;obtain⟨its,_,p,_⟩:=I.list q;exact ⟨.str_list c t p.isList (by omega),.str_list c t p.isList (by omega)⟩
 | tup ds =>
   have hx':=hx
   obtain⟨a,vs,rfl,q,r⟩:=hx
   cases rx
   obtain⟨its,rv,p,_⟩:=I.tuple q
   have hu':A.units+1+deps ds<cLine:=by simp only [dep] at hu;omega
   cases e with
   | non=>cases (show y=.non from hy);cases (show v=Value.none from ry);exact ⟨.tuple_none p (by omega),.tuple_none p (by omega)⟩
   | bl b=>cases (show y=.bl b from hy);cases (show v=Value.bool b from ry);exact ⟨.tuple_bool b p (by omega),.tuple_bool b p (by omega)⟩
   | int i=>cases (show y=.int i from hy);obtain⟨t',rfl⟩:=ry;exact ⟨.tuple_int i t' p (by omega),.tuple_int i t' p (by omega)⟩
   | str z=>cases (show y=.str z from hy);obtain⟨t',rfl⟩:=ry;exact ⟨.tuple_str z t' p (by omega),.tuple_str z t' p (by omega)⟩
   | lst es=>obtain⟨b,ws,rfl,q',r'⟩:=hy;cases ry;obtain⟨its',_,p',_⟩:=I.list q';exact ⟨.tuple_list p p'.isList (by omega),.tuple_list p p'.isList (by omega)⟩
   | tup es =>
     have hy':=hy
     obtain⟨b,ws,rfl,q',r'⟩:=hy
     cases ry
     obtain⟨its',rv',p',_⟩:=I.tuple q'
     have main:RcAt A s (.ref a) (.ref b) (eqD (.tup ds) (.tup es)):=by
      have:=RcAt.tuples (A:=A) p p' (by omega) (x0 I (A:=A.in1) (by show A.units+1+deps ds<cLine;omega) r r' rv rv' (eqDs_ok I ds) fun d h=>P7 h)
      have l1:=r.length
      have l2:=r'.length
      have l3:=rv.length
      have l4:=rv'.length
      have e1:its.toArray.size=ds.length:=by simp<;>omega
      have e2:its'.toArray.size=es.length:=by simp<;>omega
      rw [e1,e2] at this
      simp only [eqD]
      by_cases hl:ds.length=es.length
      . rw [P6 ds es hl]
        rw [←hl,Nat.min_self] at this
        simpa using this
      . rw [Rc hl]
        have z:(ds.length==es.length)=false:=by simpa using hl
        rw [z,Bool.and_false] at this
        exact this
     refine⟨main,?_⟩
     by_cases hab:a=b
     . subst hab
       have e3:D.tup ds=D.tup es:=Rep.inj I hx' hy'
       rw [e3,Iw]
       exact .same _
     . exact .of_refs hab main
 | lst ds =>
   have hx':=hx
   obtain⟨a,vs,rfl,q,r⟩:=hx
   cases rx
   obtain⟨its,rv,p,_⟩:=I.list q
   have hu':A.units+1+deps ds<cLine:=by simp only [dep] at hu;omega
   cases e with
   | non=>cases (show y=.non from hy);cases (show v=Value.none from ry);exact ⟨.list_none p.isList (by omega),.list_none p.isList (by omega)⟩
   | bl b=>cases (show y=.bl b from hy);cases (show v=Value.bool b from ry);exact ⟨.list_bool b p.isList (by omega),.list_bool b p.isList (by omega)⟩
   | int i=>cases (show y=.int i from hy);obtain⟨t',rfl⟩:=ry;exact ⟨.list_int i t' p.isList (by omega),.list_int i t' p.isList (by omega)⟩
   | str z=>cases (show y=.str z from hy);obtain⟨t',rfl⟩:=ry;exact ⟨.list_str z t' p.isList (by omega),.list_str z t' p.isList (by omega)⟩
   | tup es=>obtain⟨b,ws,rfl,q',r'⟩:=hy;cases ry;obtain⟨its',_,p',_⟩:=I.tuple q';exact ⟨.list_tuple p.isList p' (by omega),.list_tuple p.isList p' (by omega)⟩
   | lst es =>
     have hy':=hy
     obtain⟨b,ws,rfl,q',r'⟩:=hy
     cases ry
     obtain⟨its',rv',p',_⟩:=I.list q'
     have main:RcAt A s (.ref a) (.ref b) (eqD (.lst ds) (.lst es)):=by
      have l1:=r.length
      have l2:=r'.length
      have l3:=rv.length
      have l4:=rv'.length
      have e1:its.toArray.size=ds.length:=by simp<;>omega
      have e2:its'.toArray.size=es.length:=by simp<;>omega
      simp only [eqD]
      by_cases hl:ds.length=es.length
      . have:=RcAt.lists (A:=A) p.isList p'.isList (by omega) (by omega) (x0 I (A:=A.in1) (by show A.units+1+deps ds<cLine;omega) r r' rv rv' (eqDs_ok I ds) fun d h=>P7 h)
        rw [e1] at this
        rw [P6 ds es hl]
        exact this
      . rw [Rc hl]
        exact RcAt.lists_lengths p.isList p'.isList (by simpa [e1,e2] using hl) (by omega)
     refine⟨main,?_⟩
     by_cases hab:a=b
     . subst hab
       have e3:D.lst ds=D.lst es:=Rep.inj I hx' hy'
       rw [e3,Iw]
       exact .same _
     . exact .of_refs hab main
theorem eqDs_ok (I:Inv X Aa σ H s) (ds:List D):∀ d∈ds,EqD X H s d:=by
 cases ds with
 | nil=>exact fun _ h=>nomatch h
 | cons d0 r =>
   intro d h
   rcases List.mem_cons.mp h with e | h
   . exact e▸g9 I d0
   . exact eqDs_ok I r d h
end
def rEqD (K:W.Frag) (n:Nat):R2:=fun x y H Q=>∃ d e,Rep K H x d/\Rep K H y e/\dep d<=n/\Q (.bl (eqD d e)) H
theorem Aj9 {n:Nat} (hu:X.A.units+n<cLine):OpR X (compareOp .Eq) (rEqD X.K n):=by
 intro Aa s σ H x y v u Q I rx ry h
 obtain⟨d,e,hd,he,hn,q⟩:=h
 exact (g9 I d X.A x y v u e (by omega) hd he rx ry).1 X.prog X.w X.xe _ ⟨.bl (eqD d e),H,I,rfl,q⟩
end
end L2
namespace L2
open PySem PySem.Spec PyProof.Rows PySem.SeqAt
section
variable {X:Cx}
def eqF (X:Cx) (H:Hp) (d:D) (u:Value):Bool:=@decide (∃ v e,RelV v u/\Rep X.K H v e/\eqD e d=true) (Classical.propDecidable _)
theorem g8 {Aa:List (Addr × Obj)}{σ:St}{H:Hp}{s:Shared} (I:Inv X Aa σ H s) {d e:D}{v:V}{u:Value} (r:RelV v u) (h:Rep X.K H v e):eqF X H d u=eqD e d:=by
 cases q:eqD e d with
 | true=>exact @decide_eq_true _ (Classical.propDecidable _) ⟨v,e,r,h,q⟩
 | false =>
   refine @decide_eq_false _ (Classical.propDecidable _) ?_
   rintro ⟨v',e',r',h',q'⟩
   have:=r.inj r'
   subst this
   rw [Rep.inj I h h'] at q
   rw [q] at q'
   cases q'
theorem Tb {Aa:List (Addr × Obj)}{σ:St}{H:Hp}{s:Shared} (I:Inv X Aa σ H s) {A:Around}{x:V}{v:Value}{d:D}{vs:List V}{us:List Value}{ds:List D} (hu:A.units+deps ds<cLine) (hx:Rep X.K H x d) (rx:RelV x v)
 (r:Reps X.K H vs ds) (rv:Vals vs us):∀ y,y∈us.toArray->EqAt A s y v (eqF X H d y):=by
 intro y hy
 have hy':y∈us:=by simpa using hy
 obtain⟨i,hi⟩:=List.getElem?_of_mem hy'
 have hlt:i<us.length:=(List.getElem?_eq_some_iff.mp hi).1
 have l1:=rv.length
 obtain⟨w,hw⟩:∃ w,vs[i]?=some w:=⟨vs[i]'(by omega),by simp<;>omega⟩
 obtain⟨u,hu2,ru⟩:=rv.get hw
 rw [hi] at hu2
 cases hu2
 obtain⟨e,he,re⟩:=r.getV hw
 rw [g8 I ru re]
 have hm:e∈ds:=List.mem_of_getElem? he
 exact (g9 I e A w x y v d (by have:=P7 hm;omega) re hx ru rx).2
theorem Wn {Aa:List (Addr × Obj)}{σ:St}{H:Hp}{s:Shared} (I:Inv X Aa σ H s) {d:D}:∀{vs:List V}{us:List Value}{ds:List D},Reps X.K H vs ds->Vals vs us->us.any (eqF X H d)=ds.any fun e=>eqD e d
 | vs,us,[],r,rv=>by
   cases (show vs=[] from r)
   cases rv
   rfl
 | vs,us,e::ds,r,rv=>by
   obtain⟨v,q,rfl,h1,h2⟩:=r
   cases rv with
   | cons r1 r2=>rw [List.any_cons,List.any_cons,g8 I r1 h1,Wn I h2 r2]
def SeqD (K:W.Frag) (H:Hp) (y:V) (ds:List D):Prop:=Rep K H y (.lst ds)\/Rep K H y (.tup ds)
def rInD (K:W.Frag) (n:Nat) (neg:Bool):R2:=fun x y H Q=>∃ d ds,Rep K H x d/\SeqD K H y ds/\deps ds+1<=n/\Q (.bl (if neg then !(ds.any fun e=>eqD e d) else ds.any fun e=>eqD e d)) H
theorem Aj8 {n:Nat} (hu:X.A.units+n<cLine):OpR X (compareOp .In) (rInD X.K n false):=by
 intro Aa s σ H x y v u Q I rx ry h
 obtain⟨d,ds,hx,hs,hn,q⟩:=h
 have fin:∀{us:List Value}{vs:List V},Reps X.K H vs ds->Vals vs us->EP X Aa σ Q (.bool (us.toArray.any (eqF X H d))) s:=fun r rv =>
  ⟨.bl (ds.any fun e=>eqD e d),H,I,by show Value.bool _=Value.bool _;rw [List.any_toArray,Wn I r rv],q⟩
 rcases hs with ⟨a,vs,rfl,hq,r⟩|⟨a,vs,rfl,hq,r⟩
 . cases ry
   obtain⟨its,rv,p,_⟩:=I.list hq
   exact in_listAt (eqF X H d) p.isList (Tb I (A:=X.A.in1) (by show X.A.units+1+deps ds<cLine;omega) hx rx r rv) (fin r rv)
 . cases ry
   obtain⟨its,rv,p,_⟩:=I.tuple hq
   exact in_tupleAt (eqF X H d) p (Tb I (A:=X.A.in1) (by show X.A.units+1+deps ds<cLine;omega) hx rx r rv) (fin r rv)
theorem a5 {n:Nat} (hu:X.A.units+n<cLine):OpR X (compareOp .NotIn) (rInD X.K n true):=by
 intro Aa s σ H x y v u Q I rx ry h
 obtain⟨d,ds,hx,hs,hn,q⟩:=h
 have fin:∀{us:List Value}{vs:List V},Reps X.K H vs ds->Vals vs us->EP X Aa σ Q (.bool (!us.toArray.any (eqF X H d))) s:=fun r rv =>
  ⟨.bl (!(ds.any fun e=>eqD e d)),H,I,by show Value.bool _=Value.bool _;rw [List.any_toArray,Wn I r rv],q⟩
 rcases hs with ⟨a,vs,rfl,hq,r⟩|⟨a,vs,rfl,hq,r⟩
 . cases ry
   obtain⟨its,rv,p,_⟩:=I.list hq
   exact notIn_listAt (eqF X H d) p.isList (Tb I (A:=X.A.in1) (by show X.A.units+1+deps ds<cLine;omega) hx rx r rv) (fin r rv)
 . cases ry
   obtain⟨its,rv,p,_⟩:=I.tuple hq
   exact notIn_tupleAt (eqF X H d) p (Tb I (A:=X.A.in1) (by show X.A.units+1+deps ds<cLine;omega) hx rx r rv) (fin r rv)
def x5 (K:W.Frag) (n:Nat):V->List V->Hp->VK->Prop:=fun x vs H Q=>∃ ds y d j,vs=[y]/\Rep K H x (.lst ds)/\Rep K H y d/\deps ds+1<=n/\ds.findIdx? (fun e=>eqD e d)=some j/\Q (.int (j:Nat)) H
theorem t9 {n:Nat} (hu:X.A.units+n<cLine):MtR X "list.index" (x5 X.K n):=by
 intro Aa s σ H x vs v us Q I rx rv h
 obtain⟨ds,y,d,j,rfl,⟨a,ws,rfl,hq,r⟩,hy,hn,hj,q⟩:=h
 cases rx
 obtain⟨u,rfl,ru⟩:=rv.one
 obtain⟨its,rw',p,hz⟩:=I.list hq
 have l1:=r.length
 have l2:=rw'.length
 obtain⟨hlt,hit,hno⟩:=List.findIdx?_eq_some_iff_getElem.mp hj
 have at':∀ m (hm:m<its.toArray.size) (hm':m<ds.length),eqF X H d its.toArray[m]=eqD ds[m] d:=fun m hm hm'=>by
  obtain⟨w,hw,re⟩:=r.get (i:=m) (d:=ds[m]) (by simp)
  obtain⟨u',hu',ru'⟩:=rw'.get hw
  have e1:its.toArray[m]=u':=by
   have hm2:m<its.length:=by simpa using hm
   have:its[m]?=some its[m]:=by simp
   rw [hu'] at this
   have:=(Option.some.inj this).symm
   simpa using this
  rw [e1]
  exact g8 I ru' re
 obtain⟨o,k,ho,hc,hdn,hd⟩:=id p
 obtain⟨cls,dd,data,sl⟩:=o
 simp only at hc hdn hd
 subst hc hdn hd
 have hsz:ds.length<=sizeLine:=by omega
 have big:(sizeLine:Nat)<2 ^ 62:=by rw [sizeLine_eq];decide
 refine call_meets PySem.F.slot_list_index ⟨_,ho,rfl⟩ PySem.F.entry_list_index (PySem.F.args_list_index_2 _ _)
  (list_indexAt a its.toArray k none sl u (eqF X H d) j (by simp<;>omega) (by omega) ?_ ?_) ⟨ho,Tb I (A:=X.A.in1) (by show X.A.units+1+deps ds<cLine;omega) hy ru r rw',?_⟩
 . rw [at' j (by simp<;>omega) hlt];exact hit
 . intro m hm hmj
   rw [at' m hm (by omega)]
   have:=hno m hmj
   simpa using this
 . exact ⟨.int (j:Nat),H,I.tok _,⟨_,rfl⟩,q⟩
def isD (n:String):D->Bool
 | .non=>false
 | .bl _=>n=="int" || n=="bool"
 | .int _=>n=="int"
 | .str _=>n=="str"
 | .tup _=>n=="tuple"
 | .lst _=>n=="list"
def tyD:D->String
 | .non=>"NoneType"
 | .bl _=>"bool"
 | .int _=>"int"
 | .str _=>"str"
 | .tup _=>"tuple"
 | .lst _=>"list"
theorem y6 {K:W.Frag}{n:String}{d:D} (hn:n="int"\/n="bool"\/n="str"\/n="tuple"\/n="list"\/n="dict"):PySem.W.kitOne K (.type (tyD d)) (.type n)=some (isD n d):=by
 rcases hn with rfl | rfl | rfl | rfl | rfl | rfl<;>cases d<;>(unfold PySem.W.kitOne PySem.W.kitCls PySem.W.subIn tyD isD;first | rfl | decide +kernel)
theorem Ie:D9 X (.builtin "isinstance") (fun xs H Q=>∃ x n d,xs=[x,.ty n]/\(n="int"\/n="bool"\/n="str"\/n="tuple"\/n="list"\/n="dict")/\Rep X.K H x d/\Q (.bl (isD n d)) H):=by
 intro Aa s σ H xs us Q I r h
 obtain⟨x,n,d,rfl,hn,hx,q⟩:=h
 obtain⟨u,v,rfl,rx,rt⟩:=Up r
 cases rt
 have k:=y6 (K:=X.K) (d:=d) hn
 have fin:∀ tk,EP X Aa σ Q (.bool (isD n d)) { s with toks:=tk }:=fun tk=>⟨.bl (isD n d),H,I.tok tk,rfl,q⟩
 cases d with
 | non=>cases (show x=.non from hx);cases (show u=Value.none from rx);exact PySem.W.kia_one PySem.W.kitx_none I.kIn True.intro k (fun z=>nomatch z) fin
 | bl b=>cases (show x=.bl b from hx);cases (show u=Value.bool b from rx);exact PySem.W.kia_one PySem.W.kitx_bool I.kIn True.intro k (fun z=>nomatch z) fin
 | int b=>cases (show x=.int b from hx);obtain⟨t,rfl⟩:=rx;exact PySem.W.kia_one PySem.W.kitx_int I.kIn True.intro k (fun z=>nomatch z) fin
 | str b=>cases (show x=.str b from hx);obtain⟨t,rfl⟩:=rx;exact PySem.W.kia_one PySem.W.kitx_str I.kIn True.intro k (fun z=>nomatch z) fin
 | tup ds =>
   obtain⟨a,vs,rfl,hq,_⟩:=hx
   cases rx
   obtain⟨its,_,⟨o,e,c,_⟩,_⟩:=I.tuple hq
   exact PySem.W.kia_one PySem.W.kitx_tuple I.kIn ⟨o,e,c⟩ k (fun z=>nomatch z) fin
 | lst ds =>
   obtain⟨a,vs,rfl,hq,_⟩:=hx
   cases rx
   obtain⟨its,_,⟨o,_,e,c,_⟩,_⟩:=I.list hq
   exact PySem.W.kia_one PySem.W.kitx_list I.kIn ⟨o,e,c⟩ k (fun z=>nomatch z) fin
def Ai7 (K:W.Frag):R2:=fun x y H Q=>∃ a b xs ys,x=.ref a/\y=.ref b/\SqT K H a xs/\SqT K H b ys/\xs.length+ys.length<=sizeLine/\∀ p H',Same H H'->SqT K H' p (xs++ys)->Q (.ref p) H'
theorem Ad5:OpR X (binaryOp .Add) (Ai7 X.K):=by
 intro Aa s σ H x y v u Q I rx ry h
 obtain⟨a,b,xs,ys,rfl,rfl,ha,hb,hz,q⟩:=h
 by_cases hx:xs=[]
 . subst hx
   cases rx
   cases ry
   obtain⟨its,r1,p1,_⟩:=I.tuple ha
   obtain⟨its2,r2,p2,_⟩:=I.tuple hb
   cases r1
   obtain⟨⟨cls,dd,data,sl⟩,ho,hc,n,hd⟩:=id p1
   obtain⟨⟨cls2,dd2,data2,sl2⟩,ho2,hc2,n2,hd2⟩:=id p2
   simp only at hc hd hc2 hd2
   subst hc hd hc2 hd2
   exact concat_meets ⟨_,ho,rfl⟩ ⟨_,ho2,rfl⟩ noFill_tuple_add seq_tuple_add PySem.F.slot_tuple_add PySem.F.entry_tuple_add (PySem.F.args_tuple_add_2 _ _)
    (tuple_addW0 a b _ _ n n2 dd dd2 sl sl2 (by simp)) ⟨ho,ho2,⟨.ref b,H,I,rfl,q b H (Same.refl H) (by simpa using hb)⟩⟩
 . refine Ad6 Aa s σ H (.ref a) (.ref b) v u Q I rx ry ⟨a,b,xs,ys,rfl,rfl,ha,hb,hx,hz,fun e=>?_,fun e p hp=>?_⟩
   . subst e;exact q a H (Same.refl H) (by simpa using ha)
   . exact q p _ (Same.new hp) (.of Ae)
def Ai5 (K:W.Frag):V->Option Int->Option Int->Hp->VK->Prop:=fun x lo hi H Q=>∃ a xs,x=.ref a/\SqT K H a xs ∧
 ¬(HT.sIx xs.length 0 lo=0/\HT.sIx xs.length xs.length hi=xs.length)/\∀ p H',Same H H'->SqT K H' p (cutV xs lo hi)->Q (.ref p) H'
theorem Ab0:SlR X (Ai5 X.K):=by
 intro Aa s σ H x v vl vu lo hi sl Q I rx hs pl pu h
 obtain⟨a,xs,rfl,hx,hw,q⟩:=h
 exact w9 Aa s σ H (.ref a) v vl vu lo hi sl Q I rx hs pl pu ⟨a,xs,rfl,hx,hw,fun p hp=>q p _ (Same.new hp) (.of Ae)⟩
def x6 (K:W.Frag):R2:=fun x y H Q=>∃ l b xs zs,x=.ref l/\y=.ref b/\SqL K H l xs/\SqL K H b zs/\xs.length+zs.length<=sizeLine/\∀ p,H p=none->Q (.ref p) (upd H p (.lst (xs++zs)))
theorem r9:OpR X (binaryOp .Add) (x6 X.K):=by
 intro Aa s σ H x y v u Q I rx ry h
 obtain⟨l,b,xs,zs,rfl,rfl,hl,hb,hz,q⟩:=h
 cases rx
 cases ry
 obtain⟨its,r1,p1,_⟩:=I.list hl
 obtain⟨its2,r2,p2,_⟩:=I.list hb
 obtain⟨⟨cls,dd,data,sl⟩,n,ho,hc,hdd,hd⟩:=id p1
 obtain⟨⟨cls2,dd2,data2,sl2⟩,n2,ho2,hc2,hdd2,hd2⟩:=id p2
 simp only at hc hd hc2 hd2
 subst hc hd hc2 hd2
 refine concat_meets ⟨_,ho,rfl⟩ ⟨_,ho2,rfl⟩ noFill_list_add seq_list_add PySem.F.slot_list_add PySem.F.entry_list_add (PySem.F.args_list_add_2 _ _)
  (list_addW l b its.toArray its2.toArray n n2 dd dd2 sl sl2 (by rw [List.size_toArray,List.size_toArray,←r1.length,←r2.length];exact hz)) ⟨ho,ho2,?_⟩
 rw [show its.toArray++its2.toArray=(its++its2).toArray by simp]
 exact ⟨.ref s.heap.objs.size,_,I.lnew (t':=s.toks) (r1.append r2) (by rw [List.length_append];exact hz),rfl,q _ I.fresh⟩
theorem k9 (hc:X.calm=true):D9 X (.builtin "all") (fun xs H Q=>∃ (p:Addr) (bs:List Bool),xs=[.ref p]/\SqL X.K H p (bs.map V.bl)/\Q (.bl (bs.all id)) H):=by
 intro Aa s σ H xs us Q I r h
 obtain⟨p,bs,rfl,hq,q⟩:=h
 obtain⟨u,rfl,ru⟩:=Uq r
 cases ru
 obtain⟨its,rv,pl,hz⟩:=I.list hq
 have hh:X.A.handled=none:=I.ok.hd hc
 have rel:∀ (i:Nat) (v:Value),its.toArray[i]?=some v->∃ b,bs[i]?=some b/\v=.bool b:=fun i v e=>by
  have e':its[i]?=some v:=by simpa using e
  have hlt:i<its.length:=(List.getElem?_eq_some_iff.mp e').1
  have l1:=rv.length
  rw [List.length_map] at l1
  have hb:bs[i]?=some (bs[i]'(by omega)):=by simp<;>omega
  obtain⟨u,hu,ru⟩:=rv.get (i:=i) (x:=V.bl (bs[i]'(by omega))) (by rw [List.getElem?_map,hb];rfl)
  rw [e'] at hu
  cases hu
  exact ⟨_,hb,ru⟩
 refine call_all_walk (wpAny_pyIter_list pl.isList ?_)
 refine⟨s.heap.objs.size,[s.heap.objs.size,p],[s.heap.objs.size],its.toArray.size,_,_,fun i=>(bs[i]?).getD true,rfl,Walks.list (show X.A.in1.handled=none from hh) s.heap.objs.size p ?_ its.toArray,⟨⟨_,Heap.get?_push_size _ rfl,rfl,rfl⟩,?_⟩,?_,fun h' tk k=>?_⟩
 . obtain⟨o,_,ho,_⟩:=pl
   exact Nat.ne_of_lt (Heap.lt_size ho)
 . exact pl.isList.at fun o e=>Heap.get?_push_of_some _ e
 . intro i v s' Q' E' hv hQ
   obtain⟨b,hb,rfl⟩:=rel i v hv
   dsimp only at hQ
   rw [hb] at hQ
   exact wpAny_truthy_bool hQ
 . have e:(List.range its.toArray.size).all (fun i=>(bs[i]?).getD true)=bs.all id:=by
    have l1:=rv.length
    rw [List.length_map] at l1
    rw [List.size_toArray,←l1]
    rw [Bool.eq_iff_iff,List.all_eq_true,List.all_eq_true]
    constructor
    . intro hx b hb
      obtain⟨i,hi⟩:=List.getElem?_of_mem hb
      have:=hx i (List.mem_range.mpr (List.getElem?_eq_some_iff.mp hi).1)
      rw [hi] at this
      exact this
    . intro hx i hi
      have hlt:=List.mem_range.mp hi
      have hb:bs[i]?=some bs[i]:=by simp
      rw [hb]
      exact hx _ (List.getElem_mem _)
   rw [e]
   have I1:Inv X Aa σ H { s with heap:=h',toks:=tk }:=I.kept (fun b o e=>k b o (by simp;exact Nat.ne_of_lt (Heap.lt_size e)) (Heap.get?_push_of_some _ e))
   exact ⟨.bl (bs.all id),H,I1,rfl,q⟩
end
structure Has (P:Program) (w:World) (K:W.Frag) (mg:Str->Option Value) (base:Heap) (x:Str) (ps:List Str) (k:Nat) (sp:Sp):Prop where
 ex:∃ (f:Addr) (fd:FuncData),mg x=some (.ref f)/\PySem.W.keepIn K (.ref f)=true/\Na K fd ps []/\FnOk P w K mg base CX0 k f fd ps sp
section
variable {X:Cx}{x:Str}{ps:List Str}{j k:Nat}{sp:Sp}{p pos:Pos}{e:Expr}{es:List Expr}{t:TA}
theorem Aw (h:Has X.prog X.w X.K X.mg X.base x ps j sp) (hr:Room k X.A) (hg:Gl X x) (ha:PA X (e::es) t) (hk:j<=k:=by decide) (hdb:(x==("__debug__":Str))=false:=by decide)
 (he:starEach (e::es) X.env=(false,eval e X.env)::starEach es X.env:=by rfl) (hpl:(backTo pos (starEach es X.env)).any (·.1)=false:=by rfl):PE X (.Call (.Name x p) (e::es) [] pos) (tCall sp [] E0 t):=by
 obtain⟨f,fd,h1,h2,h3,h4⟩:=h.ex
 exact Ad0 h4 (hr.mono hk) hg h1 h2 h3 .nil Ao3 ha hdb he hpl
end
theorem boot_intT:bootBuiltins "int"=some (.type "int"):=by decide +kernel
theorem Oh:bootBuiltins "bool"=some (.type "bool"):=by decide +kernel
theorem T2:bootBuiltins "str"=some (.type "str"):=by decide +kernel
theorem C9:bootBuiltins "tuple"=some (.type "tuple"):=by decide +kernel
theorem Ko:bootBuiltins "list"=some (.type "list"):=by decide +kernel
theorem T3:bootBuiltins "max"=some (.builtin "max"):=by decide +kernel
theorem Mu:bootBuiltins "all"=some (.builtin "all"):=by decide +kernel
theorem Aq:bootBuiltins "isinstance"=some (.builtin "isinstance"):=by decide +kernel
end L2
namespace L2
open PySem PySem.Spec PyProof.Rows
section
variable {X:Cx}{K:W.Frag}{tg l:Expr}{tl:TE}{n:Nat}
theorem Le (hK:X.K=K:=by rfl):OpR X (binaryOp .Add) (Ai7 K):=by subst hK;exact Ad5
theorem L5 (hK:X.K=K:=by rfl):OpR X (binaryOp .Add) (x6 K):=by subst hK;exact r9
theorem Gi (hK:X.K=K:=by rfl):SlR X (Ai5 K):=by subst hK;exact Ab0
theorem Ed (hK:X.K=K:=by rfl):SlR X (rSlL K):=by subst hK;exact Ab3
theorem Bs (hK:X.K=K:=by rfl):IxR X (rIxL K):=by subst hK;exact Ae9
theorem Cl (hK:X.K=K:=by rfl):IxR X (rIxT K):=by subst hK;exact Al4
theorem Ar (hK:X.K=K:=by rfl):D9 X (.builtin "len") (fun xs H Q=>∃ p ys,xs=[.ref p]/\(SqL K H p ys\/SqT K H p ys)/\Q (.int ys.length) H):=by subst hK;exact T1
theorem Iu (hK:X.K=K:=by rfl):D9 X (.type "list") (fun xs H Q=>∃ p ys,xs=[.ref p]/\(SqL K H p ys\/SqT K H p ys)/\∀ l,H l=none->Q (.ref l) (upd H l (.lst ys))):=by subst hK;exact T0
theorem Ei (hK:X.K=K:=by rfl):D9 X (.type "tuple") (fun xs H Q=>∃ p ys,xs=[.ref p]/\((SqL K H p ys/\∀ l,H l=none->Q (.ref l) (upd H l (.tup ys)))\/(SqT K H p ys/\Q (.ref p) H))):=by subst hK;exact Qf
theorem Ca (hK:X.K=K:=by rfl):D9 X (.builtin "isinstance") (fun xs H Q=>∃ x n d,xs=[x,.ty n]/\(n="int"\/n="bool"\/n="str"\/n="tuple"\/n="list"\/n="dict")/\Rep K H x d/\Q (.bl (isD n d)) H):=by subst hK;exact Ie
theorem J4 (hc:X.calm=true) (hK:X.K=K:=by rfl):D9 X (.builtin "all") (fun xs H Q=>∃ (p:Addr) (bs:List Bool),xs=[.ref p]/\SqL K H p (bs.map V.bl)/\Q (.bl (bs.all id)) H):=by subst hK;exact k9 hc
theorem c7 (hu:X.A.units+n<cLine) (hK:X.K=K:=by rfl):OpR X (compareOp .In) (rInD K n false):=by subst hK;exact Aj8 hu
theorem Dt (hu:X.A.units+n<cLine) (hK:X.K=K:=by rfl):OpR X (compareOp .NotIn) (rInD K n true):=by subst hK;exact a5 hu
theorem c8 (hu:X.A.units+n<cLine) (hK:X.K=K:=by rfl):OpR X (compareOp .Eq) (rEqD K n):=by subst hK;exact Aj9 hu
theorem Sq (hu:X.A.units+n<cLine) (hK:X.K=K:=by rfl):MtR X "list.index" (x5 K n):=by subst hK;exact t9 hu
theorem Br (hl:PE X l tl) (hK:X.K=K:=by rfl):PI X tg l (Al6 K tl):=by subst hK;exact Ac5 hl
theorem L4 (hl:PE X l tl) (hK:X.K=K:=by rfl):PI X tg l (iTup K tl):=by subst hK;exact Aj1 hl
variable {o e:Expr}{es:List Expr}{to:TE}{t:TA}{name:Str}{apos cpos:Pos}{T id:String}{r:V->List V->Hp->VK->Prop}
theorem Cz (pa:PlainAttrs T) (slot:Slot T name id) (hty:typeOf (.builtin id)=pure (.type "method_descriptor")) (hm:MtR X id r) (ho:PE X o to) (ha:PA X (e::es) t) (hK:X.K=K:=by rfl)
 (hbase:attributeBase o name X.env (eval o X.env)=eval o X.env:=by rfl)
 (hfew:((backTo cpos (starEach (e::es) X.env)).all (fun x=>!x.1)&&(backToKw cpos (keywordEach [] X.env)).all (fun x=>x.1.isSome)
   && decide ((e::es).length+([]:List Keyword).length+(if ([]:List Keyword).isEmpty then 0 else 1)<30))=true:=by rfl)
 (hline:(apos.endLine==cpos.line)=true:=by rfl) (hs:starEach (e::es) X.env=(false,eval e X.env)::starEach es X.env:=by rfl) (hplain:(backTo cpos (starEach es X.env)).any (·.1)=false:=by rfl) :
 PE X (.Call (.Attribute o name apos) (e::es) [] cpos) (tBM K T r to t):=by subst hK;exact Ao2 pa slot hty hm ho ha hbase hfew hline hs hplain
theorem c6 {es:List Expr}{k:Nat}{t:TGs}{n:Nat}{pos:Pos} (hc:X.calm=true) (h:PGs X es t) (hK:X.K=K:=by rfl)
 (hn:(assignEach es X.env).length=n:=by rfl) (hst:(assignEach es X.env).findIdx? (·.1)=none:=by rfl):PG X (.Tuple es k pos) (gTup K n t):=by subst hK;exact Aj2 hc h hn hst
end
end L2
namespace Hb
def An (w:List Int) (fam:Int):List (List Int) :=
 if fam=0 then (if w.length<2 then [] else (List.range w.length).map fun i=>w.take i++w.drop (i+1))
 else if w.length=0 then []
 else if fam<0 then (if w.length=1 then [[],[]] else w.map fun l=>[l])
 else w.drop 1::((List.range (w.length-1)).map fun i=>w.take i++[(w.getD i 0+w.getD (i+1) 0)%fam]++w.drop (i+2))++[w.take (w.length-1)]
def Word (fam:Int) (w:List Int):Prop :=
 (fam=0/\1<=w.length/\w.length<=4)\/(fam<0/\(w.length=0\/w.length=1\/w.length=3))\/(0<fam/\w.length<=3)
def lv (fam:Int) (w:List Int):Nat:=if fam=0 then w.length-1 else if fam<0 then (if w.length=3 then 2 else w.length) else w.length
theorem Jf {fam:Int}{w:List Int} (h:Word fam w) :
 (fam=0/\((∃ a,w=[a])\/(∃ a b,w=[a,b])\/(∃ a b c,w=[a,b,c])\/∃ a b c d,w=[a,b,c,d])) ∨
 (fam<0/\(w=[]\/(∃ a,w=[a])\/∃ a b c,w=[a,b,c])) ∨
 (0<fam/\(w=[]\/(∃ a,w=[a])\/(∃ a b,w=[a,b])\/∃ a b c,w=[a,b,c])):=by
 rcases h with ⟨h0,h1,h2⟩|⟨h0,h1⟩|⟨h0,h1⟩
 . left
   refine⟨h0,?_⟩
   match w,h1,h2 with
   | [a],_,_=>exact .inl ⟨a,rfl⟩
   | [a,b],_,_=>exact .inr (.inl ⟨a,b,rfl⟩)
   | [a,b,c],_,_=>exact .inr (.inr (.inl ⟨a,b,c,rfl⟩))
   | [a,b,c,d],_,_=>exact .inr (.inr (.inr ⟨a,b,c,d,rfl⟩))
   | _::_::_::_::_::_,_,h=>simp at h
 . right;left
   refine⟨h0,?_⟩
   match w,h1 with
   | [],_=>exact .inl rfl
   | [a],_=>exact .inr (.inl ⟨a,rfl⟩)
   | [a,b],h=>simp at h
   | [a,b,c],_=>exact .inr (.inr ⟨a,b,c,rfl⟩)
   | _::_::_::_::_,h=>simp at h
 . right;right
   refine⟨h0,?_⟩
   match w,h1 with
   | [],_=>exact .inl rfl
   | [a],_=>exact .inr (.inl ⟨a,rfl⟩)
   | [a,b],_=>exact .inr (.inr (.inl ⟨a,b,rfl⟩))
   | [a,b,c],_=>exact .inr (.inr (.inr ⟨a,b,c,rfl⟩))
   | _::_::_::_::_,h=>simp at h
theorem f0_1 (a:Int):An [a] 0=[]:=rfl
theorem f0_2 (a b:Int):An [a,b] 0=[[b],[a]]:=rfl
theorem f0_3 (a b c:Int):An [a,b,c] 0=[[b,c],[a,c],[a,b]]:=rfl
theorem f0_4 (a b c d:Int):An [a,b,c,d] 0=[[b,c,d],[a,c,d],[a,b,d],[a,b,c]]:=rfl
section
variable {fam:Int}
theorem fn_0 (h:fam<0):An [] fam=[]:=by unfold An;rw [if_neg (by omega),if_pos (by simp)]
theorem fn_1 (h:fam<0) (a:Int):An [a] fam=[[],[]]:=by unfold An;rw [if_neg (by omega),if_neg (by simp),if_pos h,if_pos (by simp)]
theorem fn_3 (h:fam<0) (a b c:Int):An [a,b,c] fam=[[a],[b],[c]]:=by unfold An;rw [if_neg (by omega),if_neg (by simp),if_pos h,if_neg (by simp)];rfl
theorem fp_0 (h:0<fam):An [] fam=[]:=by unfold An;rw [if_neg (by omega),if_pos (by simp)]
theorem fp_1 (h:0<fam) (a:Int):An [a] fam=[[],[]]:=by unfold An;rw [if_neg (by omega),if_neg (by simp),if_neg (by omega)];rfl
theorem fp_2 (h:0<fam) (a b:Int):An [a,b] fam=[[b],[(a+b)%fam],[a]]:=by unfold An;rw [if_neg (by omega),if_neg (by simp),if_neg (by omega)];rfl
theorem fp_3 (h:0<fam) (a b c:Int):An [a,b,c] fam=[[b,c],[(a+b)%fam,c],[a,(b+c)%fam],[a,b]]:=by unfold An;rw [if_neg (by omega),if_neg (by simp),if_neg (by omega)];rfl
theorem Gk {w f:List Int} (h:Word fam w) (hf:f∈An w fam):Word fam f/\lv fam f+1=lv fam w:=by
 rcases Jf h with ⟨h0,⟨a,rfl⟩|⟨a,b,rfl⟩|⟨a,b,c,rfl⟩|⟨a,b,c,d,rfl⟩⟩|⟨h0,rfl|⟨a,rfl⟩|⟨a,b,c,rfl⟩⟩|⟨h0,rfl|⟨a,rfl⟩|⟨a,b,rfl⟩|⟨a,b,c,rfl⟩⟩
 . subst h0;rw [f0_1] at hf;exact nomatch hf
 . subst h0;rw [f0_2] at hf
   simp only [List.mem_cons,List.not_mem_nil,or_false] at hf
   rcases hf with rfl | rfl<;>simp [Word,lv]
 . subst h0;rw [f0_3] at hf
   simp only [List.mem_cons,List.not_mem_nil,or_false] at hf
   rcases hf with rfl | rfl | rfl<;>simp [Word,lv]
 . subst h0;rw [f0_4] at hf
   simp only [List.mem_cons,List.not_mem_nil,or_false] at hf
   rcases hf with rfl | rfl | rfl | rfl<;>simp [Word,lv]
 . rw [fn_0 h0] at hf;exact nomatch hf
 . rw [fn_1 h0] at hf
   simp only [List.mem_cons,List.not_mem_nil,or_false,or_self] at hf
   subst hf
   have e:¬fam=0:=by omega
   simp [Word,lv,h0,e]
 . rw [fn_3 h0] at hf
   have e:¬fam=0:=by omega
   simp only [List.mem_cons,List.not_mem_nil,or_false] at hf
   rcases hf with rfl | rfl | rfl<;>simp [Word,lv,h0,e]
 . rw [fp_0 h0] at hf;exact nomatch hf
 . rw [fp_1 h0] at hf
   have e:¬fam=0:=by omega
   have e':¬fam<0:=by omega
   simp only [List.mem_cons,List.not_mem_nil,or_false,or_self] at hf
   subst hf
   simp [Word,lv,h0,e,e']
 . rw [fp_2 h0] at hf
   have e:¬fam=0:=by omega
   have e':¬fam<0:=by omega
   simp only [List.mem_cons,List.not_mem_nil,or_false] at hf
   rcases hf with rfl | rfl | rfl<;>simp [Word,lv,h0,e,e']
 . rw [fp_3 h0] at hf
   have e:¬fam=0:=by omega
   have e':¬fam<0:=by omega
   simp only [List.mem_cons,List.not_mem_nil,or_false] at hf
   rcases hf with rfl | rfl | rfl | rfl<;>simp [Word,lv,h0,e,e']
theorem Ew {w:List Int} (h:Word fam w):(An w fam).length=(if lv fam w=0 then 0 else lv fam w+1)/\lv fam w<=3:=by
 rcases Jf h with ⟨h0,⟨a,rfl⟩|⟨a,b,rfl⟩|⟨a,b,c,rfl⟩|⟨a,b,c,d,rfl⟩⟩|⟨h0,rfl|⟨a,rfl⟩|⟨a,b,c,rfl⟩⟩|⟨h0,rfl|⟨a,rfl⟩|⟨a,b,rfl⟩|⟨a,b,c,rfl⟩⟩
 . subst h0;simp [f0_1,lv]
 . subst h0;simp [f0_2,lv]
 . subst h0;simp [f0_3,lv]
 . subst h0;simp [f0_4,lv]
 all_goals have e:¬fam=0:=by omega
 . simp [fn_0 h0,lv,e,h0]
 . simp [fn_1 h0,lv,e,h0]
 . simp [fn_3 h0,lv,e,h0]
 all_goals have e':¬fam<0:=by omega
 . simp [fp_0 h0,lv,e,e']
 . simp [fp_1 h0,lv,e,e']
 . simp [fp_2 h0,lv,e,e']
 . simp [fp_3 h0,lv,e,e']
theorem faces_agree {w f g:List Int}{i j:Nat} (h:Word fam w) (hl:2<=lv fam w) (hij:i<j) (hf:(An w fam)[j]?=some f) (hg:(An w fam)[i]?=some g):(An f fam)[i]?=(An g fam)[j-1]?:=by
 have hj:j<(An w fam).length:=(List.getElem?_eq_some_iff.mp hf).1
 rcases Jf h with ⟨h0,⟨a,rfl⟩|⟨a,b,rfl⟩|⟨a,b,c,rfl⟩|⟨a,b,c,d,rfl⟩⟩|⟨h0,rfl|⟨a,rfl⟩|⟨a,b,c,rfl⟩⟩|⟨h0,rfl|⟨a,rfl⟩|⟨a,b,rfl⟩|⟨a,b,c,rfl⟩⟩
 . subst h0;simp [lv] at hl
 . subst h0;simp [lv] at hl
 . subst h0
   rw [f0_3] at hf hg hj
   have hc:(i=0/\j=1)\/(i=0/\j=2)\/(i=1/\j=2):=by simp at hj;omega
   rcases hc with ⟨rfl,rfl⟩|⟨rfl,rfl⟩|⟨rfl,rfl⟩
   . simp at hf hg;subst hf hg;rfl
   . simp at hf hg;subst hf hg;rfl
   . simp at hf hg;subst hf hg;rfl
 . subst h0
   rw [f0_4] at hf hg hj
   have hc:(i=0/\j=1)\/(i=0/\j=2)\/(i=0/\j=3)\/(i=1/\j=2)\/(i=1/\j=3)\/(i=2/\j=3):=by simp at hj;omega
   rcases hc with ⟨rfl,rfl⟩|⟨rfl,rfl⟩|⟨rfl,rfl⟩|⟨rfl,rfl⟩|⟨rfl,rfl⟩|⟨rfl,rfl⟩
   . simp at hf hg;subst hf hg;rfl
   . simp at hf hg;subst hf hg;rfl
   . simp at hf hg;subst hf hg;rfl
   . simp at hf hg;subst hf hg;rfl
   . simp at hf hg;subst hf hg;rfl
   . simp at hf hg;subst hf hg;rfl
 all_goals have e:¬fam=0:=by omega
 . simp [lv,e,h0] at hl
 . simp [lv,e,h0] at hl
 . rw [fn_3 h0] at hf hg hj
   have hc:(i=0/\j=1)\/(i=0/\j=2)\/(i=1/\j=2):=by simp at hj;omega
   rcases hc with ⟨rfl,rfl⟩|⟨rfl,rfl⟩|⟨rfl,rfl⟩
   . simp at hf hg;subst hf hg;simp [fn_1 h0]
   . simp at hf hg;subst hf hg;simp [fn_1 h0]
   . simp at hf hg;subst hf hg;simp [fn_1 h0]
 all_goals have e':¬fam<0:=by omega
 . simp [lv,e,e'] at hl
 . simp [lv,e,e'] at hl
 . rw [fp_2 h0] at hf hg hj
   have hc:(i=0/\j=1)\/(i=0/\j=2)\/(i=1/\j=2):=by simp at hj;omega
   rcases hc with ⟨rfl,rfl⟩|⟨rfl,rfl⟩|⟨rfl,rfl⟩
   . simp at hf hg;subst hf hg;simp [fp_1 h0]
   . simp at hf hg;subst hf hg;simp [fp_1 h0]
   . simp at hf hg;subst hf hg;simp [fp_1 h0]
 . rw [fp_3 h0] at hf hg hj
   have hc:(i=0/\j=1)\/(i=0/\j=2)\/(i=0/\j=3)\/(i=1/\j=2)\/(i=1/\j=3)\/(i=2/\j=3):=by simp at hj;omega
   rcases hc with ⟨rfl,rfl⟩|⟨rfl,rfl⟩|⟨rfl,rfl⟩|⟨rfl,rfl⟩|⟨rfl,rfl⟩|⟨rfl,rfl⟩
   . simp at hf hg;subst hf hg;simp [fp_2 h0]
   . simp at hf hg;subst hf hg;simp [fp_2 h0]
   . simp at hf hg;subst hf hg;simp [fp_2 h0]
   . skip
     simp at hf hg;subst hf hg
     simp only [fp_2 h0,List.getElem?_cons_succ,List.getElem?_cons_zero,Nat.add_one_sub_one]
     congr 2
     rw [Int.add_emod_emod,Int.emod_add_emod,Int.add_assoc]
   . simp at hf hg;subst hf hg;simp [fp_2 h0]
   . simp at hf hg;subst hf hg;simp [fp_2 h0]
end
def lev (p:List Int):Nat:=p.length-1
structure Fits (xs:List (List Int)) (p:List Int):Prop where
 cnt:p.length=0\/p.length=2\/p.length=3\/p.length=4
 low:∀ f∈p,0<=f
 bel:∀ f∈p,∃ q,xs[f.toNat]?=some q/\lev q+1=lev p
 agr:3<=p.length->∀ (i j:Nat) (f g:Int) (q r:List Int),i<j->p[j]?=some f->p[i]?=some g->xs[f.toNat]?=some q->xs[g.toNat]?=some r->q[i]?=r[j-1]?
def Gg (xs:List (List Int)):Prop:=∀ (k:Nat) (p:List Int),xs[k]?=some p->Fits (xs.take k) p
def Ord (fam:Int) (ws:List (List Int)):Prop:=∀ (k:Nat) (w:List Int),ws[k]?=some w->Word fam w/\∀ f∈An w fam,f∈ws.take k
theorem Ord.nil {fam:Int}:Ord fam []:=fun k w h=>by simp at h
theorem Ord.snoc {fam:Int}{ws:List (List Int)}{w:List Int} (h:Ord fam ws) (hw:Word fam w) (hf:∀ f∈An w fam,f∈ws):Ord fam (ws++[w]):=by
 intro k v hk
 by_cases hlt:k<ws.length
 . rw [List.getElem?_append_left hlt] at hk
   rw [List.take_append_of_le_length (by omega)]
   exact h k v hk
 . have hk':k<(ws++[w]).length:=(List.getElem?_eq_some_iff.mp hk).1
   have e:k=ws.length:=by simp at hk';omega
   subst e
   simp at hk
   subst hk
   rw [List.take_append_of_le_length (Nat.le_refl _),List.take_length]
   exact ⟨hw,hf⟩
theorem Ord.mem {fam:Int}{ws:List (List Int)} (h:Ord fam ws) {w:List Int} (hw:w∈ws):Word fam w/\∀ f∈An w fam,f∈ws:=by
 obtain⟨k,hk⟩:=List.getElem?_of_mem hw
 obtain⟨h1,h2⟩:=h k w hk
 exact ⟨h1,fun f hf=>List.mem_of_mem_take (h2 f hf)⟩
def Cw (ws:List (List Int)):List (List Int)->List (List Int)
 | []=>ws
 | w::r=>Cw (if w∈ws then ws else ws++[w]) r
theorem Oo:∀ (rows ws:List (List Int)),(Cw ws rows).length<=ws.length+rows.length
 | [],ws=>by simp [Cw]
 | w::r,ws=>by
   have h1:=Oo r (if w∈ws then ws else ws++[w])
   have h2:(if w∈ws then ws else ws++[w]).length<=ws.length+1:=by
    split
    . omega
    . simp
   simp only [Cw,List.length_cons]
   omega
theorem On {fam:Int}:∀ (rows ws:List (List Int)),Ord fam ws->(∀ (k:Nat) (w:List Int),rows[k]?=some w->Word fam w/\∀ f∈An w fam,f∈ws\/f∈rows.take k)->Ord fam (Cw ws rows)
 | [],ws,h,_=>h
 | w::r,ws,h,hr=>by
   have h0:=hr 0 w rfl
   have hw:∀ f∈An w fam,f∈ws:=fun f hf=>(h0.2 f hf).resolve_right (by simp)
   simp only [Cw]
   refine On r _ ?_ fun k v hk=>?_
   . split
     . exact h
     . exact h.snoc h0.1 hw
   . obtain⟨h1,h2⟩:=hr (k+1) v (by simpa using hk)
     refine⟨h1,fun f hf=>?_⟩
     rcases h2 f hf with z | z
     . left
       split
       . exact z
       . exact List.mem_append_left _ z
     . rw [List.take_succ_cons] at z
       rcases List.mem_cons.mp z with z | z
       . left
         subst z
         split
         . assumption
         . simp
       . exact .inr z
def Bx (ws:List (List Int)):List (List Int)->List (List Int)->List (List Int)
 | acc,[]=>acc
 | acc,f::r=>Bx ws (if f ∉ ws/\f ∉ acc then acc++[f] else acc) r
theorem Ol {ws:List (List Int)}{x:List Int}:∀ (fs acc:List (List Int)),x∈Bx ws acc fs->x∈acc\/x∈fs
 | [],acc,h=>.inl h
 | f::r,acc,h=>by
   rcases Ol r _ h with z | z
   . split at z
     . rcases List.mem_append.mp z with z | z
       . exact .inl z
       . exact .inr (by simp at z;simp [z])
     . exact .inl z
   . exact .inr (List.mem_cons_of_mem _ z)
theorem Ih {ws:List (List Int)}{x:List Int}:∀ (fs acc:List (List Int)),x∈acc->x∈Bx ws acc fs
 | [],acc,h=>h
 | f::r,acc,h=>Ih r _ (by split;exact List.mem_append_left _ h;exact h)
theorem Om {ws:List (List Int)}{x:List Int}:∀ (fs acc:List (List Int)),x∈fs->x∈ws\/x∈Bx ws acc fs
 | f::r,acc,h=>by
   rcases List.mem_cons.mp h with e | e
   . subst e
     by_cases h1:x∈ws
     . exact .inl h1
     . right
       refine Ih r _ ?_
       by_cases h2:x∈acc
       . rw [if_neg (by simp [h2])];exact h2
       . rw [if_pos ⟨h1,h2⟩];simp
   . exact Om r _ e
theorem Ks {ws:List (List Int)}:∀ (fs acc:List (List Int)),(Bx ws acc fs).length<=acc.length+fs.length
 | [],acc=>by simp [Bx]
 | f::r,acc=>by
   have h1:=Ks (ws:=ws) r (if f ∉ ws/\f ∉ acc then acc++[f] else acc)
   have h2:(if f ∉ ws/\f ∉ acc then acc++[f] else acc).length<=acc.length+1:=by
    split
    . simp
    . omega
   simp only [Bx,List.length_cons]
   omega
def Da (ws:List (List Int)) (fam:Int):List (List Int)->List (List Int)->List (List Int)
 | acc,[]=>acc
 | acc,w::r=>Da ws fam (Bx ws acc (An w fam)) r
theorem Jc {ws:List (List Int)}{fam:Int}{x:List Int}:∀ (l acc:List (List Int)),x∈Da ws fam acc l->x∈acc\/∃ w∈l,x∈An w fam
 | [],acc,h=>.inl h
 | w::r,acc,h=>by
   rcases Jc r _ h with z|⟨v,hv,z⟩
   . rcases Ol _ _ z with z | z
     . exact .inl z
     . exact .inr ⟨w,List.mem_cons_self,z⟩
   . exact .inr ⟨v,List.mem_cons_of_mem _ hv,z⟩
theorem Oj {ws:List (List Int)}{fam:Int}{x:List Int}:∀ (l acc:List (List Int)),x∈acc->x∈Da ws fam acc l
 | [],acc,h=>h
 | w::r,acc,h=>Oj r _ (Ih _ _ h)
theorem T8 {ws:List (List Int)}{fam:Int}{x w:List Int}:∀ (l acc:List (List Int)),w∈l->x∈An w fam->x∈ws\/x∈Da ws fam acc l
 | v::r,acc,h,hx=>by
   rcases List.mem_cons.mp h with e | e
   . subst e
     rcases Om (ws:=ws) _ acc hx with z | z
     . exact .inl z
     . exact .inr (Oj r _ z)
   . exact T8 r _ e hx
theorem Gf {ws:List (List Int)}{fam:Int}:∀ (l acc:List (List Int)),(∀ w∈l,Word fam w)->(Da ws fam acc l).length<=acc.length+4*l.length
 | [],acc,_=>by simp [Da]
 | w::r,acc,h=>by
   have h1:=Gf (ws:=ws) r (Bx ws acc (An w fam)) fun v hv=>h v (List.mem_cons_of_mem _ hv)
   have h2:=Ks (ws:=ws) (An w fam) acc
   have h3:=Ew (h w List.mem_cons_self)
   simp only [Da,List.length_cons]
   split at h3<;>omega
theorem My (ws:List (List Int)) (f:List Int):∀ (fs acc:List (List Int)),Bx ws acc (fs++[f])=(if f ∉ ws/\f ∉ Bx ws acc fs then Bx ws acc fs++[f] else Bx ws acc fs)
 | [],acc=>rfl
 | g::fs,acc=>My ws f fs _
theorem Oi (ws:List (List Int)) (fam:Int) (w:List Int):∀ (l acc:List (List Int)),Da ws fam acc (l++[w])=Bx ws (Da ws fam acc l) (An w fam)
 | [],acc=>rfl
 | v::l,acc=>Oi ws fam w l _
theorem Mz (w:List Int):∀ (rows ws:List (List Int)),Cw ws (rows++[w])=(if w∈Cw ws rows then Cw ws rows else Cw ws rows++[w])
 | [],ws=>rfl
 | v::rows,ws=>Mz w rows _
def Ir (ws:List (List Int)) (fam:Int):Nat->List (List Int)->List (List Int)->List (List Int)
 | 0,layer,rows=>rows
 | n+1,layer,rows=>Ir ws fam n (Da ws fam [] layer) (layer++rows)
theorem So {ws:List (List Int)}{fam:Int}:∀ (n:Nat) (layer rows:List (List Int)),(∀ w∈layer,Word fam w/\lv fam w<n) →
 (∀ (k:Nat) (w:List Int),rows[k]?=some w->Word fam w/\∀ f∈An w fam,f∈ws\/f∈layer\/f∈rows.take k) →
 ∀ (k:Nat) (w:List Int),(Ir ws fam n layer rows)[k]?=some w->Word fam w/\∀ f∈An w fam,f∈ws\/f∈(Ir ws fam n layer rows).take k
 | 0,layer,rows,hl,hr,k,w,hk=>by
   obtain⟨h1,h2⟩:=hr k w hk
   refine⟨h1,fun f hf=>?_⟩
   rcases h2 f hf with z | z | z
   . exact .inl z
   . exact absurd (hl f z).2 (by omega)
   . exact .inr z
 | n+1,layer,rows,hl,hr,k,w,hk=>by
   refine So n _ _ ?_ ?_ k w hk
   . intro v hv
     rcases Jc _ _ hv with z|⟨u,hu,z⟩
     . exact nomatch z
     . obtain⟨q1,q2⟩:=hl u hu
       obtain⟨q3,q4⟩:=Gk q1 z
       exact ⟨q3,by omega⟩
   . intro m v hm
     by_cases hlt:m<layer.length
     . rw [List.getElem?_append_left hlt] at hm
       have hv:v∈layer:=List.mem_of_getElem? hm
       refine⟨(hl v hv).1,fun f hf=>?_⟩
       rcases T8 (ws:=ws) layer [] hv hf with z | z
       . exact .inl z
       . exact .inr (.inl z)
     . rw [List.getElem?_append_right (by omega)] at hm
       obtain⟨h1,h2⟩:=hr _ v hm
       refine⟨h1,fun f hf=>?_⟩
       rcases h2 f hf with z | z | z
       . exact .inl z
       . right;right
         rw [List.take_append]
         refine List.mem_append_left _ ?_
         rw [List.take_of_length_le (by omega)]
         exact z
       . right;right
         rw [List.take_append]
         exact List.mem_append_right _ z
def Ii (ws:List (List Int)) (w:List Int) (fam:Int):List (List Int):=Cw ws (Ir ws fam 4 [w] [])
theorem Ou {ws:List (List Int)}{w:List Int}{fam:Int} (h:Ord fam ws) (hw:Word fam w):Ord fam (Ii ws w fam):=by
 refine On _ _ h (So 4 [w] [] ?_ ?_)
 . intro v hv
   have e:v=w:=by simpa using hv
   subst e
   exact ⟨hw,by have:=(Ew hw).2;omega⟩
 . intro k v hk
   simp at hk
def idx (ws:List (List Int)) (f:List Int):Nat:=ws.findIdx (·==f)
theorem Af3 {ws:List (List Int)}{f:List Int} (h:f∈ws):ws[idx ws f]?=some f:=by
 unfold idx
 have hl:ws.findIdx (·==f)<ws.length:=List.findIdx_lt_length_of_exists ⟨f,h,by simp⟩
 rw [List.getElem?_eq_getElem hl]
 have:=List.findIdx_getElem (xs:=ws) (p:=(·==f)) (w:=hl)
 simpa using this
theorem Al5 {ws:List (List Int)}{f:List Int}{k:Nat} (h:f∈ws.take k):idx ws f<k:=by
 unfold idx
 obtain⟨i,hi⟩:=List.getElem?_of_mem h
 have hlt:i<(ws.take k).length:=(List.getElem?_eq_some_iff.mp hi).1
 rw [List.getElem?_take] at hi
 split at hi
 . rename_i hik
   have hl:i<ws.length:=(List.getElem?_eq_some_iff.mp hi).1
   have e:ws[i]=f:=by
    rw [List.getElem?_eq_getElem hl] at hi
    exact Option.some.inj hi
   have hle:ws.findIdx (·==f)<=i:=by
    apply Nat.le_of_not_lt
    intro hgt
    have:=List.not_of_lt_findIdx hgt
    simp [e] at this
   omega
 . cases hi
def Hj (ws:List (List Int)) (fam:Int):List (List Int):=ws.map fun w=>(An w fam).map fun f=>(idx ws f:Int)
theorem U1 {ws:List (List Int)}{fam:Int}{k:Nat}{w:List Int} (h:ws[k]?=some w):(Hj ws fam)[k]?=some ((An w fam).map fun f=>(idx ws f:Int)):=by
 unfold Hj
 rw [List.getElem?_map,h]
 rfl
theorem Pb {ws:List (List Int)}{fam:Int} (h:Ord fam ws):Gg (Hj ws fam):=by
 intro k p hp
 unfold Hj at hp
 rw [List.getElem?_map] at hp
 cases hw:ws[k]? with
 | none=>rw [hw] at hp;cases hp
 | some w =>
   rw [hw] at hp
   have hp':(An w fam).map (fun f=>(idx ws f:Int))=p:=by simpa using hp
   subst hp'
   obtain⟨h1,h2⟩:=h k w hw
   obtain⟨n1,n2⟩:=Ew h1
   have look:∀ f∈An w fam,((Hj ws fam).take k)[((idx ws f:Nat):Int).toNat]?=some ((An f fam).map fun g=>(idx ws g:Int)):=fun f hf=>by
    have hm:=h2 f hf
    have hlt:=Al5 hm
    rw [Int.toNat_natCast,List.getElem?_take,if_pos hlt]
    exact U1 (Af3 (List.mem_of_mem_take hm))
   refine⟨?_,?_,?_,?_⟩
   . rw [List.length_map]
     by_cases hz:lv fam w=0
     . rw [if_pos hz] at n1;omega
     . rw [if_neg hz] at n1;omega
   . intro f hf
     obtain⟨g,_,rfl⟩:=List.mem_map.mp hf
     omega
   . intro f hf
     obtain⟨g,hg,rfl⟩:=List.mem_map.mp hf
     refine⟨_,look g hg,?_⟩
     obtain⟨w1,l1⟩:=Gk h1 hg
     obtain⟨m1,_⟩:=Ew w1
     unfold lev
     rw [List.length_map,List.length_map]
     have hz:¬lv fam w=0:=by omega
     rw [if_neg hz] at n1
     by_cases hy:lv fam g=0
     . rw [if_pos hy] at m1;omega
     . rw [if_neg hy] at m1;omega
   . intro hl i j f g q r hij hf hg hq hr
     rw [List.length_map] at hl
     rw [List.getElem?_map] at hf hg
     cases ef:(An w fam)[j]? with
     | none=>rw [ef] at hf;cases hf
     | some F =>
       cases eg:(An w fam)[i]? with
       | none=>rw [eg] at hg;cases hg
       | some G =>
         rw [ef] at hf
         rw [eg] at hg
         have ef':((idx ws F:Nat):Int)=f:=by simpa using hf
         have eg':((idx ws G:Nat):Int)=g:=by simpa using hg
         subst ef' eg'
         rw [look F (List.mem_of_getElem? ef)] at hq
         rw [look G (List.mem_of_getElem? eg)] at hr
         cases hq
         cases hr
         have hz:¬lv fam w=0:=by intro z;rw [if_pos z] at n1;omega
         rw [if_neg hz] at n1
         rw [List.getElem?_map,List.getElem?_map,faces_agree h1 (by omega) hij ef eg]
theorem Yn {ws:List (List Int)}{fam:Int}{w:List Int} (hw:Word fam w):(Ir ws fam 4 [w] []).length<=85:=by
 have step:∀ l:List (List Int),(∀ v∈l,Word fam v)->(Da ws fam [] l).length<=4*l.length/\∀ v∈Da ws fam [] l,Word fam v:=fun l hl=>by
  refine⟨by have:=Gf (ws:=ws) l [] hl;simpa using this,fun v hv=>?_⟩
  rcases Jc _ _ hv with z|⟨u,hu,z⟩
  . exact nomatch z
  . exact (Gk (hl u hu) z).1
 have s0:∀ v∈[w],Word fam v:=fun v hv=>by
  have e:v=w:=by simpa using hv
  subst e;exact hw
 obtain⟨a1,b1⟩:=step _ s0
 obtain⟨a2,b2⟩:=step _ b1
 obtain⟨a3,b3⟩:=step _ b2
 simp only [Ir,List.length_append,List.length_nil,List.length_cons] at a1 a2 a3 ⊢
 omega
end Hb
namespace Hb
def pc (xs:List (List Int)) (p:Int):List Int:=xs.getD p.toNat []
section
variable {xs:List (List Int)}
end
end Hb
namespace Hb
open PySem L2
def Ee (ns:List Int) (k:Int):Int:=ns.getD k.toNat 0
abbrev LT (K:W.Frag) (H:Hp) (v:V) (xs:List (List Int)):Prop:=Rep K H v (.lst (xs.map tI))
abbrev TI (K:W.Frag) (H:Hp) (v:V) (ns:List Int):Prop:=Rep K H v (tI ns)
section
variable {K:W.Frag}{H H':Hp}
theorem TI.sq {v:V}{ns:List Int} (h:TI K H v ns):∃ a,v=.ref a/\SqT K H a (ns.map V.int):=by
 obtain⟨a,vs,e,q,r⟩:=h
 rw [D1.mp r] at q
 exact ⟨a,e,q⟩
theorem TI.mk {a:Addr}{ns:List Int} (h:SqT K H a (ns.map V.int)):TI K H (.ref a) ns:=⟨a,_,rfl,h,D1.mpr rfl⟩
theorem TI.same {v:V}{ns:List Int} (s:Same H H') (h:TI K H v ns):TI K H' v ns:=Rep.same s h
theorem TI.t {v:V}{ns:List Int} (s:Qk H H') (h:TI K H v ns):TI K H' v ns:=Rep.t s (y9 ns) h
theorem Fl (xs:List V) (k:Nat):cutV xs none (some (k:Int))=xs.take k:=by
 unfold cutV
 rw [HT.sIx_none,HT.sIx_nat,Nat.sub_zero,List.drop_zero,List.take_eq_take_iff]
 omega
theorem Lh (xs:List V) (k:Nat):cutV xs (some (k:Int)) none=xs.drop k:=by
 unfold cutV
 rw [HT.sIx_none,HT.sIx_nat]
 by_cases h:k<=xs.length
 . rw [Nat.min_eq_left h,List.take_of_length_le (by rw [List.length_drop];omega)]
 . rw [Nat.min_eq_right (by omega),List.drop_length,List.drop_of_length_le (by omega)]
   simp
theorem Zz {D:Addr}{ys:List V}{v:V}{d:L2.D}{ds:List L2.D} (hD:H D=some (.lst ys)) (r:Reps K H ys ds) (rv:Rep K H v d) (hi:imms (ds++[d])=true):Reps K (upd H D (.lst (ys++[v]))) (ys++[v]) (ds++[d]) :=
 (r.snoc rv).t (Qk.lst hD) hi
theorem Hk {D:Addr}{ys:List V}{v:V}{xs:List (List Int)}{x:List Int} (hD:H D=some (.lst ys)) (r:Reps K H ys (xs.map tI)) (rv:TI K H v x):Reps K (upd H D (.lst (ys++[v]))) (ys++[v]) ((xs++[x]).map tI):=by
 have e:(xs++[x]).map tI=xs.map tI++[tI x]:=by simp
 have h:=P3 (xs++[x])
 rw [e] at h ⊢
 exact Zz hD r rv h
def M0 (B:Addr) (H H':Hp):Prop:=∀ b o,b≠B->H b=some o->H' b=some o
theorem M0.refl (B:Addr) (H:Hp):M0 B H H:=fun _ _ _ h=>h
theorem M0.upd {B:Addr}{H H1:Hp}{o:HO} (a:M0 B H H1):M0 B H (upd H1 B o):=fun c u n h=>by rw [Ax n];exact a c u n h
theorem M0.t {B:Addr}{H H1:Hp}{us:List V} (a:M0 B H H1) (h:H B=some (.lst us)):Qk H H1 :=
 ⟨fun b xs e=>a b _ (b8 e h (by intro z;cases z)) e,fun b o u e=>a b _ (b8 e h (by intro z;cases z)) e⟩
theorem M0.same {B:Addr}{H0 H H1:Hp} (a:M0 B H H1) (s:Same H0 H) (h:H0 B=none):Same H0 H1:=fun b o e=>a b o (A8 e h) (s b o e)
theorem Ix:∀ ns:List Int,deps (nums ns)=0
 | []=>rfl
 | n::ns=>by show max (dep (.int n)) (deps (nums ns))=0;rw [Ix ns];rfl
theorem Gm:∀ xs:List (List Int),deps (xs.map tI)<=1
 | []=>Nat.zero_le _
 | x::xs=>by
   have h1:=Gm xs
   have h2:dep (tI x)=1:=by show deps (nums x)+1=1;rw [Ix]
   show max (dep (tI x)) (deps (xs.map tI))<=1
   omega
theorem Mv (f:List Int):∀ xs:List (List Int),(xs.map tI).any (fun e=>eqD e (tI f))=decide (f∈xs)
 | []=>rfl
 | x::xs=>by
   rw [List.map_cons,List.any_cons,Mv f xs,z0]
   by_cases h:x=f
   . subst h;simp
   . have h':¬f=x:=fun z=>h z.symm
     simp [h,h']
theorem ifP {c A B:Prop} [Decidable c] (hc:c) (h:A):if c then A else B:=by rw [if_pos hc];exact h
theorem ifN {c A B:Prop} [Decidable c] (hc:¬c) (h:B):if c then A else B:=by rw [if_neg hc];exact h
theorem neI {a b:Int} (h:¬a=b):(!decide (V.int a=V.int b))=true:=by simp [h]
theorem eqI {a b:Int} (h:a=b):¬(!decide (V.int a=V.int b))=true:=by simp [h]
theorem Cr {g:TG}{te:TE}{D:Addr}{Q:Hp->Prop}{τ:St}{H:Hp}{K:W.Frag}{a:Addr}{xs:List V} (Pv:Nat->List V->St->Hp->Prop) (h0:Pv 0 [] τ H) (hl:∀ i ys τ H,i<=xs.length->Pv i ys τ H->SqL K H a xs)
 (hs:∀ i x ys τ H,xs[i]?=some x->Pv i ys τ H->g x τ H fun τ2 H2=>te τ2 H2 fun y H4=>H4 D=some (.lst ys)/\ys.length<sizeLine/\Pv (i+1) (ys++[y]) τ2 (upd H4 D (.lst (ys++[y]))))
 (hd:∀ ys τ H,Pv xs.length ys τ H->Q H):RunC (Itl K a) g tYes te D Q τ H:=j6 Pv h0 hl (fun i x ys τ H e p=>hs i x ys τ H e p) hd
theorem Ty {g:TG}{te:TE}{D:Addr}{Q:Hp->Prop}{τ:St}{H:Hp}{K:W.Frag}{a:Addr}{xs:List V} (Pv:Nat->List V->St->Hp->Prop) (h0:Pv 0 [] τ H) (hl:∀ i ys τ H,i<=xs.length->Pv i ys τ H->SqT K H a xs)
 (hs:∀ i x ys τ H,xs[i]?=some x->Pv i ys τ H->g x τ H fun τ2 H2=>te τ2 H2 fun y H4=>H4 D=some (.lst ys)/\ys.length<sizeLine/\Pv (i+1) (ys++[y]) τ2 (upd H4 D (.lst (ys++[y]))))
 (hd:∀ ys τ H,Pv xs.length ys τ H->Q H):RunC (Itt K a) g tYes te D Q τ H:=w4 Pv h0 hl (fun i x ys τ H e p=>hs i x ys τ H e p) hd
theorem Wi {g:TG}{te:TE}{D:Addr}{Q:Hp->Prop}{τ:St}{H:Hp}{lo:Int}{n:Nat} (Pv:Nat->List V->St->Hp->Prop) (h0:Pv 0 [] τ H)
 (hs:∀ i ys τ H,i<n->Pv i ys τ H->g (.int (lo+i)) τ H fun τ2 H2=>te τ2 H2 fun y H4=>H4 D=some (.lst ys)/\ys.length<sizeLine/\Pv (i+1) (ys++[y]) τ2 (upd H4 D (.lst (ys++[y]))))
 (hd:∀ ys τ H,Pv n ys τ H->Q H):RunC (Itr lo n) g tYes te D Q τ H:=Za Pv h0 (fun i ys τ H e p=>hs i ys τ H e p) hd
theorem Ao {t u:TS}{D:Ends}{σ:St}{H:Hp} (P:St->Hp->Prop) (hu:∀ σ' H',P σ' H'->u D σ' H') (h:∀{N:St->Hp->Prop},(∀ σ' H',P σ' H'->N σ' H')->t { D with nx:=N } σ H):tSeq t u D σ H:=h hu
theorem Fs {t u:TS}{D:Ends}{σ:St}{H:Hp} (P:St->Hp->Prop) (hu:∀ σ' H',P σ' H'->u D σ' H') (h:(∀ σ' H',P σ' H'->u D σ' H')->tSeq t u D σ H):tSeq t u D σ H:=h hu
theorem Yy {f:List Int}:∀{ws:List (List Int)},f∈ws->(ws.map tI).findIdx? (fun e=>eqD e (tI f))=some (idx ws f):=fun {ws} h=>by
 have e:(ws.map tI).findIdx? (fun e=>eqD e (tI f))=ws.findIdx? (fun w=>w==f):=by
  rw [List.findIdx?_map]
  congr 1
  funext w
  show eqD (tI w) (tI f)=(w==f)
  rw [z0]
  by_cases z:w=f
  . subst z;simp
  . simp [z]
 rw [e,List.findIdx?_eq_some_of_exists (xs:=ws) (p:=fun w=>w==f) ⟨f,h,by simp⟩]
 rfl
theorem Dl {n:Nat} (h:n<=1000000):n<sizeLine:=Nat.lt_of_le_of_lt h (by decide)
theorem At {n:Nat} (h:n<=1000000):n<=sizeLine:=Nat.le_of_lt (Dl h)
end
section
variable (K:W.Frag)
def Xj:Sp:=fun vs H Q _=>∃ (a:Addr) (ns:List Int) (k:Int),vs=[.ref a,.int k]/\SqL K H a (ns.map V.int)/\0<=k/\ns.length<=63/\Q (.int (Ee ns k)) H
def Uw:Sp:=fun vs H Q _=>∃ (v:V) (w:List Int) (fam:Int),vs=[v,.int fam]/\TI K H v w/\Word fam w ∧
 ∀ (p:Addr) (us:List V) (H':Hp),H p=none->Same H H'->H' p=some (.lst us)->Reps K H' us ((An w fam).map tI)->Q (.ref p) H'
def Xi:Sp:=fun vs H Q _=>∃ (c fam letters:Int),vs=[.int c,.int fam,.int letters]/\0<letters/\letters<100/\fam<100 ∧
 ∀ (v:V) (H':Hp) (w:List Int),Same H H'->TI K H' v w->Word fam w->Q v H'
def Oz:Sp:=fun vs H Q _=>∃ (l:Addr) (us:List V) (v:V) (ws:List (List Int)) (w:List Int) (fam:Int),vs=[.ref l,v,.int fam]/\H l=some (.lst us)/\Reps K H us (ws.map tI)/\TI K H v w/\Word fam w/\ws.length<=100 ∧
 ∀ (p:Addr) (us':List V) (H':Hp),H p=none->Same H H'->H' p=some (.lst us')->Reps K H' us' ((Ii ws w fam).map tI)->Q (.ref p) H'
def Wu:Sp:=fun vs H Q _=>∃ (a:Addr) (ns:List Int),vs=[.ref a]/\SqL K H a (ns.map V.int)/\ns.length<=63/\∀ H',Q (.bl true) H'
def Uu:Sp:=fun vs H Q _=>∃ (a:Addr) (ns:List Int) (kind most:Int),vs=[.int kind,.ref a,.int most]/\SqL K H a (ns.map V.int)/\ns.length<=63/\0<=most/\most<=100 ∧
 ∀ (p:Addr) (us:List V) (H':Hp) (xs:List (List Int)),H p=none->Same H H'->H' p=some (.lst us)->Reps K H' us (xs.map tI)->Gg xs->(xs.length:Int)<=most->Q (.ref p) H'
end
end Hb
namespace Hb
open PySem L2
def Ea (d:L2.D):Bool:=isD "int" d&&!isD "bool" d
def T9 (d:L2.D) (b:Int):Bool:=match d with
 | .int i=>decide (0<=i)&&decide (i<b)
 | _=>false
def levI (n:Nat):Int:=if (0:Int) > (n:Int)-1 then 0 else (n:Int)-1
def Bf (xs:List (List Int)) (d:L2.D) (l:Int):Bool:=match d with
 | .int i=>decide (0<=i)&&decide (i<(xs.length:Int))&&decide (levI (xs.getD i.toNat []).length=l)
 | _=>false
def Ig (xs:List (List Int)) (p:List Int) (j i:Nat):Bool:=decide ((xs.getD (p.getD j 0).toNat []).getD i 0=(xs.getD (p.getD i 0).toNat []).getD (j-1) 0)
def Dj (xs:List (List Int)) (p:List Int):Bool:=(List.range p.length).all fun j=>(List.range j).all fun i=>Ig xs p j i
def toI:L2.D->Int
 | .int i=>i
 | _=>0
def cntB (n:Nat):Bool:=n==0 || n==2 || n==3 || n==4
def Ht (xs:List (List Int)) (d:L2.D):Bool:=match d with
 | .tup ds=>cntB ds.length&&ds.all (fun e=>Bf xs e (levI ds.length-1))&&(decide (levI ds.length<2) || Dj xs (ds.map toI))
 | _=>false
theorem D5 (xs:List (List Int)) (ds:List L2.D):Ht xs (.tup ds)=(cntB ds.length&&ds.all (fun e=>Bf xs e (levI ds.length-1))&&(decide (levI ds.length<2) || Dj xs (ds.map toI))):=rfl
theorem Wk {n:Nat} (h:cntB n=true):n<=4/\n≠1:=by
 unfold cntB at h
 simp only [Bool.or_eq_true,beq_iff_eq] at h
 omega
section
variable (K:W.Frag)
def E5:Sp:=fun vs H Q _=>∃ (x:V) (d:L2.D),vs=[x]/\Rep K H x d/\Q (.bl (Ea d)) H
abbrev Gh:Sp:=E5 K
def C0:Sp:=fun vs H Q _=>∃ (x:V) (d:L2.D) (b:Int),vs=[x,.int b]/\Rep K H x d/\Q (.bl (T9 d b)) H
def E4:Sp:=fun vs H Q _=>∃ (x:V) (ds:List L2.D),vs=[x]/\SeqD K H x ds/\Q (.int (levI ds.length)) H
def Cg:Sp:=fun vs H Q _=>∃ (a:Addr) (x:V) (d:L2.D) (l:Int) (xs:List (List Int)),vs=[.ref a,x,.int l]/\LT K H (.ref a) xs/\Rep K H x d/\Q (.bl (Bf xs d l)) H
def Ef:Sp:=fun vs H Q _=>∃ (a:Addr) (v:V) (xs:List (List Int)) (p:List Int),vs=[.ref a,v]/\LT K H (.ref a) xs/\TI K H v p/\p.length<=4 ∧
 (∀ f∈p,0<=f/\f<(xs.length:Int)/\(xs.getD f.toNat []).length+1=p.length)/\Q (.bl (Dj xs p)) H
def O6:Sp:=fun vs H Q _=>∃ (a:Addr) (th:V) (d:L2.D) (xs:List (List Int)),vs=[.ref a,th]/\LT K H (.ref a) xs/\Rep K H th d/\∀ H',Same H H'->Q (.bl (Ht xs d)) H'
abbrev Fw:Sp:=O6 K
abbrev Eb:Sp:=Xj K
abbrev Dk:Sp:=Uw K
abbrev Ft:Sp:=Xi K
abbrev Dy:Sp:=Oz K
abbrev E6:Sp:=Uu K
end
section
variable {K:W.Frag}{H:Hp}
theorem N2 {d:L2.D} (h:Ea d=true):∃ i,d=.int i:=by
 cases d<;>simp [Ea,isD] at h
 exact ⟨_,rfl⟩
theorem LT.get {a:Addr}{xs:List (List Int)}{i:Int} (h:LT K H (.ref a) xs) (h0:0<=i) (h1:i<(xs.length:Int)):∃ us v,SqL K H a us/\atI us i=some v/\TI K H v (xs.getD i.toNat []):=by
 obtain⟨a',us,e,hq,r⟩:=h
 cases e
 obtain⟨j,rfl⟩:=Int.eq_ofNat_of_zero_le h0
 have hj:j<xs.length:=by omega
 have e:(xs.map tI)[j]?=some (tI xs[j]):=by rw [List.getElem?_map,List.getElem?_eq_getElem hj];rfl
 obtain⟨v,hv,tv⟩:=r.get e
 refine⟨us,v,hq,Cb hv,?_⟩
 rw [Int.toNat_natCast,List.getD_eq_getElem?_getD,List.getElem?_eq_getElem hj]
 exact tv
theorem LT.len {a:Addr}{xs:List (List Int)} (h:LT K H (.ref a) xs):∃ us,SqL K H a us/\us.length=xs.length:=by
 obtain⟨a',us,e,hq,r⟩:=h
 cases e
 exact ⟨us,hq,by have:=r.length;simpa using this⟩
theorem TI.get {v:V}{p:List Int}{i:Int} (h:TI K H v p) (h0:0<=i) (h1:i<(p.length:Int)):∃ a,v=.ref a/\SqT K H a (p.map V.int)/\atI (p.map V.int) i=some (.int (p.getD i.toNat 0)):=by
 obtain⟨a,e,hq⟩:=h.sq
 refine⟨a,e,hq,?_⟩
 obtain⟨j,rfl⟩:=Int.eq_ofNat_of_zero_le h0
 have hj:j<p.length:=by omega
 refine Cb ?_
 rw [List.getElem?_map,List.getElem?_eq_getElem hj]
 simp [hj]
theorem Fd (n:Nat):levI n=((n-1:Nat):Int):=by unfold levI;split<;>omega
theorem Li {xs:List (List Int)}{l:Int}:∀{ds:List L2.D},ds.all (fun e=>Bf xs e l)=true->ds=nums (ds.map toI)
 | [],_=>rfl
 | d::ds,h=>by
   simp only [List.all_cons,Bool.and_eq_true] at h
   cases d with
   | int i =>
     show L2.D.int i::ds=L2.D.int i::nums (ds.map toI)
     rw [←Li h.2]
   | _=>simp [Bf] at h
end
end Hb
namespace L2
open PySem PySem.Spec PyProof.Rows
def l7 (f:Obj->Obj):Prop:=∀ o,(f o).dict=o.dict/\(o.isFreed=false->(f o).isFreed=false)
def A4 {α:Type}:Sem α->Prop
 | .pure _=>True
 | .raise _=>True
 | .unsupported _=>True
 | .finish _=>True
 | .rule _ k=>A4 (k ())
 | .at _ k=>A4 (k ())
 | .load _ _ k=>∀ o,A4 (k o)
 | .update _ _ f k=>l7 f/\A4 (k ())
 | .alloc _ k=>∀ a,A4 (k a)
 | .loadIfAlive _ k=>∀ o,A4 (k o)
 | .point _ k=>A4 (k ())
 | .register _ _=>True
 | .fresh k=>∀ t,A4 (k t)
 | .ask k=>∀ x,A4 (k x)
 | .choose _ _ k=>∀ n,A4 (k n)
 | .os _ _ k=>∀ r,A4 (k r)
 | .call _ _ _ _ _=>False
 | .handled _ k=>∀ v,A4 (k v)
 | .newGen _ k=>∀ n,A4 (k n)
 | .genState _ k=>∀ x,A4 (k x)
 | .resume _ _ _ _=>False
 | .yield _ _ _ _=>True
 | .stack k=>∀ x,A4 (k x)
 | .fork _ _=>True
 | .thread k=>∀ x,A4 (k x)
 | .await _ _ _ _ _=>True
theorem A4.bind {α β:Type}{m:Sem α}{k:α->Sem β} (h:A4 m) (hk:∀ a,A4 (k a)):A4 (m>>=k):=by
 show A4 (Sem.bind m k)
 induction m with
 | pure a=>exact hk a
 | rule t c ih=>exact ih () h
 | «at» p c ih=>exact ih () h
 | load a p c ih=>exact fun o=>ih o (h o)
 | update a p f c ih=>exact ⟨h.1,ih () h.2⟩
 | alloc o c ih=>exact fun a=>ih a (h a)
 | loadIfAlive a c ih=>exact fun o=>ih o (h o)
 | point l c ih=>exact ih () h
 | fresh c ih=>exact fun o=>ih o (h o)
 | ask c ih=>exact fun o=>ih o (h o)
 | choose s n c ih=>exact fun o=>ih o (h o)
 | os r l c ih=>exact fun o=>ih o (h o)
 | handled o c ih=>exact fun o=>ih o (h o)
 | newGen g c ih=>exact fun o=>ih o (h o)
 | genState g c ih=>exact fun o=>ih o (h o)
 | stack c ih=>exact fun o=>ih o (h o)
 | thread c ih=>exact fun o=>ih o (h o)
 | call c a b d e=>exact False.elim h
 | resume a b c d=>exact False.elim h
 | _=>trivial
def Do (h h':Heap):Prop:=∀ b o,h.get? b=some o->∃ o',h'.get? b=some o'/\o'.dict=o.dict
theorem Do.refl (h:Heap):Do h h:=fun _ o e=>⟨o,e,rfl⟩
theorem Do.trans {h h1 h2:Heap} (x:Do h h1) (y:Do h1 h2):Do h h2:=fun b o e=>by
 obtain⟨o1,e1,d1⟩:=x b o e
 obtain⟨o2,e2,d2⟩:=y b o1 e1
 exact ⟨o2,e2,d2.trans d1⟩
theorem Do.push (h:Heap) (o:Obj):Do h (h.push o):=fun b o' e=>⟨o',Heap.get?_push_of_some o e,rfl⟩
theorem Do.update {h:Heap}{a:Addr}{f:Obj->Obj} (g:l7 f):Do h (h.update a f):=fun b o e=>by
 by_cases z:a=b
 . subst z
   exact ⟨f o,Heap.get?_update_self f e ((g o).2 (Heap.get?_some_iff.mp e).2),(g o).1⟩
 . exact ⟨o,by rw [Heap.get?_update_other _ _ z];exact e,rfl⟩
theorem Zl {α:Type}{M:Model}{Γ:PySem.Ctx}{Q:α->Pos->Shared->Prop}{E:Value->Pos->Shared->Prop}{t:Sem α} (hk:A4 t):∀ (p:Pos) (s:Shared),Sem.wp M Γ t Q E p s →
 Sem.wp M Γ t (fun a p' s'=>Q a p' s'/\Do s.heap s'.heap) (fun e p' s'=>E e p' s'/\Do s.heap s'.heap) p s:=by
 induction t with
 | pure a=>intro p s h;exact ⟨h,Do.refl _⟩
 | raise e=>intro p s h;exact ⟨h,Do.refl _⟩
 | unsupported w=>intro p s h;exact h
 | finish e=>intro p s h;exact h
 | rule g k ih=>intro p s h;exact ih () hk _ _ h
 | «at» p' k ih=>intro p s h;exact ih () hk _ _ h
 | load a q k ih=>intro p s h;obtain⟨o,e,h⟩:=h;exact ⟨o,e,ih o (hk o) _ _ h⟩
 | update a q f k ih =>
   intro p s h
   obtain⟨e,h⟩:=h
   refine⟨e,?_⟩
   have:=ih () hk.2 _ _ h
   exact wp_tr this (Do.update hk.1)
 | alloc o k ih=>intro p s h;exact wp_tr (ih _ (hk _) _ _ h) (Do.push _ _)
 | loadIfAlive a k ih=>intro p s h;exact ih _ (hk _) _ _ h
 | point l k ih=>intro p s h;exact ih () hk _ _ h
 | register a k ih=>intro p s h;exact h
 | fresh k ih=>intro p s h;exact ih _ (hk _) _ _ h
 | ask k ih=>intro p s h;exact ih _ (hk _) _ _ h
 | choose c n k ih=>intro p s h;exact ⟨h.1,ih _ (hk _) _ _ h.2⟩
 | os r l k ih=>intro p s h;exact ih _ (hk _) _ _ h
 | call c a b d k ih=>exact False.elim hk
 | handled o k ih=>intro p s h;exact ih _ (hk _) _ _ h
 | newGen c k ih=>intro p s h;exact ih _ (hk _) _ _ h
 | genState g k ih=>intro p s h;obtain⟨x,e,h⟩:=h;exact ⟨x,e,ih _ (hk _) _ _ h⟩
 | resume a b c k ih=>exact False.elim hk
 | yield a b c k ih=>intro p s h;exact h
 | stack k ih=>intro p s h;exact ih _ (hk _) _ _ h
 | fork c k ih=>intro p s h;exact h
 | thread k ih=>intro p s h;exact ih _ (hk _) _ _ h
 | await a b c d k ih=>intro p s h;exact h
where
 wp_tr {α:Type}{M:Model}{Γ:PySem.Ctx}{Q:α->Pos->Shared->Prop}{E:Value->Pos->Shared->Prop}{t:Sem α}{p:Pos}{s:Shared}{h h1:Heap}
  (x:Sem.wp M Γ t (fun a p' s'=>Q a p' s'/\Do h1 s'.heap) (fun e p' s'=>E e p' s'/\Do h1 s'.heap) p s) (y:Do h h1) :
  Sem.wp M Γ t (fun a p' s'=>Q a p' s'/\Do h s'.heap) (fun e p' s'=>E e p' s'/\Do h s'.heap) p s :=
  Sem.wp_mono _ _ _ (fun _ _ _ z=>⟨z.1,y.trans z.2⟩) (fun _ _ _ z=>⟨z.1,y.trans z.2⟩) _ _ x
theorem By {α:Type}{M:Model}{A:Around}{Q:α->Shared->Prop}{E:Value->Shared->Prop}{t:Sem α}{s:Shared} (hk:A4 t) (h:wpAny M A t Q E s) :
 wpAny M A t (fun a s'=>Q a s'/\Do s.heap s'.heap) (fun e s'=>E e s'/\Do s.heap s'.heap) s:=fun Γ p hi=>Zl hk _ _ (h Γ p hi)
theorem Bv {α:Type} (a:α):A4 (pure a:Sem α):=True.intro
theorem Nq {α:Type} (w:String):A4 (unsupported w:Sem α):=True.intro
theorem Vw (a:Addr):A4 (load a):=fun _=>True.intro
theorem Ss (a:Addr) {f:Obj->Obj} (h:l7 f):A4 (update a f):=⟨h,True.intro⟩
theorem W5 (o:Obj):A4 (alloc o):=fun _=>True.intro
theorem Py:A4 stack:=fun _=>True.intro
theorem S9 (g:Array Value->Array Value):l7 (Obj.mapFields g):=fun o=>by
 obtain⟨c,d,da,sl⟩:=o
 cases da<;>exact ⟨rfl,fun h=>h⟩
theorem V4 (g:Obj->Array (Option Value)):l7 (fun o=>{ o with slots:=g o }):=fun o=>⟨rfl,fun h=>by
 obtain⟨c,d,da,sl⟩:=o
 cases da<;>exact h⟩
theorem Np (a:Addr) (i:Nat) (v:Value):A4 (updateField a i v):=by
 unfold updateField
 refine (Vw a).bind fun o=>?_
 split
 . split
   . exact Ss a (S9 _)
   . exact Nq _
 . exact Nq _
theorem Hm (v:Value) (i:Nat) (x:Value):A4 (setField v i x):=by
 unfold setField
 split
 . exact Np _ _ _
 . exact Nq _
theorem Vy (v:Value):A4 (fieldsOf v):=by
 unfold fieldsOf
 split
 . refine (Vw _).bind fun o=>?_
   split
   . exact Bv _
   . exact Nq _
 . exact Nq _
theorem Lf (v:Value) (i:Nat):A4 (field v i):=by
 unfold field
 refine (Vy v).bind fun vs=>?_
 split
 . exact Bv _
 . exact Nq _
theorem F4 (e:Value) (fr:Option Addr):A4 (setFlight e fr):=by
 unfold setFlight
 refine (Lf e 1).bind fun tb=>?_
 split
 . exact Hm _ _ _
 . exact Bv _
theorem Su (ty:String) (vs:List Value):A4 (newFields ty vs):=by
 unfold newFields newObj
 dsimp only
 split
 . exact (Nq _).bind fun _=>(W5 _).bind fun _=>Bv _
 . exact (W5 _).bind fun _=>Bv _
theorem L6 (f:Addr) (b:Bool):A4 (entryPlaceOf f b):=by
 unfold entryPlaceOf
 refine Py.bind fun acts=>?_
 split
 . exact Bv _
 . exact Bv _
theorem Sv:A4 frameEnvs:=by
 unfold frameEnvs
 exact Py.bind fun _=>Bv _
theorem d8 (env:Env) (outer:List Env):A4 (behindIsImport env outer):=by
 unfold behindIsImport
 split
 . exact Bv _
 . split
   . exact Bv _
   . exact (Lf _ _).bind fun _=>Bv _
theorem d7:A4 underTheClaimsCaller:=by
 unfold underTheClaimsCaller
 exact Py.bind fun _=>Bv _
theorem Vx (env:Env) (i:Bool) (outer:List Env):A4 (keptBack env i outer):=by
 cases outer with
 | nil =>
   rw [keptBack]
   by_cases z:(env.scope.isGenerator || env.scope.isCoroutine)=true
   . rw [if_pos z];exact Bv _
   . rw [if_neg z];exact d7.bind fun _=>Bv _
 | cons c r=>exact Bv _
theorem G6:∀ l:List Env,A4 (readyFrames l)
 | []=>Bv _
 | env::outer=>by
   unfold readyFrames
   split
   . refine (Vw _).bind fun o=>?_
     split
     . exact Bv _
     . refine (d8 _ _).bind fun b=>(Vx _ _ _).bind fun v=>(Ss _ (V4 _)).bind fun _=>G6 outer
   . exact Nq _
theorem Yp (env:Env):A4 (PySem.frameOf env):=by
 unfold PySem.frameOf
 refine Sv.bind fun es=>?_
 refine A4.bind ?_ fun o=>?_
 . generalize es.dropWhile _=l
   cases l with
   | nil=>exact Bv _
   | cons x r=>exact (G6 _).bind fun _=>Bv _
 . split
   . exact Bv _
   . exact Nq _
theorem F5 (e:Value) (env:Env):A4 (noteFrame e env):=by
 unfold noteFrame
 cases env.frame with
 | none=>exact Nq _
 | some f =>
   have tail:∀ head:Value,A4 (do let a ←PySem.frameOf env;let pl ←entryPlaceOf f (head != .none);let b ←EntryCells.newEntry head a .none (rawInt f) .none pl;setField e 1 b):=fun head =>
    A4.bind (Yp env) fun a=>A4.bind (L6 f _) fun pl=>A4.bind (Su _ _) fun b=>Hm _ _ _
   refine (Lf e 1).bind fun head=>?_
   by_cases z:(head != Value.none)=true
   . rw [if_pos z]
     refine (Lf head 3).bind fun x=>?_
     by_cases y:(x==rawInt f)=true
     . rw [if_pos y];exact Bv _
     . rw [if_neg y]
       refine (Hm _ _ _).bind fun _=>?_
       exact tail head
   . rw [if_neg z]
     exact tail head
theorem Gj (env:Env) (e:Value):A4 (leaving env e):=by
 unfold leaving
 exact (F5 e env).bind fun _=>F4 e none
end L2
namespace L2
open PySem PySem.Spec PyProof.Rows
theorem ObjOk.ob {P:Program}{w:World}{H:Hp}{h:Heap}{a:Addr}{o:HO} (x:ObjOk P w H h a o):∃ u,h.get? a=some u:=by
 cases o with
 | lst xs=>obtain⟨_,_,_,_,e⟩:=x;exact ⟨_,e⟩
 | tup xs=>obtain⟨_,_,_,ob,e,_⟩:=x;exact ⟨_,e⟩
 | dK A0=>obtain⟨_,_,_,_,ob,_,_,e,_⟩:=x;exact ⟨_,e⟩
 | dT A0=>obtain⟨_,_,_,_,ob,_,_,e,_⟩:=x;exact ⟨_,e⟩
 | set S n=>obtain⟨ob,_,_,_,e,_⟩:=x;exact ⟨_,e⟩
 | ins C dx fs=>obtain⟨_,_,_,e,_⟩:=x;exact ⟨_,e⟩
 | own y=>exact x
 | xd fs=>obtain⟨_,⟨ob,_,_,e,_⟩,_⟩:=x;exact ⟨_,e⟩
 | rng lo hi=>obtain⟨_,_,_,e⟩:=x;exact ⟨_,e⟩
 | frz ob u=>obtain⟨e,_⟩:=x;exact ⟨_,e⟩
 | tbl ps=>exact ⟨_,(show h.get? a=some _ from x)⟩
 | met f y=>exact ⟨_,(show h.get? a=some _ from x)⟩
 | ext φ=>obtain⟨_,e,_⟩:=x;exact e
structure XUn (fs:List Addr) (H H':Hp) (h B h':Heap):Prop where
 kp:∀ b o,h.get? b=some o->H b=none->b ∉ fs->B.get? b=some o
 sl:∀ b o,h.get? b=some o->H b=none->b∈fs->∃ z,h'.get? b=some { o with slots:=z }
 fr:∀ b o,h.get? b=some o->H b=none->H' b=none
 th:∀ b o,h.get? b=some o->b ∉ fs->∃ z,B.get? b=some z
 tu:∀ b xs,H b=some (.tup xs)->H' b=some (.tup xs)
 fz:∀ b o u,H b=some (.frz o u)->H' b=some (.frz o u)
 tb:∀ b ps,H b=some (.tbl ps)->∃ more,H' b=some (.tbl (ps++more))
section
variable {fs:List Addr}{H H':Hp}{h B h' h2:Heap}
theorem XUn.un (x:XUn fs H H' h B h') (hB:B.StaysIn h2) (hf:∀ b∈fs,H b=none) (hs:∀ b o,h'.get? b=some o->b∈fs->∃ z,h2.get? b=some { o with slots:=z }):Un fs [] H H' h h2 where
 keep:=fun b o e n hb _=>hB b o (x.kp b o e n hb)
 slot:=fun b o e n hb _=>by
  obtain⟨z,e1⟩:=x.sl b o e n hb
  obtain⟨z',e2⟩:=hs b _ e1 hb
  exact ⟨z',e2⟩
 free:=fun b o e n _=>x.fr b o e n
 there:=fun b o e _=>by
  by_cases hb:b∈fs
  . obtain⟨z,e1⟩:=x.sl b o e (hf b hb) hb
    obtain⟨z',e2⟩:=hs b _ e1 hb
    exact ⟨_,e2⟩
  . obtain⟨z,e1⟩:=x.th b o e hb
    exact ⟨z,hB b z e1⟩
 tups:=x.tu
 frzs:=x.fz
 tbls:=x.tb
theorem Mb {l:List Env} (ff:h'.FunFrames B l) (up:h'.UpToSlots h2):∀ b o,h'.get? b=some o->b∈frs l->∃ z,h2.get? b=some { o with slots:=z }:=fun b o e hb=>by
 obtain⟨_,o',e',hd⟩:=ff.mem hb
 rw [e] at e'
 cases e'
 exact up b o e hd
theorem XUn.next {l:List Env} (x:XUn (frs l) H H' h B h') (ff:h'.FunFrames B l) (up:h'.UpToSlots h2):XUn (frs l) H H' h B h2 :=
 ⟨x.kp,fun b o e n hb=>by
  obtain⟨z,e1⟩:=x.sl b o e n hb
  obtain⟨z',e2⟩:=Mb ff up b _ e1 hb
  exact ⟨z',e2⟩,x.fr,x.th,x.tu,x.fz,x.tb⟩
end
def ErrD (e:Addr) (dx:Option Addr) (h:Heap):Prop:=∃ o,h.get? e=some o/\o.dict=dx
theorem ErrD.go {e:Addr}{dx:Option Addr}{h h':Heap} (x:ErrD e dx h) (k:Do h h'):ErrD e dx h':=by
 obtain⟨o,e1,d1⟩:=x
 obtain⟨o',e2,d2⟩:=k e o e1
 exact ⟨o',e2,d2.trans d1⟩
def CX1 (P:Program) (w:World):CXT:=fun outer H s E u s'=>∃ (e:Addr) (cls a0:Value) (B:Heap) (H':Hp) (dx:Option Addr),u=.ref e/\s'.os=s.os/\AllBare s'.gens/\XUn (frs outer) H H' s.heap B s'.heap/\HOk P w H' B/\Heap.FlyingW B outer e cls a0 s'.heap/\ErrD e dx s'.heap/\E cls dx H'
def FlyAt (X:Cx) (Aa:List (Addr × Obj)) (e:Addr) (cls a0:Value) (dx:Option Addr) (σ:St) (H':Hp) (s':Shared):Prop :=
 ∃ (B:Heap) (H:Hp) (s:Shared),Inv X Aa σ H s/\s'.os=s.os/\AllBare s'.gens/\XUn (frs X.stack) H H' s.heap B s'.heap/\HOk X.prog X.w H' B/\Heap.FlyingW B X.stack e cls a0 s'.heap/\ErrD e dx s'.heap
abbrev XJ:=Value->Option Addr->St->Hp->Prop
def Fly (X:Cx) (J:XJ) (u:Value) (s':Shared):Prop:=∃ (e:Addr) (cls a0:Value) (dx:Option Addr) (σ:St) (H':Hp),u=.ref e/\FlyAt X [] e cls a0 dx σ H' s'/\J cls dx σ H'
def m3 (X:Cx) (J:XJ):Prop:=∀ u s',Fly X J u s'->X.xe u s'
def Am3 (X:Cx) (J:XJ):Prop:=∀ (Aa:List (Addr × Obj)) (σ:St) (H:Hp) (s:Shared) (e:Addr) (cls:Value) (vs:List Value) (h':Heap),Inv X Aa σ H s->Heap.MadeExcOf s.heap h' e cls vs->J cls none σ H->X.xe (.ref e) { s with heap:=h' }
def excO (e:Addr) (cls:Value):HO:=.ext fun h=>∃ o vs,h.get? e=some o/\o.cls=cls/\o.data=.fields vs
def excX (e:Addr) (cls:Value):Option Addr->HO
 | none=>excO e cls
 | some d=>.ext fun h=>∃ o vs,h.get? e=some o/\o.cls=cls/\o.data=.fields vs/\o.dict=some d
section
variable {X:Cx}{Aa:List (Addr × Obj)}{σ:St}{H H':Hp}{s s':Shared}{e:Addr}{cls a0:Value}{dx:Option Addr}
theorem Inv.nopin (I:Inv X Aa σ H s):Inv X [] σ H s:=I.pins_of (fun p hp=>nomatch hp)
theorem FlyAt.step {B:Heap}{h2:Heap}{S:Shared} (I:Inv X Aa σ H S) (q1:s'.os=S.os) (q2:AllBare s'.gens) (q3:XUn (frs X.stack) H H' S.heap B s'.heap) (q4:HOk X.prog X.w H' B) (q5:Heap.FlyingW B X.stack e cls a0 s'.heap)
 (f:Heap.FlyingW B X.stack e cls a0 h2) (up:s'.heap.UpToSlots h2) (d:ErrD e dx h2):FlyAt X Aa e cls a0 dx σ H' { s' with heap:=h2 } :=
 ⟨B,H,S,I,q1,q2,q3.next q5.2.2.1 up,q4,f,d⟩
theorem FlyAt.apart {B:Heap}{S:Shared} (q3:XUn (frs X.stack) H H' S.heap B s'.heap) (q5:Heap.FlyingW B X.stack e cls a0 s'.heap):S.heap.get? e=none:=by
 cases z:S.heap.get? e with
 | none=>rfl
 | some o =>
   by_cases hb:e∈frs X.stack
   . obtain⟨_,o',e1,hd⟩:=q5.2.2.1.mem hb
     obtain⟨oe,vs,e2,_,d2,_⟩:=q5.first
     rw [e1] at e2
     cases e2
     exact absurd d2 (hd vs)
   . obtain⟨o',e1⟩:=q3.th e o z hb
     have e2:=q5.2.1
     rw [e1] at e2
     cases e2
theorem HOk.none_of {P:Program}{w:World}{B:Heap} (q:HOk P w H' B) (z:B.get? e=none):H' e=none:=by
 cases y:H' e with
 | none=>rfl
 | some o =>
   obtain⟨u,e1⟩:=(q e o y).ob
   rw [e1] at z
   cases z
theorem FlyAt.inv (F:FlyAt X Aa e cls a0 dx σ H' s'):Inv X Aa σ H' s'/\H' e=none:=by
 obtain⟨B,H,S,I,q1,q2,q3,q4,q5,_⟩:=F
 exact ⟨I.call' (ch:=[]) q1 (q3.un q5.1 I.stkFree fun b o e1 _=>⟨o.slots,e1⟩) (q4.kept q5.1) q2 (fun b z=>absurd z (by simp)),q4.none_of q5.2.1⟩
theorem FlyAt.held (F:FlyAt X Aa e cls a0 dx σ H' s'):Inv X Aa σ (upd H' e (excX e cls dx)) s'/\H' e=none:=by
 obtain⟨B,H,S,I,q1,q2,q3,q4,q5,dE⟩:=F
 have hn:=q4.none_of q5.2.1
 have ha:=FlyAt.apart q3 q5
 have ne:∀ b u,H' b=some u->b≠e:=fun b u y=>A8 y hn
 have q6:XUn (frs X.stack) H (upd H' e (excX e cls dx)) S.heap B s'.heap :=
  ⟨q3.kp,q3.sl,fun b o e1 n=>by
   have:b≠e:=fun z=>by rw [z,ha] at e1;cases e1
   rw [Ax this]
   exact q3.fr b o e1 n,q3.th,fun b xs y=>by
   have y':=q3.tu b xs y
   rw [Ax (ne b _ y')]
   exact y',fun b o u y=>by
   have y':=q3.fz b o u y
   rw [Ax (ne b _ y')]
   exact y',fun b ps y=>by
   obtain⟨more,y'⟩:=q3.tb b ps y
   exact ⟨more,by rw [Ax (ne b _ y')];exact y'⟩⟩
 refine⟨I.call' (ch:=[]) q1 (q6.un q5.1 I.stkFree fun b o e1 _=>⟨o.slots,e1⟩) (fun b u y=>?_) q2 (fun b z=>absurd z (by simp)),hn⟩
 have hk:=q4.kept q5.1
 by_cases hb:b=e
 . subst hb
   rw [Ae] at y
   cases y
   obtain⟨oe,vs,e2,c2,d2,_⟩:=q5.first
   obtain⟨o3,e3,d3⟩:=dE
   rw [e2] at e3
   cases e3
   cases dx with
   | none=>exact ⟨⟨oe,vs,e2,c2,d2⟩,⟨oe,e2⟩,fun h1 h2 ⟨o,ws,a1,a2,a3⟩ k=>⟨o,ws,k o a1,a2,a3⟩⟩
   | some d=>exact ⟨⟨oe,vs,e2,c2,d2,d3⟩,⟨oe,e2⟩,fun h1 h2 ⟨o,ws,a1,a2,a3,a4⟩ k=>⟨o,ws,k o a1,a2,a3,a4⟩⟩
 . rw [Ax hb] at y
   exact (hk b u y).stay (fun _ _ _ q=>q) (fun c q=>by rw [Ax (ne c _ q)];exact q) fun c xs q=>by rw [Ax (ne c _ q)];exact q
end
section
variable {P:Program}{w:World}{K:W.Frag}{mg:Str->Option Value}{base:Heap}{N:List Str}{qual:Str}{scope:Scope}{f:Addr}{cd:Value}{A:Around}{outer:List Env}{s:Shared}{H:Hp}{E:XK}
theorem P4:frs (envOfC qual scope s.heap.objs.size f cd::outer)=s.heap.objs.size::frs outer:=rfl
theorem Md:m3 (cxOf (CX1 P w) P w K mg base N qual scope f cd A outer s H E) (fun cls dx _ H'=>E cls dx H'):=by
 rintro u s' ⟨e,cls,a0,dx,σ,H2,rfl,⟨B,H1,s1,I,q1,q2,q3,q4,q5,dE⟩,q6⟩
 have old:∀ b o,s.heap.get? b=some o->b ∉ frs outer->b ∉ frs (envOfC qual scope s.heap.objs.size f cd::outer):=fun b o e1 hb z=>by
  rw [P4] at z
  rcases List.mem_cons.mp z with y | y
  . exact absurd (Heap.lt_size e1) (by rw [y];exact Nat.lt_irrefl _)
  . exact hb y
 have nx:∀ b:Addr,b ∉ ([]:List Addr):=fun b=>by simp
 show wpAny (model P w) (A.deeper (envOfC qual scope s.heap.objs.size f cd)) (leaving (envOfC qual scope s.heap.objs.size f cd) (.ref e)) _ _ s'
 refine wpAny_mono (By (Gj _ _) (wpAny_leaves_onW (E:=fun _ _=>False) (Q:=fun _ s2=>∃ h2,s2={ s' with heap:=h2 }/\Heap.FlyingW B outer e cls a0 h2/\s'.heap.UpToSlots h2) (L:=s.heap.objs.size) I.ok.frames rfl q5 fun h2 x1 x2=>⟨h2,rfl,x1,x2⟩)) (fun _ s2 ⟨⟨h2,e2,x1,x2⟩,kd⟩=>?_) (fun _ _ z=>z.1.elim)
 subst e2
 refine⟨e,cls,a0,B,H2,dx,rfl,q1.trans I.os,q2,⟨fun b o e1 n hb=>?_,fun b o e1 n hb=>?_,fun b o e1 n=>?_,fun b o e1 hb=>?_,fun b xs y=>q3.tu b xs (I.base.tups b xs y),fun b o u y=>q3.fz b o u (I.base.frzs b o u y),fun b ps y=>?_⟩,q4,x1,dE.go kd,q6⟩
 . exact q3.kp b o (I.base.keep b o e1 n hb (nx b)) (I.base.free b o e1 n (nx b)) (old b o e1 hb)
 . obtain⟨z,e2⟩:=I.base.slot b o e1 n hb (nx b)
   have hm:b∈frs (envOfC qual scope s.heap.objs.size f cd::outer):=List.mem_cons_of_mem _ hb
   obtain⟨z',e3⟩:=q3.sl b _ e2 (I.base.free b o e1 n (nx b)) hm
   obtain⟨z2,e4⟩:=Mb q5.2.2.1 x2 b _ e3 hm
   exact ⟨z2,e4⟩
 . obtain⟨o',e2⟩:=I.base.there b o e1 (nx b)
   exact q3.fr b o' e2 (I.base.free b o e1 n (nx b))
 . obtain⟨o',e2⟩:=I.base.there b o e1 (nx b)
   exact q3.th b o' e2 (old b o e1 hb)
 . obtain⟨m1,y1⟩:=I.base.tbls b ps y
   obtain⟨m2,y2⟩:=q3.tb b _ y1
   exact ⟨m1++m2,by rw [y2,Array.append_assoc]⟩
theorem F1:Am3 (cxOf (CX1 P w) P w K mg base N qual scope f cd A outer s H E) (fun cls dx _ H'=>E cls dx H'):=by
 intro Aa σ H1 s1 e cls vs h' I hx hj
 have fin:∀ env∈(envOfC qual scope s.heap.objs.size f cd::outer),∀ b,env.frame=some b->b∈frs (envOfC qual scope s.heap.objs.size f cd::outer):=fun env he b hb=>List.mem_filterMap.mpr ⟨env,he,hb⟩
 have old:∀ b o,s.heap.get? b=some o->b ∉ frs outer->b ∉ frs (envOfC qual scope s.heap.objs.size f cd::outer):=fun b o e1 hb z=>by
  rw [P4] at z
  rcases List.mem_cons.mp z with y | y
  . exact absurd (Heap.lt_size e1) (by rw [y];exact Nat.lt_irrefl _)
  . exact hb y
 have nx:∀ b:Addr,b ∉ ([]:List Addr):=fun b=>by simp
 have fr1:∀ b∈frs (envOfC qual scope s.heap.objs.size f cd::outer),H1 b=none:=I.stkFree
 show wpAny (model P w) (A.deeper (envOfC qual scope s.heap.objs.size f cd)) (leaving (envOfC qual scope s.heap.objs.size f cd) (.ref e)) _ _ { s1 with heap:=h' }
 have dE:ErrD e none h':=by
  obtain⟨_,_,t0,hget,_⟩:=hx
  exact ⟨_,hget,rfl⟩
 refine wpAny_mono (By (Gj _ _) (wpAny_leaves_madeW (E:=fun _ _=>False) (Q:=fun _ s2=>∃ h2 t,s2={ s1 with heap:=h2 }/\Heap.FlyingW (PySem.W.hideAll s1.heap (frs (envOfC qual scope s.heap.objs.size f cd::outer))) outer e cls (.ref t) h2/\h'.UpToSlots h2) (L:=s.heap.objs.size) (base:=PySem.W.hideAll s1.heap (frs (envOfC qual scope s.heap.objs.size f cd::outer))) (h:=s1.heap) I.ok.frames rfl (fun b o q=>PySem.W.of_hideAll _ q) (PySem.W.funFrames_hide I.stack fin) hx fun h2 t x1 x2 x3 x4=>⟨h2,t,rfl,x1,x4⟩)) (fun _ s2 ⟨⟨h2,t,e2,x1,x4⟩,kd⟩=>?_) (fun _ _ z=>z.1.elim)
 subst e2
 refine⟨e,cls,.ref t,_,H1,none,rfl,I.os,I.bare,⟨fun b o e1 n hb=>?_,fun b o e1 n hb=>?_,fun b o e1 n=>I.base.free b o e1 n (nx b),fun b o e1 hb=>?_,I.base.tups,I.base.frzs,I.base.tbls⟩,?_,x1,dE.go kd,hj⟩
 . exact PySem.W.hideAll_get _ (I.base.keep b o e1 n hb (nx b)) (old b o e1 hb)
 . obtain⟨z,e2⟩:=I.base.slot b o e1 n hb (nx b)
   obtain⟨_,o',e3,hd⟩:=I.ok.funs.mem hb
   have e3':s.heap.get? b=some o':=e3
   rw [e1] at e3'
   cases e3'
   obtain⟨z2,e4⟩:=x4 b _ (hx.keeps b _ e2) hd
   exact ⟨z2,e4⟩
 . obtain⟨o',e2⟩:=I.base.there b o e1 (nx b)
   exact ⟨o',PySem.W.hideAll_get _ e2 (old b o e1 hb)⟩
 . intro a u y
   refine (I.hok a u y).stay (fun b v hb q=>PySem.W.hideAll_get _ q fun hm=>?_) (fun _ q=>q) fun _ _ q=>q
   have z:=fr1 b hm
   rcases hb with rfl | hb
   . rw [y] at z;cases z
   . rw [hb] at z;cases z
theorem Fun.okX {x:Str}{st:Stmt}{fd:FuncData}{ps:List Str}{k:Nat}{sp:Sp} (F:Fun K x qual st f fd) (S:FnScope N ps (Ak st)) (len:∀ vs H Q E,sp vs H Q E->vs.length=ps.length)
 (hbody:∀ (B5:Value) (A:Around) (outer:List Env) (s:Shared) (H:Hp) (vs:List V) (Q:VK) (E:XK),Room k (A.deeper (envOfC qual (Ak st) s.heap.objs.size f B5))->sp vs H Q E →
   ∃ t,PSs (cxOf (CX1 P w) P w K mg base N qual (Ak st) f B5 A outer s H E) (A2 st) t/\t { nx:=fun _ H'=>Q .non H',rt:=Q } (Jg N vs) H):FnOk P w K mg base (CX1 P w) (k+1) f fd ps sp:=by
 obtain⟨oc,od,kV,doc,pm,an,B5,ct,osl,rfl,lk,hcd⟩:=F.ex
 exact Al7 lk hcd S len fun A outer s H vs Q E hr hsp=>hbody B5 A outer s H vs Q E hr hsp
end
structure HasX (P:Program) (w:World) (K:W.Frag) (mg:Str->Option Value) (base:Heap) (x:Str) (ps:List Str) (k:Nat) (sp:Sp):Prop where
 ex:∃ (f:Addr) (fd:FuncData),mg x=some (.ref f)/\PySem.W.keepIn K (.ref f)=true/\Na K fd ps []/\FnOk P w K mg base (CX1 P w) k f fd ps sp
def Ah8 (sp:Sp) (J:XJ) (t:TA):TE:=fun σ H Q=>t σ H fun vs H1=>sp vs H1 Q (fun cls dx H2=>J cls dx σ H2)
section
variable {X:Cx}{J:XJ}{x:Str}{ps:List Str}{j k:Nat}{sp:Sp}{p pos:Pos}{e:Expr}{es:List Expr}{t:TA}
theorem Ab8 {Aa:List (Addr × Obj)}{σ:St}{H:Hp}{s:Shared}{Q:VK}{us:List Value}{vs:List V}{f:Addr}{fd:FuncData} (F:FnOk X.prog X.w X.K X.mg X.base (CX1 X.prog X.w) k f fd ps sp) (hr:Room k X.A) (hb:Na X.K fd ps []) (hx:m3 X J)
 (I:Inv X Aa σ H s) (r:Vals vs us) (h:sp vs H Q (fun cls dx H2=>J cls dx σ H2)):wpAny (model X.prog X.w) X.A (call (.ref f) us) (EP X Aa σ Q) X.xe s:=by
 have hl:us.length=ps.length:=by rw [←r.length];exact F.len _ _ _ _ h
 have hb1:=hb s us I.kIn (by rw [List.append_nil];exact hl)
 rw [List.append_nil] at hb1
 refine wpAny_call (codeAny_mono (F.run X.A X.stack s H ⟨us,[]⟩ us vs Q _ hr I.env0 hb1 r h) fun q s' hq=>?_)
 cases q with
 | error u =>
   obtain⟨e,cls,a0,B,H',dx,rfl,q1,q2,q3,q4,q5,dE,q6⟩:=hq
   exact hx _ _ ⟨e,cls,a0,dx,σ,H',rfl,⟨B,H,s,I.nopin,q1,q2,q3,q4,q5,dE⟩,q6⟩
 | ok fl =>
   cases fl with
   | ret u=>exact I.after hq
   | next=>exact False.elim hq
   | brk=>exact False.elim hq
   | cont=>exact False.elim hq
theorem Io (hx:m3 X J) (h:HasX X.prog X.w X.K X.mg X.base x ps j sp) (hr:Room k X.A) (hg:Gl X x) (ha:PA X (e::es) t) (hk:j<=k:=by decide) (hdb:(x==("__debug__":Str))=false:=by decide)
 (he:starEach (e::es) X.env=(false,eval e X.env)::starEach es X.env:=by rfl) (hpl:(backTo pos (starEach es X.env)).any (·.1)=false:=by rfl):PE X (.Call (.Name x p) (e::es) [] pos) (Ah8 sp J t):=by
 intro Aa s σ H Q I hw
 obtain⟨f,fd,h1,h2,h3,h4⟩:=h.ex
 refine wpAny_Call_Name_kw (F2 I hg h1 ?_ hdb)
 refine PySem.W.callWith_K (h₀:=X.base) I.ok.mod.kin h2 (thn (ha pos Aa s σ H _ I hw) fun us s1 ⟨vs,H1,I1,r,q⟩=>⟨I1.kIn,?_⟩) he hpl
 exact Ab8 h4 (hr.mono hk) h3 hx I1 r q
end
abbrev bmV:List Value:=[.type "ValueError",.type "Exception",.type "BaseException",.type "object"]
theorem Ad3 {K:W.Frag}{h:Heap}{C:Addr}{bmB:List Value}{nid:String} (X:K.In h) (z:PySem.W.excIn K C bmB nid=true) :
 ∃ bm N nm q bs hdct sn sub ab col dd k0 k1 k2 k3 k5 mN,h.get? C=some (excClassObj nm q C N bs bm hdct sn sub ab col dd k0 k1 k2 k3 k5 nid)/\h.Ns N mN/\mN "__init__"=none/\OwnTail h bmB bm:=by
 unfold PySem.W.excIn at z
 split at z
 case h_2=>cases z
 case h_1 dd cd sl ho =>
  split at z
  case h_2=>cases z
  case h_1 C' bm k0 k1 k2 k3 n k5 hm hs =>
   rw [Bool.and_eq_true,Bool.and_eq_true,Bool.and_eq_true,Bool.and_eq_true,Bool.and_eq_true,beq_iff_eq,beq_iff_eq,Bool.not_eq_true',beq_iff_eq] at z
   obtain⟨⟨⟨⟨⟨z1,z2⟩,z3⟩,z4⟩,z5⟩,z6⟩:=z
   obtain⟨nm,bs,mro,ns,qn,hd,sn,sub,ab,col,del⟩:=cd
   have hm':mro=.ref C'::bm:=hm
   have z3':del=false:=z3
   subst hm' z3' z1 z2
   have hsl:sl=#[k0,k1,k2,k3,some (.builtin n),k5]:=by
    cases sl with
    | mk l =>
      have:l=[k0,k1,k2,k3,some (.builtin n),k5]:=hs
      rw [this]
   subst hsl
   exact ⟨bm,ns,nm,qn,bs,hd,sn,sub,ab,col,dd,k0,k1,k2,k3,k5,_,X _ _ ho,.of_isNs (PySem.W.isNs_of_in X z5),PySem.W.nsMap_none_of_in X z5 z6,PySem.W.tail_of_in X z4⟩
def Ah4 (J:XJ) (C:Addr) (t:TA):TS:=fun _ σ H=>t σ H fun vs H1=>vs.length<=sizeLine/\J (.ref C) none σ H1
theorem Il {X:Cx}{J:XJ}{C:Addr}{x:Str}{np cpos pos:Pos}{e:Expr}{es:List Expr}{t:TA} (hx:Am3 X J) (hc:X.calm=true) (hg:Gl X x) (hm:X.mg x=some (.ref C)) (z:PySem.W.excIn X.K C bmV "ValueError.__new__"=true) (ha:PA X (e::es) t)
 (hdb:(x==("__debug__":Str))=false:=by decide) (he:starEach (e::es) X.env=(false,eval e X.env)::starEach es X.env:=by rfl) (hpl:(backTo cpos (starEach es X.env)).any (·.1)=false:=by rfl) :
 PS X (.Raise (some (.Call (.Name x np) (e::es) [] cpos)) none pos) (Ah4 J C t):=by
 intro Aa s σ H D I h
 obtain⟨bm,N,nm,q,bs,hdct,sn,sub,ab,col,dd,k0,k1,k2,k3,k5,mN,hC,hN,hni,T⟩:=Ad3 I.mod.kin z
 have hp2:(backTo cpos (starEach (e::es) X.env)).any (·.1)=false:=by
  rw [he]
  show (false || (backTo cpos (starEach es X.env)).any (·.1))=false
  rw [hpl]
  rfl
 refine wpAny_Raise_call_subT PySem.F.excBase_ValueError (C:=C) (nm:=nm) (q:=q) (N:=N) (bs:=bs) (bm:=bm) (hdct:=hdct) (sn:=sn) (sub:=sub) (ab:=ab) (col:=col) (dd:=dd) (k0:=k0) (k1:=k1) (k2:=k2) (k3:=k3) (k5:=k5) (mN:=mN)
  (T.hasType PySem.F.excBase_ValueError.hasBase) (I.ok.hd hc) hp2 hni (F2 I hg hm ⟨rfl,?_⟩ hdb)
 have a1:=thn (ha cpos Aa s σ H _ I h) (Q':=fun us s2=>(⟨us,[]⟩:Args).kw=[]/\us.length<=sizeLine/\s2.heap.get? C=some (excClassObj nm q C N bs bm hdct sn sub ab col dd k0 k1 k2 k3 k5 "ValueError.__new__")/\s2.heap.Ns N mN/\OwnTail s2.heap bmV bm ∧
  ∀ h' e,Heap.MadeExcOf s2.heap h' e (.ref C) us->X.xe (.ref e) { s2 with heap:=h' }) fun us s2 ⟨vs,H1,I1,r,hl,hj⟩ =>
  ⟨rfl,by rw [←r.length];exact hl,I1.bk _ _ hC,hN.keeps I1.bk,T.keeps I1.bk,fun h' e2 hmk=>hx Aa σ H1 s2 e2 _ _ h' I1 hmk hj⟩
 rw [he] at a1 ⊢
 exact Calls.evalArgs_plain a1
end L2
namespace L2
open PySem PySem.Spec PyProof.Rows PySem.W
section
variable {X:Cx}{Aa pn:List (Addr × Obj)}{σ:St}{H:Hp}{s:Shared}{J:XJ}
abbrev Cx.pinned (X:Cx) (pn:List (Addr × Obj)):Cx:={ X with pn:=X.pn++pn }
theorem Cx.Ok.pinned (ok:X.Ok) (pn:List (Addr × Obj)):(X.pinned pn).Ok :=
 ⟨ok.mod,ok.kind,ok.glob,ok.blt,ok.above,ok.inj,ok.has,ok.cab,ok.hd,ok.frames,ok.stk,ok.exf,ok.bs,ok.bsz,ok.noex,ok.exfs,ok.funs,ok.frf⟩
theorem Cx.Ok.unpinned' (ok:(X.pinned pn).Ok):X.Ok :=
 ⟨ok.mod,ok.kind,ok.glob,ok.blt,ok.above,ok.inj,ok.has,ok.cab,ok.hd,ok.frames,ok.stk,ok.exf,ok.bs,ok.bsz,ok.noex,ok.exfs,ok.funs,ok.frf⟩
theorem Inv.toPn (I:Inv X Aa σ H s):Inv (X.pinned Aa) [] σ H s:=⟨I.ok.pinned _,I.os,I.bare,I.base,I.loc,I.cell,I.free,I.freeC,fun p hp=>I.pin p (by simpa using hp),I.hok,I.len⟩
theorem Inv.ofPn (I:Inv (X.pinned Aa) [] σ H s):Inv X Aa σ H s:=⟨I.ok.unpinned',I.os,I.bare,I.base,I.loc,I.cell,I.free,I.freeC,fun p hp=>I.pin p (by simpa using hp),I.hok,I.len⟩
abbrev Cx.tried (X:Cx) (pn:List (Addr × Obj)) (J:XJ):Cx:=(X.pinned pn).wish (Fly (X.pinned pn) J)
theorem V6:m3 (X.tried pn J) J:=fun u s' ⟨e,cls,a0,dx,σ,H',h1,⟨B,H,S,I,q⟩,h3⟩=>⟨e,cls,a0,dx,σ,H',h1,⟨B,H,S,I.unwish,q⟩,h3⟩
abbrev Cx.suite (X:Cx) (e:Addr):Cx:={ X with A:=X.A.mark (some (.ref e)),calm:=false,xe:=fun _ _=>False }
theorem Cx.Ok.suite (ok:X.Ok) (e:Addr):(X.suite e).Ok :=
 ⟨ok.mod,ok.kind,ok.glob,ok.blt,ok.above,ok.inj,ok.has,ok.cab,fun z=>Bool.noConfusion z,ok.frames,ok.stk,ok.exf,ok.bs,ok.bsz,ok.noex,ok.exfs,ok.funs,ok.frf⟩
theorem Inv.suite (I:Inv X Aa σ H s) (e:Addr):Inv (X.suite e) Aa σ H s:=⟨I.ok.suite e,I.os,I.bare,I.base,I.loc,I.cell,I.free,I.freeC,I.pin,I.hok,I.len⟩
theorem Inv.unsuite {e:Addr} (ok:X.Ok) (I:Inv (X.suite e) Aa σ H s):Inv X Aa σ H s:=⟨ok,I.os,I.bare,I.base,I.loc,I.cell,I.free,I.freeC,I.pin,I.hok,I.len⟩
theorem Zm {M:Model}{A:Around}{E:Value->Shared->Prop}{i:Nat}{n:Str}{pos:Pos}{Q:Unit->Shared->Prop} (I:Inv X Aa σ H s) (hN:X.N.Nodup) (hi:X.N[i]?=some n) (hk:X.env.kindOf n=some .local)
 (h:∀ s',Inv X Aa (σ.set i none) H s'->Q () s'):wpAny M A (do bindName X.env n .none;unbindBehindTheSuite X.env n pos) Q E s:=by
 obtain⟨m,hn,hl⟩:=id I.loc
 have hcls:(X.env.scope.kind==.class || (X.env.scope.kind==.module&&X.env.locals != X.env.globals))=false:=by rw [I.ok.kind];rfl
 refine wpAny_nameGoes_keeps hk hn hcls fun h' v hn' hs=>h _ ?_
 have lt:∀ b o,X.s₀.heap.get? b=some o->b≠X.env.locals:=fun b o e=>Nat.ne_of_lt (Nat.lt_of_lt_of_le (Heap.lt_size e) I.ok.above)
 refine⟨I.ok,I.os,I.bare,⟨fun b o e z hb hx=>(hs.2 b (lt b o e)).trans (I.base.keep b o e z hb hx),fun b o e z hb hx=>?_,I.base.free,fun b o e hx=>?_,I.base.tups,I.base.frzs,I.base.tbls⟩,⟨_,hn',fun j y v' e1 e2 e3=>?_⟩,fun y c e=>?_,I.free,I.freeC,fun p hp=>?_,fun b o e=>?_,by simpa using I.len⟩
 . obtain⟨sl,e1⟩:=I.base.slot b o e z hb hx
   exact ⟨sl,(hs.2 b (lt b o e)).trans e1⟩
 . obtain⟨o',e1⟩:=I.base.there b o e hx
   exact ⟨o',(hs.2 b (lt b o e)).trans e1⟩
 . have hj:i≠j:=by
    rintro rfl
    rw [List.getElem?_set] at e2
    simp at e2
   rw [List.getElem?_set_ne hj] at e2
   obtain⟨u,r,q⟩:=hl j y v' e1 e2 e3
   refine⟨u,r,?_⟩
   rcases q with ⟨k,z⟩|⟨k,c,z,w'⟩
   . have:y≠n:=fun z'=>hj (Pw hN hi (z'▸e1))
     exact .inl ⟨k,by simp [this,z]⟩
   . exact .inr ⟨k,c,z,w'.sameBut hs (I.cne y c z)⟩
 . obtain⟨w',z⟩:=I.cell y c e
   exact ⟨w',z.sameBut hs (I.cne y c e)⟩
 . obtain⟨e,z,ne,nf,d⟩:=I.pin p hp
   exact ⟨(hs.2 p.1 ne).trans e,z,ne,nf,d⟩
 . refine (I.hok b o e).stay (fun c w' hc q=>(hs.2 c ?_).trans q) (fun _ q=>q) fun _ _ q=>q
   rintro rfl
   have hf:=I.free
   rcases hc with rfl | hc
   . rw [hf] at e;cases e
   . rw [hf] at hc;cases hc
end
def PH (X:Cx) (hs:List ExceptHandler) (th:Ends->XJ):Prop:=∀ (Aa:List (Addr × Obj)) (s:Shared) (σ:St) (H:Hp) (D:Ends) (e:Addr) (cls a0:Value) (dx:Option Addr),FlyAt X Aa e cls a0 dx σ H s->th D cls dx σ H →
 wpAny (model X.prog X.w) X.A (handleBy (.ref e) X.env hs) (SP X Aa D) X.xe s
def hNo:Ends->XJ:=fun _ _ _ _ _=>False
theorem Ac6 {X:Cx}:PH X [] hNo:=fun _ _ _ _ _ _ _ _ _ _ h=>h.elim
def Aa0 (i:Nat) (D:Ends):Ends:={ nx:=fun σ H=>D.nx (σ.set i none) H,rt:=D.rt,bk:=fun σ H=>D.bk (σ.set i none) H,ct:=fun σ H=>D.ct (σ.set i none) H }
def hAs (K:Frag) (C:Addr) (i:Nat) (ts:TS) (th:Ends->XJ):Ends->XJ:=fun D cls dx σ H=>∃ (C':Addr) (b:Bool),cls=.ref C'/\subIn K (.ref C') (.ref C)=some b ∧
 if b=true then ∀ e,H e=none->ts (Aa0 i D) (σ.set i (some (.ref e))) (upd H e (excX e cls dx)) else th D cls dx σ H
theorem g7 {M:Model}{A:Around}{E:Value->Shared->Prop}{nm q:Str}{C C' N:Addr}{bs bm:List Value}{hdct:Bool}{sn:List Str}{sub:List Value}{ab:Bool}{col:Option Bool}{dd:Option Addr}{k0 k1 k2 k3 k5:Option Value}{nid:String}
 {h:Heap}{g:Array GenState}{d:Drawn}{t:Nat}{os:OsState}{e:Addr}{oe:Obj}{b:Bool}{Q:Bool->Shared->Prop} (hC:h.get? C=some (excClassObj nm q C N bs bm hdct sn sub ab col dd k0 k1 k2 k3 k5 nid))
 (he:h.get? e=some oe) (hcls:oe.cls=.ref C') (hbase:bm.contains (.type "BaseException")=true) (LS:Looks M h (isSubtype (.ref C') (.ref C)) b) (hq:Q b ⟨h,g,d,t,os⟩):wpAny M A (excMatches (.ref e) (.ref C)) Q E ⟨h,g,d,t,os⟩:=by
 have hb2:(Value.ref C::bm).contains (.type "BaseException")=true:=by rw [List.contains_cons,hbase,Bool.or_true]
 have tnt:=tc_notTuple
 unfold excMatches
 repeat (first | (with_reducible refine wpAny_loadPart_at he ?_;rw [hcls]) | with_reducible refine wpAny_loadPart_at hC ?_ | (with_reducible refine wpAny_isSubtype_exc hC ?_;rw [hb2]) | with_reducible refine LS.at ?_ | wp_step)
 cases b<;>(wp_walk;exact hq)
section
variable {X:Cx}{th:Ends->XJ}
theorem p9 {x n:Str}{i:Nat}{C:Addr}{np hpos:Pos}{b0:Stmt}{bs:List Stmt}{ts:TS}{rest:List ExceptHandler} (hN:X.N.Nodup) (hi:X.N[i]?=some n) (hk:X.env.kindOf n=some .local) (hg:Gl X x) (hm:X.mg x=some (.ref C)) (hC:ktsIn X.K C "BaseException"=true)
 (hs:∀ e,PSs (X.suite e) (b0::bs) ts) (hr:PH X rest th) (hdb:(x==("__debug__":Str))=false:=by decide):PH X (.ExceptHandler (some (.Name x np)) (some n) (b0::bs) hpos::rest) (hAs X.K C i ts th):=by
 intro Aa s σ H D e cls a0 dx F h
 obtain⟨C',b,rfl,hb,h⟩:=h
 have I:=F.inv.1
 obtain⟨nm,qn,N,bs',bm,hdct,sn,sub,ab,col,dd,k0,k1,k2,k3,k5,nid,hCo,hbase,_⟩:=kts_cls I.kIn hC
 have F':=F
 obtain⟨B,H0,S,I0,q1,q2,q3,q4,q5,dE⟩:=F'
 obtain⟨oe,he,hcls⟩:=q5.there
 refine wpAny_handleBy_cons (codeAny_handlers_test (F2 (X:=X.suite e) (I.suite e) hg hm ?_ hdb)) (by intro q;cases q)
 have LS:Looks (model X.prog X.w) s.heap (isSubtype (.ref C') (.ref C)) b:=looks_subIn I.kIn hb
 obtain⟨sh,sg,sd,st,so⟩:=s
 refine g7 hCo he hcls hbase LS ?_
 cases b with
 | false =>
   rw [if_neg Bool.false_ne_true] at h
   exact hr Aa _ σ H D e _ a0 dx F h
 | true =>
   rw [if_pos rfl] at h
   refine codeAny_handlers_suite_as ?_
   refine wpAny_mono (By (F4 _ _) (lands_againW (E:=fun _ _=>False) (Q:=fun _ s2=>∃ h6,s2={ (⟨sh,sg,sd,st,so⟩:Shared) with heap:=h6 }/\Heap.FlyingW B X.stack e (.ref C') a0 h6/\sh.UpToSlots h6) q5 fun h6 f6 up6=>⟨h6,rfl,f6,up6⟩)) (fun _ s2 ⟨⟨h6,e6,f6,up6⟩,kd⟩=>?_) (fun _ _ z=>z.1.elim)
   subst e6
   have F6:=FlyAt.step I0 q1 q2 q3 q4 q5 f6 up6 (dE.go kd)
   obtain⟨I6,hn⟩:=F6.held
   refine Oy (v:=.ref e) I6 hN hi (.inl hk) rfl (fun s7 I7=>?_) (.inr hk)
   refine wpAny_mono (hs e Aa s7 _ _ (Aa0 i D) (I7.suite e) (h e hn)) (fun f s8 q=>?_) fun _ _ z=>z.elim
   have go:∀{σ':St}{H':Hp}{f:Flow},Inv (X.suite e) Aa σ' H' s8->(∀ s9,Inv X Aa (σ'.set i none) H' s9->SP X Aa D f s9)->wpAny (model X.prog X.w) X.A (do bindName X.env n .none;unbindBehindTheSuite X.env n hpos) (fun _ s9=>SP X Aa D f s9) X.xe s8 :=
    fun {σ' H' f} I8 k=>Zm (I8.unsuite I.ok) hN hi hk k
   cases f with
   | next=>obtain⟨σ',H',I8,q⟩:=q;exact go I8 fun s9 I9=>⟨_,H',I9,q⟩
   | brk=>obtain⟨σ',H',I8,q⟩:=q;exact go I8 fun s9 I9=>⟨_,H',I9,q⟩
   | cont=>obtain⟨σ',H',I8,q⟩:=q;exact go I8 fun s9 I9=>⟨_,H',I9,q⟩
   | ret u=>obtain⟨v,σ',H',I8,r,q⟩:=q;exact go I8 fun s9 I9=>⟨v,_,H',I9,r,q⟩
def tTry (tb:XJ->TS) (th:Ends->XJ):TS:=fun D σ H=>tb (th D) D σ H
theorem Ai8 {tb:XJ->TS}{body:List Stmt}{h0:ExceptHandler}{hs:List ExceptHandler}{pos:Pos} (hb:∀ pn J,PSs (X.tried pn J) body (tb J)) (hh:PH X (h0::hs) th) (hstk:X.stack=X.env::X.outer:=by rfl) (hfr:X.env.frame=some X.env.locals:=by rfl) :
 PS X (.Try body (h0::hs) [] [] pos) (tTry tb th):=by
 intro Aa s σ H D I h
 refine wpAny_Try_except (wpAny_mono (hb Aa (th D) [] s σ H D (I.toPn.wish _) h) (fun f s1 q=>?_) fun u s1 q=>?_)
 . cases f with
   | next=>obtain⟨σ',H',I',q⟩:=q;exact wpAny_execs_nil ⟨σ',H',I'.unwish.ofPn,q⟩
   | brk=>obtain⟨σ',H',I',q⟩:=q;exact ⟨σ',H',I'.unwish.ofPn,q⟩
   | cont=>obtain⟨σ',H',I',q⟩:=q;exact ⟨σ',H',I'.unwish.ofPn,q⟩
   | ret u=>obtain⟨v,σ',H',I',r,q⟩:=q;exact ⟨v,σ',H',I'.unwish.ofPn,r,q⟩
 . obtain⟨e,cls,a0,dx,σ',H',rfl,⟨B,H1,S,I1,q1,q2,q3,q4,q5,dE⟩,hj⟩:=q
   have q5':Heap.FlyingW B (X.env::X.outer) e cls a0 s1.heap:=hstk▸q5
   refine wpAny_mono (By (F5 _ _) (wpAny_looks_onW (E:=fun _ _=>False) (Q:=fun _ s2=>∃ h4,s2={ s1 with heap:=h4 }/\Heap.HeldW B (X.env::X.outer) e cls a0 X.env.locals h4/\s1.heap.UpToSlots h4) (L:=X.env.locals) (I.ok.frames.trans (congrArg some hstk)) hfr q5' fun h4 held4 up4=>⟨h4,rfl,held4,up4⟩)) (fun _ s2 ⟨⟨h4,e4,held4,up4⟩,kd4⟩=>?_) (fun _ _ z=>z.1.elim)
   subst e4
   refine wpAny_mono (By (F4 _ _) (wpAny_landsW (E:=fun _ _=>False) (Q:=fun _ s2=>∃ h5,s2={ s1 with heap:=h5 }/\Heap.FlyingW B (X.env::X.outer) e cls a0 h5/\h4.UpToSlots h5) held4 fun h5 fl5 up5=>⟨h5,rfl,fl5,up5⟩)) (fun _ s2 ⟨⟨h5,e5,fl5,up5⟩,kd5⟩=>?_) (fun _ _ z=>z.1.elim)
   subst e5
   exact hh Aa _ σ' H' D e cls a0 dx (FlyAt.step (s':=s1) I1.ofPn q1 q2 q3 q4 q5 (hstk▸fl5) (up4.trans up5) (dE.go (kd4.trans kd5))) hj
end
structure ExcC (K:Frag) (C:Addr):Prop where
 cls:ktsIn K C "BaseException"=true
 ga:findIn K (.ref C) "__getattribute__"=some (some (.builtin "BaseException.__getattribute__"))
 gt:findIn K (.ref C) "__getattr__"=some none
 cl:findIn K (.ref C) "__class__"=some (some (.builtin "object.__class__"))
 ob:subIn K (.ref C) (.type "object")=some true
 be:subIn K (.ref C) (.type "BaseException")=some true
section
variable {prog:Program}{w:World}{A:Around}{E:Value->Shared->Prop}{h:Heap}{g:Array GenState}{d:Drawn}{t:Nat}{os:OsState}{a C:Addr}{o:Obj}{K:Frag}
theorem m4 {R:Result->Shared->Prop} (X:K.In h) (Z:ExcC K C) (hx:h.get? a=some o) (hc:o.cls=.ref C) (hq:R (.ok (.ret (.ref C))) ⟨h,g,d,t,os⟩) :
 codeAny (model prog w) A (.call (.builtin "getset_descriptor.__get__") ⟨[.builtin "object.__class__",.ref a,.ref C],[]⟩) R ⟨h,g,d,t,os⟩:=by
 have ht:(⟨h,g,d,t,os⟩:Shared).TypeIs (.builtin "object.__class__") "getset_descriptor":=F.typeOf_object_class
 have LS:Looks (model prog w) h (isSubtype (.ref C) (.type (".".intercalate ("object.__class__".cutAt '.').dropLast))) true:=by rw [F.owner_object_class];exact looks_subIn X Z.ob
 refine codeAny_call_builtin F.slot_gs_get.plain F.entry_gs_get (F.slot_gs_get.check _ _ _ _ _ _ _ _ ht (F.args_gs_get _ _ _) ?_)
 repeat (any_goals (first | assumption | (with_reducible refine wpAny_loadPart_at hx ?_;rw [hc]) | with_reducible refine LS.at ?_ | wp_step))
 refine⟨Code.quiet_builtin _ (by decide +kernel),codeAny_builtin F.entry_object_class ?_⟩
 repeat (any_goals (first | assumption | (with_reducible refine wpAny_loadPart_at hx ?_;rw [hc]) | wp_step))
theorem Xe {tk:Tok}{Q:PySem.Fin->Shared->Prop} (X:K.In h) (Z:ExcC K C) (hx:h.get? a=some o) (hc:o.cls=.ref C) (hq:Q (.done (.ret (.ref C))) ⟨h,g,d,t,os⟩) :
 wpAny (model prog w) A (Builtin.«object.__getattribute__» ⟨[.ref a,.str "__class__" tk],[]⟩) Q E ⟨h,g,d,t,os⟩:=by
 have ht:(⟨h,g,d,t,os⟩:Shared).TypeIs (.builtin "object.__class__") "getset_descriptor":=F.typeOf_object_class
 have L1:Looks (model prog w) h (typeLookup (.ref C) "__class__") (some (.builtin "object.__class__")):=looks_findIn X Z.cl
 have f5:=F.typeOf_object_class
 have f6:=F.slot_gs_get.lookup
 have f7:=F.slot_gs_set.lookup
 repeat (any_goals (first | assumption | (with_reducible refine wpAny_loadPart_at hx ?_;rw [hc]) | with_reducible refine L1.at ?_ | wp_step))
 refine m4 X Z hx hc ?_
 repeat (any_goals (first | assumption | wp_step))
theorem N1 {M:Model}{nameV:Value}{Q:Unit->Shared->Prop} (X:K.In h) (Z:ExcC K C) (hx:h.get? a=some o) (hc:o.cls=.ref C) (hq:Q () ⟨h,g,d,t,os⟩) :
 wpAny M A (checkBuiltinCall "BaseException.__getattribute__" ⟨[.ref a,nameV],[]⟩) Q E ⟨h,g,d,t,os⟩:=by
 have hk:builtinKind "BaseException.__getattribute__"=some .slot:=by decide +kernel
 have hsp:splitId "BaseException.__getattribute__"=some ("BaseException","__getattribute__"):=by decide +kernel
 have LS:Looks M h (isSubtype (.ref C) (.type "BaseException")) true:=looks_subIn X Z.be
 have ha:=F.args_bexc_ga (.ref a) nameV
 simp only [checkBuiltinCall,hk,hsp]
 refine wpAny_bind ?_
 unfold isInstance
 repeat (first | (with_reducible refine wpAny_loadPart_at hx ?_;rw [hc]) | with_reducible refine LS.at ?_ | wp_step)
 exact hq
theorem Zi {tk:Tok}{R:Result->Shared->Prop} (X:K.In h) (Z:ExcC K C) (hx:h.get? a=some o) (hc:o.cls=.ref C) (hq:R (.ok (.ret (.ref C))) ⟨h,g,d,t,os⟩) :
 codeAny (model prog w) A (.call (.builtin "BaseException.__getattribute__") ⟨[.ref a,.str "__class__" tk],[]⟩) R ⟨h,g,d,t,os⟩ :=
 codeAny_call_builtin F.attr_ValueError.ga.plain F.entry_bexc_ga (N1 X Z hx hc (Xe X Z hx hc hq))
theorem Aa5 {tk:Tok}{fill expr:Bool}{Q:Value->Shared->Prop} (X:K.In h) (Z:ExcC K C) (hx:h.get? a=some o) (hc:o.cls=.ref C) (hq:Q (.ref C) ⟨h,g,d,t,os⟩) :
 wpAny (model prog w) A (getAttrBy (.ref a) (.str "__class__" tk) fill expr) Q E ⟨h,g,d,t,os⟩:=by
 have f3:=F.attr_ValueError.ga.bind (.ref a)
 have hx0:(expr&&onTheHeap (Value.builtin "BaseException.__getattribute__"))=false:=by cases expr<;>rfl
 have hx2:(Value.builtin "BaseException.__getattribute__"==Value.builtin "object.__getattribute__")=false:=by decide +kernel
 have hx1:(onTheHeap (Value.ref C)&&Value.builtin "BaseException.__getattribute__"==Value.builtin "object.__getattribute__")=false:=by rw [hx2];rfl
 have L1:Looks (model prog w) h (typeLookup (.ref C) "__getattribute__") (some (.builtin "BaseException.__getattribute__")):=looks_findIn X Z.ga
 have L2':Looks (model prog w) h (typeLookup (.ref C) "__getattr__") none:=looks_findIn X Z.gt
 repeat (any_goals (first | assumption | (with_reducible refine wpAny_loadPart_at hx ?_;rw [hc]) | with_reducible refine L1.at ?_ | with_reducible refine L2'.at ?_ | wp_step))
 refine Zi X Z hx hc ?_
 repeat (any_goals (first | assumption | wp_step))
theorem Zj {Q:Option Value->Shared->Prop} (X:K.In h) (Z:ExcC K C) (hx:h.get? a=some o) (hc:o.cls=.ref C) (hq:Q (some (.ref C)) ⟨h,g,d,t+1,os⟩):wpAny (model prog w) A (getAttr? (.ref a) "__class__") Q E ⟨h,g,d,t,os⟩:=by
 unfold getAttr? getAttrBy?
 repeat (any_goals (first | assumption | with_reducible apply Aa5 X Z hx hc | wp_step))
theorem W4 (Z:ExcC K C):KitX K (.ref a) (.ref C) (fun h=>∃ o,h.get? a=some o/\o.cls=.ref C) where
 ty:=fun M h X ⟨o,e,c⟩=>by
  have:=(Looks.ld (M:=M) (part:=none) e).andThen (f:=fun ob=>pure ob.cls) .now
  rw [c] at this
  exact this
 it:=fun M h X _=>by
  obtain⟨nm,qn,N,bs',bm,hdct,sn,sub,ab,col,dd,k0,k1,k2,k3,k5,nid,hCo,_,_⟩:=kts_cls X Z.cls
  intro A' Q' E' s' k q
  unfold isType loadHead
  exact wpAny_bind (wpAny_loadPart (k _ _ hCo) (wpAny_pure q))
 ne:=fun h tp dd its n sl X htp=>by
  obtain⟨nm,qn,N,bs',bm,hdct,sn,sub,ab,col,dd,k0,k1,k2,k3,k5,nid,hCo,_,_⟩:=kts_cls X Z.cls
  refine Bool.eq_false_iff.mpr fun q=>?_
  have e:C=tp:=Value.ref.inj (beq_iff_eq.mp q)
  subst e
  have z:=congrArg Obj.cls (Option.some.inj (hCo.symm.trans htp))
  have z2:("type":String)="tuple":=by injection z
  exact absurd z2 (by decide)
 ca:=fun {prog w A E Q s} X ⟨o,e,c⟩ k=>by
  obtain⟨sh,sg,sd,st,so⟩:=s
  exact Zj X Z e c k
end
section
variable {X:Cx}{K:Frag}
theorem Du (hK:X.K=K:=by rfl):D9 X (.builtin "isinstance") (fun xs H Q=>∃ (e C:Addr) (y:V) (c:Value) (b:Bool),xs=[.ref e,y]/\RelV y c/\(∀ u,RelV y u->u=c)/\H e=some (excO e (.ref C))/\ExcC K C/\kitOne K (.ref C) c=some b/\Q (.bl b) H):=by
 subst hK
 intro Aa s σ H xs us Q I r h
 obtain⟨e,C,y,c,b,rfl,_,hy,hH,Z,kk,q⟩:=h
 obtain⟨u,v,rfl,rx,rt⟩:=Up r
 cases rx
 cases hy v rt
 have ho:=I.hok e _ hH
 obtain⟨⟨o,vs,e1,c1,_⟩,_⟩:=ho
 exact kia_one (W4 Z) I.kIn ⟨o,e1,c1⟩ kk (fun z=>nomatch z) fun tk=>⟨.bl b,H,I.tok tk,rfl,q⟩
theorem Be {D:Addr}:∀ u,RelV (.ref D) u->u=.ref D:=fun u h=>h
theorem Ov {n:String}:∀ u,RelV (.ty n) u->u=.type n:=fun u h=>h
end
end L2
namespace L2
open PySem PySem.Spec PyProof.Rows
def Ite (K:W.Frag) (a:Addr):It :=
 ⟨fun i H=>∃ xs x,SqL K H a xs/\xs[i]?=some x,fun i H x H'=>∃ p v,H p=none/\x=.ref p/\H'=upd H p (.tup [.int i,v])/\∀ xs,SqL K H a xs->xs[i]?=some v,fun i H=>∃ xs,SqL K H a xs/\xs.length<=i⟩
theorem Zp {P:Program}{w:World}{K:W.Frag}{es:List Expr}{x1:Nat}{tpos:Pos} (a e it:Addr) (hne:e≠it):Turn P w K (.Tuple es x1 tpos) (Ite K a) [e,it] e (fun i h=>(∃ old,IsEnum h e it (i:Int) old)/\h.IsListIter it a i) where
 mem:=by simp
 obj:=fun i h st b hb=>by
  obtain⟨⟨old,h1⟩,o,h2,c,d⟩:=st
  rcases List.mem_cons.mp hb with rfl | hb
  . exact ⟨_,h1,fun v z=>by cases (show Data.fields _=Data.cell v from z)⟩
  . have z:b=it:=by simpa using hb
    subst z
    exact ⟨o,h2,fun v z=>by rw [d] at z;cases z⟩
 keep:=fun i h h' st k=>by
  obtain⟨⟨old,h1⟩,h2⟩:=st
  exact ⟨⟨old,k e (by simp) _ h1⟩,h2.at fun o z=>k it (by simp) o z⟩
 item:=by
  intro X hP hw hK hc i Aa s σ H E I hf st hg
  subst hP hw hK
  obtain⟨⟨old,h1⟩,h2⟩:=st
  obtain⟨xs,x,hq,hx⟩:=hg
  obtain⟨its,rv,p,hz⟩:=I.list hq
  obtain⟨u,hu,ru⟩:=rv.get hx
  have fe:=hf e (by simp)
  have fi:=hf it (by simp)
  have lte:e<s.heap.objs.size:=Heap.lt_size h1
  have hfresh:H s.heap.objs.size=none:=I.hok.fresh (Nat.le_refl _)
  refine wpAny_pyNext_enum_item h1 h2 p.isList (x:=u) (by simpa using hu) hne fun h' hout hit' htup hsz hk=>?_
  refine⟨_,rfl,wpAny_letOwnedTupleGo_enum hout fun h3 hen hsb=>?_⟩
  replace hsb:Heap.SameBut e h' h3:=hsb
  have kk:∀ b o,b≠e->b≠it->s.heap.get? b=some o->h3.get? b=some o:=fun b o n1 n2 z=>(hsb.2 b n1).trans (hk b o n1 n2 z)
  have ht3:h3.get? s.heap.objs.size=some { cls:=.type "tuple",data:=.seq #[.int i s.toks,u] }:=(hsb.2 _ (Nat.ne_of_gt lte)).trans htup
  have hi3:h3.IsListIter it a (i+1):=hit'.at fun o z=>(hsb.2 it hne.symm).trans z
  have nch:∀ b,b ∉ [e,it]->b≠e/\b≠it:=fun b hb=>by simpa using hb
  have ntr:∀ b v,H b=some v->b≠e/\b≠it:=fun b v z=>⟨A8 z fe.1,A8 z fi.1⟩
  have nsz:∀ b v,H b=some v->b≠s.heap.objs.size:=fun b v z=>A8 z hfresh
  refine⟨.ref s.heap.objs.size,upd H s.heap.objs.size (.tup [.int i,x]),?_,rfl,⟨s.heap.objs.size,x,hfresh,rfl,rfl,fun ys hy=>by rw [I.list_inj hy hq];exact hx⟩,⟨⟨_,hen⟩,hi3⟩,fun b hb=>?_⟩
  . refine Inv.step (s:=s) (h':=h3) (t':=s.toks+1) (H':=upd H s.heap.objs.size (.tup [.int i,x])) I (g':=s.gens) (d':=s.drawn) (ch:=[e,it]) (fun b hb=>?_) (fun b o _ _ hb z _=>kk b o (nch b hb).1 (nch b hb).2 z) (fun b o _ _ hb z _=>⟨o.slots,kk b o (nch b hb).1 (nch b hb).2 z⟩) (fun b o hb z n=>?_) (fun b o hb z=>⟨o,kk b o (nch b hb).1 (nch b hb).2 z⟩)
     (fun b ys z=>by rw [Ax (nsz b _ z)];exact z) (fun b o v z=>by rw [Ax (nsz b _ z)];exact z) (fun b ps z=>⟨#[],by rw [Ax (nsz b _ z),z];simp⟩) (fun m hm=>?_) (fun b v z=>?_) I.bare
    . rcases List.mem_cons.mp hb with rfl | hb
      . exact ⟨fe.2.2.2.1,fe.2.1,fe.2.2.2.2.1,fe.2.2.2.2.2⟩
      . have z:b=it:=by simpa using hb
        subst z
        exact ⟨fi.2.2.2.1,fi.2.1,fi.2.2.2.2.1,fi.2.2.2.2.2⟩
    . rw [Ax (Nat.ne_of_lt (Heap.lt_size z))]
      exact n
    . obtain⟨o,es',ep,ho,r⟩:=hm
      exact ⟨o,es',ep,kk _ o fe.2.1.symm fi.2.1.symm ho,r⟩
    . by_cases hb:b=s.heap.objs.size
      . subst hb
        rw [Ae] at z
        cases z
        exact ⟨(by show (2:Nat)<=sizeLine;decide),[.int i s.toks,u],.cons ⟨_,rfl⟩ (.cons ru .nil),⟨_,ht3,rfl,rfl,_,rfl⟩⟩
      . rw [Ax hb] at z
        refine (I.hok b v z).stay (fun c y hc' q=>?_) (fun c q=>by rw [Ax (nsz c _ q)];exact q) fun c ys q=>by rw [Ax (nsz c _ q)];exact q
        rcases hc' with rfl | hc'
        . exact kk _ _ (ntr _ _ z).1 (ntr _ _ z).2 q
        . exact kk _ _ (ntr _ _ hc').1 (ntr _ _ hc').2 q
  . have lb:b<s.heap.objs.size:=by
     rcases List.mem_cons.mp hb with rfl | hb
     . exact lte
     . have z:b=it:=by simpa using hb
       subst z
       obtain⟨o,z,_⟩:=h2
       exact Heap.lt_size z
    rw [Ax (Nat.ne_of_lt lb)]
    exact (hf b hb).1
 done:=by
  intro X hP hw hK hc i Aa s σ H E I hf st hg
  subst hP hw hK
  obtain⟨⟨old,h1⟩,h2⟩:=st
  obtain⟨xs,hq,hx⟩:=hg
  obtain⟨its,rv,p,hz⟩:=I.list hq
  obtain⟨f0,f1,f2,f3,f4,f5⟩:=hf it (by simp)
  have hl:=rv.length
  exact wpAny_pyNext_enum_end (I.ok.hd hc) h1 h2 p.isList (by simp;omega) fun h' eb=>⟨rfl,I.turned (t':=s.toks) (fun b o hb z=>eb b o hb z) f0 f1 f3 f4 f5⟩
 self:=fun _ _ _ _ _ st h=>by
  obtain⟨⟨old,h1⟩,h2⟩:=st
  exact wpAny_pyIter_enum h1 h
def Ap5 (K:W.Frag) (ta:TA):TI:=fun σ H R=>ta σ H fun vs H1=>∃ a,vs=[.ref a]/\(∃ xs,SqL K H1 a xs)/\R (Ite K a) H1
theorem Mt:bootBuiltins "enumerate"=some (.type "enumerate"):=by decide +kernel
theorem Z5 {X:Cx}{K:W.Frag}{es:List Expr}{x1:Nat}{tpos:Pos}{a:Expr}{ta:TA}{p pos:Pos} (hg:Gl X "enumerate") (hm:X.mg "enumerate"=none) (ha:PA X [a] ta) (hK:X.K=K:=by rfl) (hs:starEach [a] X.env=[(false,eval a X.env)]:=by rfl):PI X (.Tuple es x1 tpos) (.Call (.Name "enumerate" p) [a] [] pos) (Ap5 K ta):=by
 subst hK
 intro Aa s σ H R I h
 refine Call_ (Sn I hg hm Mt (PyProof.Rows.callWith_type1 (thn (ha pos Aa s σ H _ I h) fun us s1 ⟨vs,H1,I1,r1,q1⟩=>?_) hs rfl))
 obtain⟨l,e,⟨xs,hq⟩,q⟩:=q1
 subst e
 cases r1 with
 | cons r rr =>
   cases rr
   cases r
   obtain⟨its,rv,pl,hz⟩:=I1.list hq
   refine call_enumerate_list pl.isList fun h' hen hit hsz hk=>?_
   refine wpAny_pyIter_enum hen ⟨s1.heap.objs.size+1,[s1.heap.objs.size+1,s1.heap.objs.size],_,_,H1,rfl,I1.kept (t':=s1.toks) hk,Zp l _ _ (Nat.succ_ne_self _),⟨⟨_,hen⟩,hit⟩,fun b hb=>?_,q⟩
   have lb:s1.heap.objs.size<=b:=by
    rcases List.mem_cons.mp hb with rfl | hb
    . exact Nat.le_succ _
    . have z:b=s1.heap.objs.size:=by simpa using hb
      rw [z]
      exact Nat.le_refl _
   exact I1.fpOk lb (I1.hok.fresh lb)
section
variable {g:TG}{tc:TT}{te:TE}{D:Addr}{Q:Hp->Prop}{τ:St}{H:Hp}
theorem W7 {K:W.Frag}{a:Addr}{xs:List V}{g:TG}{tb:TS}{D:Ends}{σ:St}{H:Hp} (Pv:Nat->St->Hp->Prop) (h0:Pv 0 σ H) (hl:∀ i σ H,i<=xs.length->Pv i σ H->SqL K H a xs)
 (hs:∀ i x σ H p,xs[i]?=some x->Pv i σ H->H p=none->g (.ref p) σ (upd H p (.tup [.int i,x])) fun σ2 H2=>tb { D with nx:=Pv (i+1),ct:=Pv (i+1),bk:=D.nx } σ2 H2) (hd:∀ σ H,Pv xs.length σ H->D.nx σ H) :
 ∃ W:Nat->Nat->St->Hp->Prop,(∃ m,W 0 m σ H)/\∀ i m σ H,W i m σ H →
   ((Ite K a).stop i H/\D.nx σ H)\/((Ite K a).go i H/\∃ N:St->Hp->Prop,(∀ σ' H',N σ' H'->∃ m',m'<m/\W (i+1) m' σ' H')/\∀ x H',(Ite K a).yld i H x H'->g x σ H' fun σ2 H2=>tb { D with nx:=N,ct:=N,bk:=D.nx } σ2 H2):=by
 refine⟨fun i m σ H=>m=xs.length-i/\i<=xs.length/\Pv i σ H,⟨xs.length,by simp,Nat.zero_le _,h0⟩,?_⟩
 rintro i m σ H ⟨rfl,hi,pp⟩
 have q:=hl i σ H hi pp
 by_cases hlt:i<xs.length
 . refine .inr ⟨⟨xs,xs[i],q,by simp [hlt]⟩,Pv (i+1),fun σ' H' p'=>⟨xs.length-(i+1),by omega,rfl,hlt,p'⟩,fun x H' y=>?_⟩
   obtain⟨p,v,hp,rfl,rfl,y⟩:=y
   exact hs i v σ _ p (y xs q) pp hp
 . have e:i=xs.length:=by omega
   subst e
   exact .inl ⟨⟨xs,q,Nat.le_refl _⟩,hd σ H pp⟩
end
end L2
namespace L2
open PySem PySem.Spec PyProof.Rows
section
variable {g:TG}{tc:TT}{te:TE}{D:Addr}{Q:Hp->Prop}{τ:St}{H:Hp}
end
end L2
namespace L2
open PySem PySem.W PySem.Calls PyProof.Rows
end L2
namespace L2
open PySem PySem.Spec PyProof.Rows
section
variable {κ:Type} [DecidableEq κ]
def valV (A0:List (κ × V)) (k:κ):Option V:=(A0.find? fun kv=>decide (kv.1=k)).map (·.2)
def putK (A0:List (κ × V)) (k:κ) (v:V):List (κ × V) :=
 if (A0.any fun kv=>decide (kv.1=k))=true then A0.map (fun kv=>if kv.1=k then (kv.1,v) else kv) else A0++[(k,v)]
theorem Ct {p:κ × V}{r:List (κ × V)}{k:κ} (e:p.1=k):valV (p::r) k=some p.2:=by simp [valV,List.find?_cons,e]
theorem Cu {p:κ × V}{r:List (κ × V)}{k:κ} (e:¬p.1=k):valV (p::r) k=valV r k:=by simp [valV,List.find?_cons,e]
theorem Lb (k:κ):∀ A0:List (κ × V),(A0.any fun kv=>decide (kv.1=k))=(valV A0 k).isSome
 | []=>rfl
 | p::r=>by
   rw [List.any_cons]
   by_cases e:p.1=k
   . simp only [Ct e,decide_eq_true e,Bool.true_or,Option.isSome_some]
   . rw [Cu e,decide_eq_false e,Bool.false_or];exact Lb k r
theorem Ws (k j:κ) (y:V):∀ A0:List (κ × V),valV (A0.map fun kv=>if kv.1=k then (kv.1,y) else kv) j=(valV A0 j).map fun x=>if j=k then y else x
 | []=>rfl
 | p::r=>by
   have ih:=Ws k j y r
   rw [List.map_cons]
   by_cases h:p.1=k
   . rw [if_pos h]
     by_cases e:p.1=j
     . rw [Ct (p:=(p.1,y)) e,Ct e,Option.map_some,if_pos (e.symm.trans h)]
     . rw [Cu (p:=(p.1,y)) e,Cu e,ih]
   . rw [if_neg h]
     by_cases e:p.1=j
     . rw [Ct (p:=p) e,Ct e,Option.map_some,if_neg (fun z=>h (e.trans z))]
     . rw [Cu (p:=p) e,Cu e,ih]
theorem Qn (k j:κ) (y:V):∀ A0:List (κ × V),valV A0 k=none->valV (A0++[(k,y)]) j=if j=k then some y else valV A0 j
 | [],_=>by
   by_cases e:k=j
   . rw [if_pos e.symm];exact Ct (p:=(k,y)) e
   . rw [if_neg (fun z=>e z.symm)];exact Cu (p:=(k,y)) e
 | p::r,hn=>by
   rw [List.cons_append]
   have hk:¬p.1=k:=fun z=>by rw [Ct z] at hn;cases hn
   rw [Cu hk] at hn
   have ih:=Qn k j y r hn
   by_cases e:p.1=j
   . rw [Ct e,Ct e,if_neg (fun z=>hk (e.trans z))]
   . rw [Cu e,Cu e,ih]
theorem m7 (A0:List (κ × V)) (k j:κ) (y:V):valV (putK A0 k y) j=if j=k then some y else valV A0 j:=by
 unfold putK
 by_cases a:(A0.any fun kv=>decide (kv.1=k))=true
 . rw [if_pos a,Ws]
   rw [Lb] at a
   by_cases e:j=k
   . obtain⟨x,hx⟩:=Option.isSome_iff_exists.mp a
     rw [if_pos e,e,hx,Option.map_some,if_pos rfl]
   . rw [if_neg e]
     cases valV A0 j with
     | none=>rfl
     | some x=>rw [Option.map_some,if_neg e]
 . rw [if_neg a]
   refine Qn k j y A0 ?_
   rw [Lb] at a
   cases q:valV A0 k with
   | none=>rfl
   | some x=>rw [q] at a;exact (a rfl).elim
theorem Hl (A0:List (κ × V)) (k:κ) (v:V):(putK A0 k v).length<=A0.length+1:=by
 unfold putK
 split
 . rw [List.length_map];omega
 . rw [List.length_append,List.length_cons,List.length_nil];omega
theorem RelO.isSome_eq {o:Option V}{u:Option Value} (r:RelO o u):o.isSome=u.isSome:=by
 cases o with
 | none=>cases u with
   | none=>rfl
   | some _=>exact (show False from r).elim
 | some _=>cases u with
   | none=>exact (show False from r).elim
   | some _=>rfl
theorem KV.val {A0:List (κ × V)}{vs:List (κ × Value)} (r:KV A0 vs) (k:κ):RelO (valV A0 k) (valueAt vs k):=by
 unfold KV at r
 induction r with
 | nil=>exact True.intro
 | @cons p q ps qs h t ih =>
   obtain⟨h1,h2⟩:=h
   by_cases e:p.1=k
   . have e':q.1=k:=h1.symm.trans e
     have b:valueAt (q::qs) k=some q.2:=by simp [valueAt,List.find?_cons,e']
     rw [Ct e,b];exact h2
   . have e':¬q.1=k:=fun z=>e (h1.trans z)
     have b:valueAt (q::qs) k=valueAt qs k:=by simp [valueAt,List.find?_cons,e']
     rw [Cu e,b];exact ih
theorem KV.any {A0:List (κ × V)}{vs:List (κ × Value)} (r:KV A0 vs) (k:κ):(A0.any fun kv=>decide (kv.1=k))=vs.any fun kv=>decide (kv.1=k):=by
 unfold KV at r
 induction r with
 | nil=>rfl
 | cons h t ih=>rw [List.any_cons,List.any_cons,ih,h.1]
theorem KV.repl {A0:List (κ × V)}{vs:List (κ × Value)} (r:KV A0 vs) (k:κ) {y:V}{u:Value} (ry:RelV y u) :
 KV (A0.map fun kv=>if kv.1=k then (kv.1,y) else kv) (vs.map fun kv=>if kv.1=k then (kv.1,u) else kv):=by
 unfold KV at r ⊢
 induction r with
 | nil=>exact .nil
 | @cons p q ps qs h t ih =>
   rw [List.map_cons,List.map_cons]
   refine .cons ?_ ih
   obtain⟨h1,h2⟩:=h
   by_cases e:p.1=k
   . rw [if_pos e,if_pos (h1.symm.trans e)];exact ⟨h1,ry⟩
   . rw [if_neg e,if_neg (fun z=>e (h1.trans z))];exact ⟨h1,h2⟩
theorem KV.put {A0:List (κ × V)}{vs:List (κ × Value)} (r:KV A0 vs) (k:κ) {y:V}{u:Value} (ry:RelV y u):KV (putK A0 k y) (stored vs k u):=by
 unfold putK stored
 rw [r.any k]
 by_cases e:(vs.any fun kv=>decide (kv.1=k))=true
 . rw [if_pos e,if_pos e];exact r.repl k ry
 . rw [if_neg e,if_neg e];exact Paired.snoc r ⟨rfl,ry⟩
theorem KV.length {A0:List (κ × V)}{vs:List (κ × Value)} (r:KV A0 vs):A0.length=vs.length:=Paired.length r
end
theorem kV_is {P:Program}{w:World}{k:Key}{u:Value} (r:RelV (kV k) u):(mixKind P w).is k u=true:=by
 cases k with
 | inl i=>obtain⟨t,e⟩:=(show ∃ t,u=Value.int i t from r);subst e;exact Vu P w i t
 | inr x=>obtain⟨t,e⟩:=(show ∃ t,u=Value.str x t from r);subst e;exact Vt P w x t
theorem S5 {P:Program}{w:World}:∀{ks:List Key}{us:List Value},Vals (ks.map kV) us->ItemsAre (mixKind P w) ks us
 | [],_,r=>by rw [List.map_nil] at r;cases r;exact .nil
 | k::ks,_,r=>by
   rw [List.map_cons] at r
   cases r with
   | cons h t=>exact .cons (kV_is h) (S5 t)
abbrev KT (H:Hp):List (List Key × V)->List (List Key × Addr × Value)->Prop:=Paired fun p q=>p.1=q.1/\H q.2.1=some (.tup (p.1.map kV))/\RelV p.2 q.2.2
theorem KT.val {H:Hp}{A0:List (List Key × V)}{xs:List (List Key × Addr × Value)} (r:KT H A0 xs) (k:List Key):RelO (valV A0 k) ((atKey xs k).map (·.2)):=by
 induction r with
 | nil=>exact True.intro
 | @cons p q ps qs h t ih =>
   obtain⟨h1,_,h2⟩:=h
   by_cases e:p.1=k
   . have e':q.1=k:=h1.symm.trans e
     have b:atKey (q::qs) k=some q.2:=by simp [atKey,List.find?_cons,e']
     rw [Ct e,b];exact h2
   . have e':¬q.1=k:=fun z=>e (h1.trans z)
     have b:atKey (q::qs) k=atKey qs k:=by simp [atKey,List.find?_cons,e']
     rw [Cu e,b];exact ih
theorem KT.repl {H:Hp}{A0:List (List Key × V)}{xs:List (List Key × Addr × Value)} (r:KT H A0 xs) (k:List Key) {y:V}{u:Value} (ry:RelV y u) :
 KT H (A0.map fun kv=>if kv.1=k then (kv.1,y) else kv) (xs.map (putAt k u)):=by
 induction r with
 | nil=>exact .nil
 | @cons p q ps qs h t ih =>
   rw [List.map_cons,List.map_cons]
   refine .cons ?_ ih
   obtain⟨h1,h2,h3⟩:=h
   unfold putAt
   by_cases e:p.1=k
   . rw [if_pos e,if_pos (h1.symm.trans e)];exact ⟨h1,h2,ry⟩
   . rw [if_neg e,if_neg (fun z=>e (h1.trans z))];exact ⟨h1,h2,h3⟩
theorem KT.put {H:Hp}{A0:List (List Key × V)}{xs:List (List Key × Addr × Value)} (r:KT H A0 xs) (k:List Key) {b:Addr}{y:V}{u:Value} (hb:H b=some (.tup (k.map kV))) (ry:RelV y u) :
 KT H (putK A0 k y) (storedH xs k b u):=by
 have e:(A0.any fun kv=>decide (kv.1=k))=(atKey xs k).isSome:=by
  rw [Lb,(r.val k).isSome_eq,Option.isSome_map]
 unfold putK storedH
 rw [e]
 by_cases q:(atKey xs k).isSome=true
 . rw [if_pos q,if_pos q];exact r.repl k ry
 . rw [if_neg q,if_neg q];exact Paired.snoc r ⟨rfl,hb,ry⟩
theorem KT.keeps {H H':Hp}{A0:List (List Key × V)}{xs:List (List Key × Addr × Value)} (r:KT H A0 xs) (ht:∀ b ys,H b=some (.tup ys)->H' b=some (.tup ys)):KT H' A0 xs :=
 Paired.mapP r fun _ _ z=>⟨z.1,ht _ _ z.2.1,z.2.2⟩
section
variable {P:Program}{w:World}{H:Hp}{h:Heap}{a:Addr}
theorem Ai3 {u:HO} (ok:HOk P w H h) (e:Rd H a u):ObjOk P w H h a u:=e.ok ok
theorem Yz {A0:List (Key × V)} (ok:HOk P w H h) (e:Rd H a (.dK A0)):A0.length<=sizeLine/\(a==sysModules)=false/\∃ vs,KV A0 vs/\h.DictOf (mixKind P w) a vs :=
 show ObjOk P w H h a (.dK A0) from Ai3 ok e
theorem Ap8 {A0:List (Key × V)} (ok:HOk P w H h) (e:H a=some (.dK A0)):A0.length<=sizeLine/\(a==sysModules)=false/\∃ vs,KV A0 vs/\h.DictOf (mixKind P w) a vs:=Yz ok (.inl e)
theorem Sr {ks:List Key} (ok:HOk P w H h) (e:H a=some (.tup (ks.map kV))):(tupleKind (mixKind P w)).is h ks a:=by
 obtain⟨_,its,r,o,h1,h2,_,n,h3⟩:=(show ObjOk P w H h a (.tup (ks.map kV)) from ok a _ e)
 exact ⟨o,its.toArray,n,h1,h2,h3,by simpa using S5 r⟩
theorem i3 {A0:List (List Key × V)} (ok:HOk P w H h) (e:Rd H a (.dT A0)):A0.length<=sizeLine/\(a==sysModules)=false ∧
 ∃ xs,KT H A0 xs/\h.DictOfH (tupleKind (mixKind P w)) a xs:=by
 obtain⟨z,y,xs,r,o,es,ep,h1,h2,h3,h4,h5⟩:=(show ObjOk P w H h a (.dT A0) from Ai3 ok e)
 refine⟨z,y,xs,r,o,es,ep,h1,h2,h3,h4,fun x hx=>?_,h5⟩
 have all:∀{l:List (List Key × V)}{m:List (List Key × Addr × Value)},KT H l m->∀ x∈m,(tupleKind (mixKind P w)).is h x.1 x.2.1:=by
  intro l m q
  induction q with
  | nil=>intro x hx;exact nomatch hx
  | @cons p q ps qs hq t ih =>
    intro x hx
    rcases List.mem_cons.mp hx with e | hx
    . subst e
      exact Sr ok (by rw [←hq.1];exact hq.2.1)
    . exact ih x hx
 exact all r x hx
theorem Ap7 {A0:List (List Key × V)} (ok:HOk P w H h) (e:H a=some (.dT A0)):A0.length<=sizeLine/\(a==sysModules)=false ∧
 ∃ xs,KT H A0 xs/\h.DictOfH (tupleKind (mixKind P w)) a xs:=i3 ok (.inl e)
end
def DGet (H:Hp) (a:Addr) (y:V) (r:Option V):Prop :=
 (∃ A0 k,Rd H a (.dK A0)/\y=kV k/\r=valV A0 k)\/∃ A0 k b,Rd H a (.dT A0)/\y=.ref b/\H b=some (.tup (k.map kV))/\r=valV A0 k
def DPut (H:Hp) (a:Addr) (y v:V) (H':Hp):Prop :=
 (∃ A0 k,H a=some (.dK A0)/\y=kV k/\A0.length<sizeLine/\H'=upd H a (.dK (putK A0 k v))) ∨
 ∃ A0 k b,H a=some (.dT A0)/\y=.ref b/\H b=some (.tup (k.map kV))/\A0.length<sizeLine/\H'=upd H a (.dT (putK A0 k v))
theorem DGet.k {H:Hp}{a:Addr}{A0:List (Key × V)}{k:Key} (e:H a=some (.dK A0)):DGet H a (kV k) (valV A0 k):=.inl ⟨A0,k,.inl e,rfl,rfl⟩
theorem DPut.k {H:Hp}{a:Addr}{A0:List (Key × V)}{k:Key}{v:V} (e:H a=some (.dK A0)) (hl:A0.length<sizeLine):DPut H a (kV k) v (upd H a (.dK (putK A0 k v))):=.inl ⟨A0,k,e,rfl,hl,rfl⟩
section
variable {X:Cx}{Aa:List (Addr × Obj)}{σ:St}{H:Hp}{s:Shared}{a:Addr}{y v:V}{u r:Value}{o:Option V}{A:Around}{E:Value->Shared->Prop}
theorem Inv.big (I:Inv X Aa σ H s):sysModules<s.heap.objs.size:=by
 have h:mainGlobals<s.heap.objs.size:=(I.mod.glob.keeps I.bk).lt
 exact Nat.lt_trans (by decide) h
theorem i9 {Q:Value->Shared->Prop} (hu:A.units+1<cLine) (I:Inv X Aa σ H s) (g:DGet H a y (some v)) (ry:RelV y u) (h:∀ w' s',Inv X Aa σ H s'->RelV v w'->Q w' s') :
 wpAny (model X.prog X.w) A (getItem (.ref a) u) Q E s:=by
 rcases g with ⟨A0,k,e,ey,l⟩|⟨A0,k,b,e,ey,eb,l⟩
 . subst ey
   obtain⟨z,hd,vs,rel,dd⟩:=Yz I.hok e
   obtain⟨w',hw,rw'⟩:=RelO.some_of (v:=v) (o:=valueAt vs k) (by rw [l];exact rel.val k)
   exact wpAny_getItem_of (kV_is ry) dd.mapOf hw (h w' _ (I.tok _) rw')
 . subst ey
   cases (show u=Value.ref b from ry)
   obtain⟨z,hd,xs,rel,dd⟩:=i3 I.hok e
   obtain⟨w',hw,rw'⟩:=RelO.some_of (v:=v) (o:=(atKey xs k).map (·.2)) (by rw [l];exact rel.val k)
   obtain⟨p,hp,hp2⟩:=Option.map_eq_some_iff.mp hw
   refine wpAny_getItem_heap (tupleKind_room_in1 hu) (Sr I.hok eb) dd hp ?_
   rw [hp2]
   exact h w' _ (I.tok _) rw'
theorem d_in {Q:Value->Shared->Prop} (hu:A.units+1<cLine) (I:Inv X Aa σ H s) (g:DGet H a y o) (ry:RelV y u) (h:∀ s',Inv X Aa σ H s'->Q (.bool o.isSome) s') :
 wpAny (model X.prog X.w) A (compareOp .In u (.ref a)) Q E s:=by
 rcases g with ⟨A0,k,e,ey,l⟩|⟨A0,k,b,e,ey,eb,l⟩
 . subst ey
   obtain⟨z,hd,vs,rel,dd⟩:=Yz I.hok e
   refine wpAny_in_of (kV_is ry) hd dd.mapOf ?_
   rw [←(rel.val k).isSome_eq,←l]
   exact h _ (I.tok _)
 . subst ey
   cases (show u=Value.ref b from ry)
   obtain⟨z,hd,xs,rel,dd⟩:=i3 I.hok e
   refine wpAny_in_heap (tupleKind_room_in1 hu) (Sr I.hok eb) hd dd ?_
   have q:=(rel.val k).isSome_eq
   rw [Option.isSome_map] at q
   rw [←q,←l]
   exact h _ (I.tok _)
theorem Ag0 {Q:Value->Shared->Prop} (hu:A.units+1<cLine) (I:Inv X Aa σ H s) (g:DGet H a y o) (ry:RelV y u) (h:∀ s',Inv X Aa σ H s'->Q (.bool (!o.isSome)) s') :
 wpAny (model X.prog X.w) A (compareOp .NotIn u (.ref a)) Q E s:=by
 rcases g with ⟨A0,k,e,ey,l⟩|⟨A0,k,b,e,ey,eb,l⟩
 . subst ey
   obtain⟨z,hd,vs,rel,dd⟩:=Yz I.hok e
   refine wpAny_notIn_of (kV_is ry) hd dd.mapOf ?_
   rw [←(rel.val k).isSome_eq,←l]
   exact h _ (I.tok _)
 . subst ey
   cases (show u=Value.ref b from ry)
   obtain⟨z,hd,xs,rel,dd⟩:=i3 I.hok e
   refine wpAny_notIn_heap (tupleKind_room_in1 hu) (Sr I.hok eb) hd dd ?_
   have q:=(rel.val k).isSome_eq
   rw [Option.isSome_map] at q
   rw [←q,←l]
   exact h _ (I.tok _)
theorem i7 {h':Heap}{t':Nat}{ob:HO} (I:Inv X Aa σ H s) (mu:Mut (H a)) (hs:Heap.SameBut a s.heap h') (he:∃ q,h'.get? a=some q) (new:ObjOk X.prog X.w (upd H a ob) h' a ob) :
 Inv X Aa σ (upd H a ob) { s with heap:=h',toks:=t' } :=
 I.write (x:=a) (e:=a) mu (.inl rfl) (fun b q hb z=>(hs.2 b hb).trans z) he new
theorem Al8 {P:Program}{w:World}{H':Hp}{h':Heap}{A0:List (Key × V)}{vs:List (Key × Value)} (z:A0.length<=sizeLine) (hd:(a==sysModules)=false) (rel:KV A0 vs) (dd:h'.DictOf (mixKind P w) a vs) :
 ObjOk P w H' h' a (.dK A0):=⟨z,hd,vs,rel,dd⟩
theorem i8 {H':Hp}{Q:Unit->Shared->Prop} (hu:A.units+1<cLine) (I:Inv X Aa σ H s) (g:DPut H a y v H') (ry:RelV y u) (rv:RelV v r) (h:∀ s',Inv X Aa σ H' s'->Q () s') :
 wpAny (model X.prog X.w) A (setItem (.ref a) u r) Q E s:=by
 rcases g with ⟨A0,k,e,ey,l,eH⟩|⟨A0,k,b,e,ey,eb,l,eH⟩
 . subst ey eH
   obtain⟨z,hd,vs,rel,dd⟩:=Ap8 I.hok e
   have hz:vs.length<=sizeLine:=by rw [←rel.length];exact z
   have hl:(putK A0 k v).length<=sizeLine:=by have:=Hl A0 k v;omega
   refine wpAny_setItem_pairs (hsz:=hz) (kV_is ry) dd fun h' dd' hs=>h _ ?_
   have he:∃ q,h'.get? a=some q:=let ⟨q,_,_,hq,_⟩:=dd';⟨q,hq⟩
   exact i7 I (by rw [e];exact True.intro) hs he (Al8 hl hd (rel.put k rv) dd')
 . subst ey eH
   cases (show u=Value.ref b from ry)
   obtain⟨z,hd,xs,rel,dd⟩:=Ap7 I.hok e
   have hz:xs.length<=sizeLine:=by rw [←Paired.length rel];exact z
   have hl:(putK A0 k v).length<=sizeLine:=by have:=Hl A0 k v;omega
   refine wpAny_setItem_heap (hsz:=hz) (tupleKind_room_in1 hu) (Sr I.hok eb) dd fun h' dd' hs=>h _ ?_
   obtain⟨q,es,ep,hq,h2,h3,h4,_,h5⟩:=dd'
   refine i7 I (by rw [e];exact True.intro) hs ⟨q,hq⟩ ⟨hl,hd,_,(rel.put k eb rv).keeps fun c ys ec=>?_,q,es,ep,hq,h2,h3,h4,h5⟩
   rw [Ax (b8 ec e (fun z=>nomatch z))]
   exact ec
end
section
variable {X:Cx}{Aa:List (Addr × Obj)}{σ:St}{H:Hp}{s:Shared}{a:Addr}{A0:List (Key × V)}{k:Key}{u:Value}{A:Around}{E:Value->Shared->Prop}
end
def NoSl (i:Expr):Prop:=∀ ov iv,subscripted i false ov iv=operate [ov,iv] (getItem ov iv)
theorem Aa9 {prog:Program}{w:World}{A:Around}{E:Value->Shared->Prop}{s:Shared}{env:Env}{value slice:Expr}{pos:Pos}{T id:String}{Q:Value->Shared->Prop}
 (hl:typeLookup (.type T) "__getitem__"=pure (some (.builtin id))) (hs:NoSl slice)
 (h:wpAny (model prog w) A (eval value env) (fun o s₁=>wpAny (model prog w) A (eval slice env) (fun i s₂=>s₂.TypeIs o T/\wpAny (model prog w) A (getItem o i) Q E s₂) E s₁) E s) :
 wpAny (model prog w) A (eval (.Subscript value slice pos) env) Q E s:=by
 refine Subscript_ (wpAny_mono h (fun o s₁ h₁=>wpAny_mono h₁ (fun i s₂ h₂=>?_) fun _ _ x=>x) fun _ _ x=>x)
 obtain⟨hT,h₂⟩:=h₂
 unfold subscriptTail
 refine wpAny_bind ?_
 rw [getitemInPython_of_ne hT.not_modules]
 refine wpAny_bind (wpAny_specialOf hT hl ?_)
 have fin:wpAny (model prog w) A (subscripted slice false o i) (fun r s₃=>wpAny (model prog w) A (letTemporaryGo value o r>>=fun _=>pure r) Q E s₃) E s₂:=by
  rw [hs o i]
  exact wpAny_operating (wpAny_mono h₂ (fun r s₃ h₃=>wpAny_bind (wpAny_letTemporaryGo (wpAny_pure h₃))) fun _ _ x=>x)
 first
  | exact wpAny_pure (wpAny_bind fin)
  | exact wpAny_bind (wpAny_pure (wpAny_bind fin))
  | exact wpAny_bind fin
theorem V8 {X:Cx}{Aa:List (Addr × Obj)}{σ:St}{H:Hp}{s:Shared}{a:Addr}{y:V}{o:Option V} (I:Inv X Aa σ H s) (g:DGet H a y o):s.TypeIs (.ref a) "dict":=by
 rcases g with ⟨A0,k,e,_,_⟩|⟨A0,k,b,e,_,_,_⟩
 . obtain⟨_,_,vs,_,dd⟩:=Yz I.hok e
   exact dd.typeIs
 . obtain⟨_,_,xs,_,dd⟩:=i3 I.hok e
   exact dd.typeIs
def An4 (td ty:TE):TE:=fun σ H Q=>td σ H fun x H1=>ty σ H1 fun y H2=>∃ a v,x=.ref a/\DGet H2 a y (some v)/\Q v H2
def An7 (td ty tv:TE):TS:=fun D σ H=>tv σ H fun v H1=>td σ H1 fun x H2=>ty σ H2 fun y H3=>∃ a H4,x=.ref a/\DPut H3 a y v H4/\D.nx σ H4
section
variable {X:Cx}{o i e value:Expr}{pos pos' tpos:Pos}{td ty tv:TE}
theorem Ac9 (hu:X.A.units+1<cLine) (ho:PE X o td) (hi:PE X i ty) (hs:NoSl i):PE X (.Subscript o i pos) (An4 td ty):=by
 intro Aa s σ H Q I h
 refine Aa9 PySem.F.slot_dict_getitem.lookup hs (thn (ho Aa s σ H _ I h) fun u s1 ⟨x,H1,I1,rx,q1⟩=>thn (hi Aa s1 σ H1 _ I1 q1) fun iv s2 ⟨y,H2,I2,ry,a,v,ex,g,q2⟩=>?_)
 subst ex
 obtain rfl:u=Value.ref a:=rx
 exact ⟨V8 I2 g,i9 hu I2 g ry fun w' s3 I3 rw'=>⟨v,H2,I3,rw',q2⟩⟩
theorem Ac2 (hu:X.A.units+1<cLine) (ho:PE X o td) (hi:PE X i ty) (hv:PE X value tv) (hs:swapsWith value (some (.Subscript o i pos')) pos.line X.env=pure false) :
 PS X (.Assign [.Subscript o i pos'] value pos) (An7 td ty tv):=by
 intro Aa s σ H D I h
 refine wpAny_Assign_Subscript (thn (hv Aa s σ H _ I h) fun r s1 ⟨v,H1,I1,rv,q1⟩=>thn (ho Aa s1 σ H1 _ I1 q1) fun u s2 ⟨x,H2,I2,rx,q2⟩=>thn (hi Aa s2 σ H2 _ I2 q2) fun iv s3 ⟨y,H3,I3,ry,a,H4,ex,g,q3⟩=>?_) hs
 subst ex
 obtain rfl:u=Value.ref a:=rx
 exact i8 hu I3 g ry rv fun s4 I4=>⟨σ,H4,I4,q3⟩
end
theorem dk_empty {P:Program}{w:World}{H:Hp} (h:Heap) (hb:sysModules<h.objs.size):ObjOk P w H (h.push { cls:=.type "dict",data:=.dict #[] }) h.objs.size (.dK []) :=
 ⟨Nat.zero_le _,beq_eq_false_iff_ne.mpr (Ne.symm (Nat.ne_of_lt hb)),[],.nil,Heap.DictOf.new h⟩
def Ah5:TE:=fun _ H Q=>∀ p,H p=none->Q (.ref p) (upd H p (.dK []))
section
variable {X:Cx}{pos:Pos}
theorem Wx:PE X (.Dict [] [] pos) Ah5:=fun Aa s σ H Q I h =>
 wpAny_Dict_empty ⟨.ref s.heap.objs.size,_,I.laid (a:=s.heap.objs.size) (o:=.dK []) (t':=s.toks) (fun _ _ q=>Heap.get?_push_of_some _ q) (Nat.le_refl _) (dk_empty s.heap I.big),rfl,h _ (I.hok.fresh (Nat.le_refl _))⟩
end
section
variable {X:Cx}{Aa:List (Addr × Obj)}{σ:St}{H:Hp}{s:Shared}{a:Addr}{y d:V}{u r:Value}{o:Option V}{A:Around}{E:Value->Shared->Prop}
end
section
variable {X:Cx}{o e f:Expr}{apos cpos:Pos}{td ty tx:TE}
end
section
variable {X:Cx}{Aa:List (Addr × Obj)}{σ:St}{H:Hp}{s:Shared}{a:Addr}{A0:List (Key × V)}{A:Around}{E:Value->Shared->Prop}
end
section
variable {X:Cx}{Aa:List (Addr × Obj)}{σ:St}{H:Hp}{s:Shared}{a:Addr}{y:V}{u:Value}{A:Around}{E:Value->Shared->Prop}
end
end L2
namespace L2
open PySem PySem.Spec PyProof.Rows
section
variable {X:Cx}
end
end L2
namespace L2
open PySem PySem.Spec PyProof.Rows PySem.SeqAt
end L2
namespace L2
open PySem PySem.Spec PyProof.Rows
section
variable {prog:Program}{w:World}{A:Around}{E:Value->Shared->Prop}
variable {KT:Type} [DecidableEq KT] {knd:KeyKind prog w KT}
end
end L2
namespace L2
open PySem PySem.Spec PyProof.Rows PySem.SeqAt
end L2
namespace L2
open PySem PySem.Spec PyProof.Rows
section
variable {X:Cx}{Aa:List (Addr × Obj)}{σ:St}{H:Hp}{s:Shared}{a:Addr}{A0:List (Key × V)}
end
section
variable {g:TG}{tc:TT}{te:TE}{D:Addr}{Q:Hp->Prop}{τ:St}{H:Hp}
end
end L2
namespace L2
open PySem PySem.Spec PyProof.Rows PySem.SeqAt
section
variable {X:Cx}{Aa:List (Addr × Obj)}{σ:St}{H:Hp}{s:Shared}{a:Addr}{ms:List (Int × Int)}
end
section
variable {X:Cx}{n:Nat}{K:W.Frag}
end
end L2
namespace L2
open PySem PySem.Spec PyProof.Rows
theorem u1 {n c:Nat} (h:n+8<c):n+1<c:=by omega
end L2
namespace L2
open PySem PySem.Spec PyProof.Rows
structure La (k:Nat) (A:Around):Prop where
 dp:A.depth+3*k+5<recursionLimit
 un:A.units+16*k+200<cLine
theorem La.mono {j k:Nat}{A:Around} (r:La k A) (h:j<=k):La j A:=⟨by have:=r.dp;omega,by have:=r.un;omega⟩
theorem La.deeper {k:Nat}{A:Around} (r:La (k+1) A) (env:Env):La k (A.deeper env) :=
 ⟨by have:=r.dp;show A.depth+1+3*k+5<_;omega,by have:=r.un;show A.units+3+16*k+200<_;omega⟩
theorem La.depth {k:Nat}{A:Around} (r:La k A):A.depth<recursionLimit:=by have:=r.dp;omega
theorem Room.n {k:Nat}{A:Around}{v:Option Value} (r:Room k A):La k (A.mark v):=⟨r.dp,r.un⟩
structure Ag9 (P:Program) (w:World) (K:W.Frag) (mg:Str->Option Value) (base:Heap) (k:Nat) (f:Addr) (fd:FuncData) (ps:List Str) (sp:Sp):Prop where
 len:∀ vs H Q E,sp vs H Q E->vs.length=ps.length
 run:∀ (A:Around) (outer:List Env) (s:Shared) (H:Hp) (args:Args) (us:List Value) (vs:List V) (Q:VK) (E:XK),La k A->Env0 P w K mg base A outer s H->BindsTo s fd args (ps.zip us)->Vals vs us->sp vs H Q E →
  codeAny (model P w) A (.call (.ref f) args) (CR CX0 outer P w H s Q E) s
abbrev cxN (P:Program) (w:World) (K:W.Frag) (mg:Str->Option Value) (base:Heap) (N:List Str) (qual:Str) (scope:Scope) (f:Addr) (cd:Value) (A:Around) (outer:List Env) (s:Shared) (H:Hp) (E:XK):Cx :=
 { cxOf CX0 P w K mg base N qual scope f cd A outer s H E with calm:=false,xe:=fun _ _=>False }
section
variable {P:Program}{w:World}{K:W.Frag}{mg:Str->Option Value}{base:Heap}
theorem Yv {N ps:List Str}{qual:Str}{scope:Scope}{f:Addr}{cd:Value}{A:Around}{outer:List Env}{s s1:Shared}{H:Hp}{E:XK}{us:List Value}{vs:List V}
 (S:FnScope N ps scope) (e0:Env0 P w K mg base A outer s H) (hl:vs.length=ps.length) (r:Vals vs us)
 (x:InCallC s s.heap.objs.size (bindL (envOfC qual scope s.heap.objs.size f cd).kindOf (ps.zip us) fun _=>none) (cellsFrom (s.heap.objs.size+1) scope.names []) (bindC (envOfC qual scope s.heap.objs.size f cd).kindOf (ps.zip us) fun _=>none) s1) :
 Inv (cxN P w K mg base N qual scope f cd A outer s H E) [] (Jg N vs) H s1:=by
 have e1:Env0 P w K mg base ({ A with handled:=none }) outer s H:=⟨e0.frames,e0.mod,e0.bs,e0.bsz,e0.funs,e0.frf,e0.hok,e0.bare⟩
 have I:=S6 (CX:=CX0) (E:=E) (A:={ A with handled:=none }) (cd:=cd) (f:=f) (qual:=qual) S rfl e1 hl r x
 exact ⟨⟨I.ok.mod,I.ok.kind,I.ok.glob,I.ok.blt,I.ok.above,I.ok.inj,I.ok.has,I.ok.cab,fun z=>Bool.noConfusion z,Around.frames_deeper e0.frames,I.ok.stk,I.ok.exf,I.ok.bs,I.ok.bsz,I.ok.noex,I.ok.exfs,I.ok.funs,I.ok.frf⟩,I.os,I.bare,I.base,I.loc,I.cell,I.free,I.freeC,I.pin,I.hok,I.len⟩
theorem Fun.okN {x qual:Str}{st:Stmt}{f:Addr}{fd:FuncData}{N ps:List Str}{k:Nat}{sp:Sp} (F:Fun K x qual st f fd) (S:FnScope N ps (Ak st)) (len:∀ vs H Q E,sp vs H Q E->vs.length=ps.length)
 (hbody:∀ (B5:Value) (A:Around) (outer:List Env) (s:Shared) (H:Hp) (vs:List V) (Q:VK) (E:XK),La k (A.deeper (envOfC qual (Ak st) s.heap.objs.size f B5))->sp vs H Q E →
   ∃ t,PSs (cxN P w K mg base N qual (Ak st) f B5 A outer s H E) (A2 st) t/\t { nx:=fun _ H'=>Q .non H',rt:=Q } (Jg N vs) H):Ag9 P w K mg base (k+1) f fd ps sp:=by
 obtain⟨oc,od,kV,doc,pm,an,B5,ct,osl,rfl,lk,hcd⟩:=F.ex
 refine⟨len,fun A outer s H args us vs Q E hr e0 hb r hsp=>?_⟩
 have hl:=len _ _ _ _ hsp
 have KX:K.In s.heap:=e0.mod.kin.keeps fun b o e=>(e0.bs b o e).1
 have lim:s.heap.NoLimit:=e0.mod.nolimit.keeps fun b o e=>(e0.bs b o e).1
 have hkind:∀ y∈ps.zip us,(Ak st).names.lookup y.1=some .local\/((Ak st).names.lookup y.1=some .cell/\((cellsFrom (s.heap.objs.size+1) (Ak st).names []).lookup y.1).isSome=true):=fun ⟨n,v⟩ hy=>by
  rcases S.par n (List.of_mem_zip hy).1 with q | q
  . exact .inl q
  . exact .inr ⟨q,PySem.W.cellsFrom_some _ _ _ (.inl q)⟩
 refine codeAny_call_function hr.depth (KX _ _ lk) rfl S.co S.gen rfl (PySem.W.codeRec_of KX hcd) (hb _ _ _ _ ?_)
 refine wpAny_newFunctionEnv_cells S.kind hkind fun env he s1 x=>?_
 subst he
 refine⟨lim.keeps x.toInCall.keep,codeAny_func ?_⟩
 obtain⟨t,ht,hq⟩:=hbody B5 A outer s H vs Q E (hr.deeper _) hsp
 have I:Inv (cxN P w K mg base N qual (Ak st) f B5 A outer s H E) [] (Jg N vs) H s1:=Yv S e0 hl r x
 refine wpAny_mono (ht [] s1 (Jg N vs) H _ I hq) (fun fl s' hs=>?_) fun e s' hs=>hs.elim
 have fin:∀{σ':St}{H':Hp}{v:V}{u:Value},Inv (cxN P w K mg base N qual (Ak st) f B5 A outer s H E) [] σ' H' s'->RelV v u->Q v H'->CE outer P w H s Q u s' :=
  fun {σ' H' v u} J rv q=>⟨v,H',J.os,J.bare,J.base,J.hok,rv,q⟩
 cases fl with
 | ret u =>
   obtain⟨v,σ',H',J,rv,q⟩:=hs
   exact fin J rv q
 | next =>
   obtain⟨σ',H',J,q⟩:=hs
   exact fin (v:=V.non) (u:=Value.none) J rfl q
 | brk =>
   obtain⟨_,_,_,q⟩:=hs
   exact False.elim q
 | cont =>
   obtain⟨_,_,_,q⟩:=hs
   exact False.elim q
end
structure HasN (P:Program) (w:World) (K:W.Frag) (mg:Str->Option Value) (base:Heap) (x:Str) (ps:List Str) (k:Nat) (sp:Sp):Prop where
 ex:∃ (f:Addr) (fd:FuncData),mg x=some (.ref f)/\PySem.W.keepIn K (.ref f)=true/\Na K fd ps []/\Ag9 P w K mg base k f fd ps sp
section
variable {X:Cx}{x:Str}{ps:List Str}{j k:Nat}{sp:Sp}{p pos:Pos}{e:Expr}{es:List Expr}{t:TA}
theorem K9:bootBuiltins "ValueError"=some (.type "ValueError"):=by decide +kernel
theorem Ld (h:HasN X.prog X.w X.K X.mg X.base x ps j sp) (hr:La k X.A) (hg:Gl X x) (ha:PA X (e::es) t) (hk:j<=k:=by decide) (hdb:(x==("__debug__":Str))=false:=by decide)
 (he:starEach (e::es) X.env=(false,eval e X.env)::starEach es X.env:=by rfl) (hpl:(backTo pos (starEach es X.env)).any (·.1)=false:=by rfl):PE X (.Call (.Name x p) (e::es) [] pos) (tCall sp [] E0 t):=by
 intro Aa s σ H Q I h1
 obtain⟨f,fd,hm,hkp,hb,F⟩:=h.ex
 refine wpAny_Call_Name_kw (F2 I hg hm ?_ hdb)
 refine PySem.W.callWith_K (h₀:=X.base) I.ok.mod.kin hkp (thn (ha pos Aa s σ H _ I h1) fun us s1 ⟨vs,H1,I1,r,q⟩=>⟨I1.kIn,?_⟩) he hpl
 have q':sp vs H1 Q E0:=by have:sp (vs++[]) H1 Q E0:=q;rwa [List.append_nil] at this
 have hl:us.length=ps.length:=by rw [←r.length];exact F.len _ _ _ _ q'
 have hb1:=hb s1 us I1.kIn (by rw [List.append_nil];exact hl)
 rw [List.append_nil] at hb1
 refine wpAny_call (codeAny_mono (F.run X.A X.stack s1 H1 ⟨us,[]⟩ us vs Q _ (hr.mono hk) I1.env0 hb1 r q') fun q s' hq=>?_)
 cases q with
 | error u=>exact False.elim hq
 | ok fl =>
   cases fl with
   | ret u=>exact I1.after hq
   | next=>exact False.elim hq
   | brk=>exact False.elim hq
   | cont=>exact False.elim hq
end
end L2
namespace L2
open PySem PySem.Spec PyProof.Rows
end L2
namespace L2
open PySem PySem.Spec PyProof.Rows
end L2
namespace L2
open PySem PySem.Spec PyProof.Rows
def rInK:R2:=fun x y H Q=>∃ a A0 k,y=.ref a/\H a=some (.dK A0)/\x=kV k/\Q (.bl (valV A0 k).isSome) H
theorem Aj7 {X:Cx} (hu:X.A.units+1<cLine):OpR X (compareOp .In) rInK:=by
 intro Aa s σ H x y v u Q I rx ry h
 obtain⟨a,A0,k,rfl,ha,rfl,q⟩:=h
 obtain rfl:u=Value.ref a:=ry
 exact d_in hu I (.k ha) rx fun s3 I3=>⟨.bl (valV A0 k).isSome,H,I3,rfl,q⟩
end L2
namespace L2
open PySem PySem.Spec PyProof.Rows
section
variable {X:Cx}{K:W.Frag}
theorem Rq:OpR X (compareOp .LtE) (fun x y H Q=>∃ i j,x=.str i/\y=.str j/\Q (.bl (!decide (j.cps.toList<i.cps.toList))) H):=by
 intro Aa s σ H x y v u Q I rx ry h
 obtain⟨i,j,rfl,rfl,q⟩:=h
 obtain⟨t,rfl⟩:=rx
 obtain⟨t',rfl⟩:=ry
 exact PySem.P.le_str (Bi I q rfl)
theorem Qo:∀{ys:List Str}{us:List Value},Vals (ys.map V.str) us->StrsAre us ys
 | [],_,h=>by
   cases h
   exact .nil
 | y::ys,_,h=>by
   cases h with
   | cons r q =>
     obtain⟨t,rfl⟩:=r
     exact .cons y t (Qo q)
theorem Ql:∀ (l:List (Str × Tok)),Vals ((l.map (·.1)).map V.str) (strValues l)
 | []=>.nil
 | (y,t)::l=>.cons ⟨t,rfl⟩ (Ql l)
def An9 (K:W.Frag):V->List V->Hp->VK->Prop:=fun x vs H Q=>∃ sep a ys,x=.str sep/\vs=[.ref a]/\SqL K H a (ys.map V.str)/\(ys.map (·.length)).sum+ys.length*sep.length<=16777216/\Q (.str (Txt.join sep ys)) H
theorem W3 (hK:X.K=K:=by rfl):MtM X "str.join" (An9 K):=by
 subst hK
 intro Aa s σ H x vs v us Q I rx rv h
 obtain⟨sep,a,ys,rfl,rfl,hq,hz,q⟩:=h
 obtain⟨t,rfl⟩:=rx
 obtain⟨u,rfl,ru⟩:=rv.one
 cases ru
 obtain⟨its,rl,p,_⟩:=I.list hq
 exact join_list p.isList (by simpa using Qo rl) hz fun t' k=>⟨.str (Txt.join sep ys),H,I.tok k,⟨t',rfl⟩,q⟩
def Ai4:V->List V->Hp->VK->Prop:=fun x vs H Q=>∃ z y,x=.str z/\vs=[.str y]/\(y.length==0)=false/\z.length+2<=sizeLine/\∀ l,H l=none->Q (.ref l) (upd H l (.lst ((Txt.split z y).map V.str)))
theorem F3:MtM X "str.split" Ai4:=by
 intro Aa s σ H x vs v us Q I rx rv h
 obtain⟨z,y,rfl,rfl,hy,hz,q⟩:=h
 obtain⟨t,rfl⟩:=rx
 obtain⟨u,rfl,ru⟩:=rv.one
 obtain⟨t',rfl⟩:=ru
 have fin:∀ (l:List (Str × Tok)) (k:Nat),l.map (·.1)=Txt.split z y->l.length<=sizeLine->EP X Aa σ Q (.ref s.heap.objs.size) { s with heap:=s.heap.push { cls:=.type "list",data:=.seq (strValues l).toArray },toks:=k }:=fun l k e hl=>by
  refine⟨.ref s.heap.objs.size,upd H s.heap.objs.size (.lst ((Txt.split z y).map V.str)),I.laid (t':=k) (fun b u e=>Heap.get?_push_of_some _ e) (Nat.le_refl _) ?_,rfl,q _ (I.hok.fresh (Nat.le_refl _))⟩
  rw [←e]
  exact ⟨by simpa using hl,strValues l,0,Ql l,Heap.get?_push_size _ rfl⟩
 have hn:(Builtin.Str.partsBetween z (Builtin.Str.occurrences z y 0 z.length (z.length+1)) y.length).length<=sizeLine:=by
  have e1:=StrLaws.occ_length_le z y 0 z.length (z.length+1)
  rw [length_partsBetween];omega
 have one:[(z,t)].length<=sizeLine:=by show 1<=sizeLine;decide
 cases h1:(decide (z.length<y.length) || decide (Builtin.Str.strKind z<Builtin.Str.strKind y))
 . cases hf:(Builtin.Str.occurrences z y 0 z.length (z.length+1)).isEmpty
   . refine call_meets F.slot_str_split (typeIs_str _ _ _) F.entry_str_split (F.args_str_split_2 _ _) (meets_str_split_sep z y t t' h1 hy hf (by omega) hn) ?_
     show wants _ _ _ { s with toks:=_,heap:=s.heap.push { cls:=.type "list",data:=.seq (strsFrom s.toks (Builtin.Str.partsBetween z (Builtin.Str.occurrences z y 0 z.length (z.length+1)) y.length)).toArray } }
     rw [strsFrom_eq]
     have e2:=numbered_texts s.toks (Builtin.Str.partsBetween z (Builtin.Str.occurrences z y 0 z.length (z.length+1)) y.length)
     refine fin (numbered s.toks _) _ (e2.trans ((if_neg (ne_true_of_eq_false h1)).trans (if_neg (ne_true_of_eq_false hf))).symm) ?_
     have e3:=congrArg List.length e2
     rw [List.length_map] at e3
     rw [e3]
     exact hn
   . exact call_meets F.slot_str_split (typeIs_str _ _ _) F.entry_str_split (F.args_str_split_2 _ _) (meets_str_split_not_found z y t t' h1 hy hf)
      (fin [(z,t)] s.toks ((if_neg (ne_true_of_eq_false h1)).trans (if_pos hf)).symm one)
 . exact call_meets F.slot_str_split (typeIs_str _ _ _) F.entry_str_split (F.args_str_split_2 _ _) (meets_str_split_cannot_occur z y t t' h1)
    (fin [(z,t)] s.toks (if_pos h1).symm one)
def Its (x:Str):It:=⟨fun i _=>i<x.cps.size,fun i H v H'=>H'=H/\∃ c,x.cps[i]?=some c/\v=.str ⟨#[c]⟩,fun i _=>x.cps.size<=i⟩
theorem m8 {P:Program}{w:World}{K:W.Frag}{tg:Expr} (it:Addr) (x:Str) (t:Tok):Turn P w K tg (Its x) [it] it (fun i h=>h.IsStrIter it "str_ascii_iterator" x t i) where
 mem:=by simp
 obj:=fun i h st b hb=>by
  have e:b=it:=by simpa using hb
  subst e
  obtain⟨o,e,c,d⟩:=st
  exact ⟨o,e,fun v z=>by rw [d] at z;cases z⟩
 keep:=fun i h h' st k=>by
  obtain⟨o,e,c,d⟩:=st
  exact ⟨o,k it (by simp) _ e,c,d⟩
 item:=by
  intro X hP hw hK hc i Aa s σ H E I hf st hg
  subst hP hw hK
  obtain⟨f0,f1,f2,f3,f4,f5⟩:=hf it (by simp)
  have hi:i<x.cps.size:=hg
  refine wpAny_pyNext_ascii_item st (c:=x.cps[i]) (by simp [hi]) fun h' st' sb=>?_
  have I1:Inv X Aa σ H { s with heap:=h',toks:=s.toks+1 }:=I.turned (fun b o hb e=>(sb.2 b hb).trans e) f0 f1 f3 f4 f5
  obtain⟨o,e,c,d⟩:=id st'
  exact ⟨_,rfl,u8 (s:={ s with heap:=h',toks:=s.toks+1 }) e c d (by decide) ⟨.str ⟨#[x.cps[i]]⟩,H,I1,⟨_,rfl⟩,⟨rfl,_,by simp [hi],rfl⟩,st',fun b hb=>(hf b hb).1⟩⟩
 done:=by
  intro X hP hw hK hc i Aa s σ H E I hf st hg
  subst hP hw hK
  obtain⟨f0,f1,f2,f3,f4,f5⟩:=hf it (by simp)
  have hi:x.cps.size<=i:=hg
  exact wpAny_pyNext_ascii_end (I.ok.hd hc) st (by simp [hi]) fun h' eb=>⟨rfl,I.turned (t':=s.toks) (fun b o hb e=>eb b o hb e) f0 f1 f3 f4 f5⟩
 self:=fun _ _ _ _ _ st h=>wpAny_pyIter_striter_ascii st h
def iStr (tl:TE):TI:=fun σ H R=>tl σ H fun v H1=>∃ x,v=.str x/\x.cps.all (·<128)=true/\R (Its x) H1
theorem x9 {tg l:Expr}{tl:TE} (hl:PE X l tl):PI X tg l (iStr tl):=by
 intro Aa s σ H R I h
 refine thn (hl Aa s σ H _ I h) fun v s1 ⟨x,H1,I1,r1,q1⟩=>?_
 obtain⟨z,rfl,ha,q⟩:=q1
 obtain⟨t,rfl⟩:=r1
 refine wpAny_pyIter_ascii ha ?_
 refine⟨s1.heap.objs.size,[s1.heap.objs.size],_,_,H1,rfl,I1.kept (t':=s1.toks) fun b o e=>Heap.get?_push_of_some _ e,m8 _ z t,⟨_,Heap.get?_push_size _ rfl,rfl,rfl⟩,fun b hb=>?_,q⟩
 have e:b=s1.heap.objs.size:=by simpa using hb
 subst e
 exact I1.fpOk (Nat.le_refl _) (I1.hok.fresh (Nat.le_refl _))
theorem w5 {g:TG}{te:TE}{D:Addr}{Q:Hp->Prop}{τ:St}{H:Hp}{x:Str} (Pv:Nat->List V->St->Hp->Prop) (h0:Pv 0 [] τ H)
 (hs:∀ i c ys τ H,x.cps[i]?=some c->Pv i ys τ H->g (.str ⟨#[c]⟩) τ H fun τ2 H2=>te τ2 H2 fun y H4=>H4 D=some (.lst ys)/\ys.length<sizeLine/\Pv (i+1) (ys++[y]) τ2 (upd H4 D (.lst (ys++[y]))))
 (hd:∀ ys τ H,Pv x.cps.size ys τ H->Q H):RunC (Its x) g tYes te D Q τ H:=by
 refine⟨fun i m ys τ H=>m=x.cps.size-i/\i<=x.cps.size/\Pv i ys τ H,⟨x.cps.size,by simp,Nat.zero_le _,h0⟩,?_⟩
 rintro i m ys τ H ⟨rfl,hi,p⟩
 by_cases hlt:i<x.cps.size
 . refine .inr ⟨hlt,Pv (i+1),fun ys' τ' H' p'=>⟨x.cps.size-(i+1),by omega,rfl,hlt,p'⟩,fun v H' y=>?_⟩
   obtain⟨e,c,hc,y⟩:=y
   subst e y
   exact hs i c ys τ _ hc p
 . have e:i=x.cps.size:=by omega
   subst e
   exact .inl ⟨Nat.le_refl _,hd ys τ H p⟩
def slS (z:Str) (lo hi:Option Int):Str:=if ((Builtin.Str.strSliceIndices lo hi 1 z.length).length==z.length)=true then z else ⟨((Builtin.Str.strSliceIndices lo hi 1 z.length).filterMap (z.cps[·]?)).toArray⟩
def rSlS:V->Option Int->Option Int->Hp->VK->Prop:=fun x lo hi H Q=>∃ z,x=.str z/\(slS z lo hi).length<=sizeLine/\Q (.str (slS z lo hi)) H
theorem Wy {v:Value}{o:Option Int} (h:IsPart v o):∃ p:Option (Int × Tok),v=partValue p/\p.map (·.1)=o:=by
 cases h with
 | none=>exact ⟨none,rfl,rfl⟩
 | int i t=>exact ⟨some (i,t),rfl,rfl⟩
theorem Ik:SlR X rSlS:=by
 intro Aa s σ H x v vl vu lo hi sl Q I rx hs pl pu h
 obtain⟨z,rfl,hz,q⟩:=h
 obtain⟨t,rfl⟩:=rx
 obtain⟨l,rfl,rfl⟩:=Wy pl
 obtain⟨u,rfl,rfl⟩:=Wy pu
 refine⟨"str",_,F.slot_str_getitem.lookup,typeIs_str _ _ _,?_⟩
 refine wpAny_getItem_str_slice (l:=l) (u:=u) (st:=none) hs rfl ?_
 unfold sliceMade slicePicked
 unfold slS at hz q
 simp only [Option.map_none,Option.getD_none,beq_self_eq_true,Bool.true_and]
 split
 . rename_i e
   rw [if_pos e] at q
   exact ⟨.str z,H,I,⟨t,rfl⟩,q⟩
 . rename_i e
   rw [if_neg e] at q hz
   exact ⟨hz,⟨.str _,H,I.tok _,⟨_,rfl⟩,q⟩⟩
def Ac0:R2:=fun x y H Q=>∃ a A0 k,y=.ref a/\H a=some (.dK A0)/\x=kV k/\Q (.bl (!(valV A0 k).isSome)) H
theorem Z9 (hu:X.A.units+1<cLine):OpR X (compareOp .NotIn) Ac0:=by
 intro Aa s σ H x y v u Q I rx ry h
 obtain⟨a,A0,k,rfl,ha,rfl,q⟩:=h
 obtain rfl:u=Value.ref a:=ry
 exact Ag0 hu I (.k ha) rx fun s3 I3=>⟨.bl (!(valV A0 k).isSome),H,I3,rfl,q⟩
end
end L2
set_option maxHeartbeats 1000000
namespace Tx
open PySem PySem.Builtin PySem.Builtin.Str PySem.StrLaws
def J (y:List Nat):List (List Nat)->List Nat
 | []=>[]
 | [p]=>p
 | p::q::r=>p++(y++J y (q::r))
theorem join_J (y:Str):∀ ps:List Str,(Str.join y ps).cps.toList=J y.cps.toList (ps.map (·.cps.toList))
 | []=>by rfl
 | [p]=>by rfl
 | p::q::r=>by
   show (p++y++Str.join y (q::r)).cps.toList=p.cps.toList++(y.cps.toList++J y.cps.toList ((q::r).map (·.cps.toList)))
   simp only [Str.cps_append,Array.toList_append]
   rw [join_J y (q::r),List.append_assoc]
end Tx
namespace Hb
open PySem L2
theorem lt1 {a b:Nat}:(([a]:List Nat)<[b])↔a<b:=by
 rw [List.cons_lt_cons_iff]
 simp
structure D7 (x:Str):Prop where
 pos:1<=x.length
 le:x.length<=8
 az:∀ c∈x.cps.toList,97<=c/\c<=122
abbrev nmAt (names:List Str) (k:Nat):Str:=names.getD k Str.empty
def rowW (names:List Str) (k:Nat) (p:List Int):List Str:=nmAt names k::p.map fun f=>nmAt names f.toNat
def rowT (names:List Str) (k:Nat) (p:List Int):Str:=Str.join (Str.ofString " ") (rowW names k p)
def Pg (xs:List (List Int)) (names:List Str):List (List Str):=(List.range xs.length).map fun k=>rowW names k (xs.getD k [])
def Ox (xs:List (List Int)) (names:List Str):Str:=Str.join (Str.ofString "; ") ((Pg xs names).map (Str.join (Str.ofString " ")))
def Tn (rs:List (List Str)):L2.D:=.lst (rs.map fun r=>.lst (r.map L2.D.str))
section
variable (K:W.Frag)
def Xh:Sp:=fun vs H Q _=>∃ (v:V) (n:Addr) (xs:List (List Int)) (names:List Str),vs=[v,.ref n]/\LT K H v xs/\SqL K H n (names.map V.str)/\Gg xs/\xs.length<=40/\names.length=xs.length/\(∀ x∈names,D7 x)/\∀ H',Same H H'->Q (.str (Ox xs names)) H'
def Fu:Sp:=Xh K
end
end Hb
namespace Hb
open PySem L2
theorem Ah2 (sep:Str) (ys:List Str):Txt.join sep ys=Str.join sep ys:=StrLaws.glued_eq_join sep ys
theorem Ak6 {names:List Str}{f:Int} (h0:0<=f) (h1:f<(names.length:Int)):atI (names.map V.str) f=some (.str (nmAt names f.toNat)):=by
 obtain⟨j,rfl⟩:=Int.eq_ofNat_of_zero_le h0
 have hj:j<names.length:=by omega
 refine Cb ?_
 rw [List.getElem?_map,List.getElem?_eq_getElem hj]
 simp [nmAt,hj]
theorem t8 {names:List Str} (h:∀ x∈names,D7 x) {k:Nat} (hk:k<names.length):D7 (nmAt names k):=by
 refine h _ ?_
 unfold nmAt
 rw [List.getD_eq_getElem?_getD,List.getElem?_eq_getElem hk]
 exact List.getElem_mem hk
theorem Zx {names:List Str} (h:∀ x∈names,D7 x) {k:Nat} (hk:k<names.length) {p:List Int} (hp:∀ f∈p,0<=f/\f<(names.length:Int)):∀ x∈rowW names k p,D7 x:=fun x hx=>by
 rcases List.mem_cons.mp hx with rfl | hx
 . exact t8 h hk
 . obtain⟨f,hf,rfl⟩:=List.mem_map.mp hx
   have:=hp f hf
   exact t8 h (by omega)
theorem Zt {ys:List Str}{B:Nat} (h:∀ y∈ys,y.length<=B):(ys.map (·.length)).sum<=ys.length*B:=by
 induction ys with
 | nil=>simp
 | cons y ys ih =>
   have h1:=h y List.mem_cons_self
   have h2:=ih fun z hz=>h z (List.mem_cons_of_mem _ hz)
   rw [List.map_cons,List.sum_cons,List.length_cons,Nat.add_mul]
   omega
theorem Lg (sep:Str):∀ ys:List Str,(Str.join sep ys).length<=(ys.map (·.length)).sum+ys.length*sep.length
 | []=>by simp [Str.join,Str.empty,Str.length]
 | [y]=>by
   show y.length<=_
   simp
 | y::z::r=>by
   have ih:=Lg sep (z::r)
   show (y++sep++Str.join sep (z::r)).length<=_
   have e:(y++sep++Str.join sep (z::r)).length=y.length+sep.length+(Str.join sep (z::r)).length:=by
    simp [Str.length,Str.cps_append]
    omega
   rw [e,List.map_cons,List.sum_cons,List.length_cons,Nat.add_mul]
   omega
theorem Ph {names:List Str} (h:∀ x∈names,D7 x) {k:Nat} (hk:k<names.length) {p:List Int} (hp:∀ f∈p,0<=f/\f<(names.length:Int)) (h4:p.length<=4) :
 ((rowW names k p).map (·.length)).sum<=40/\(rowW names k p).length<=5/\(rowT names k p).length<=50:=by
 have h1:(rowW names k p).length<=5:=by simp [rowW];omega
 have h2:=Zt (ys:=rowW names k p) (B:=8) fun y hy=>(Zx h hk hp y hy).le
 have h3:=Lg (Str.ofString " ") (rowW names k p)
 have e:(Str.ofString " ").length=1:=by decide +kernel
 rw [e] at h3
 refine⟨by omega,h1,?_⟩
 show (Str.join (Str.ofString " ") (rowW names k p)).length<=50
 omega
theorem P5 {xs:List (List Int)} (hs:Gg xs) {k:Nat} (hk:k<xs.length):(∀ f∈xs.getD k [],0<=f/\f<(k:Int))/\(xs.getD k []).length<=4:=by
 have e:xs[k]?=some xs[k]:=List.getElem?_eq_getElem hk
 have e2:xs.getD k []=xs[k]:=by rw [List.getD_eq_getElem?_getD,e];rfl
 have F:=hs k _ e
 rw [e2]
 refine⟨fun f hf=>⟨F.low f hf,?_⟩,by rcases F.cnt with e | e | e | e<;>omega⟩
 obtain⟨q,h1,_⟩:=F.bel f hf
 have:=(List.getElem?_eq_some_iff.mp h1).1
 rw [List.length_take] at this
 have:=F.low f hf
 omega
theorem P2 {sep:Str}{c:Nat}:∀{ws:List Str},c∈(Str.join sep ws).cps.toList->c∈sep.cps.toList\/∃ w∈ws,c∈w.cps.toList
 | [],h=>by
   have:c∈([]:List Nat):=h
   simp at this
 | [w],h=>.inr ⟨w,List.mem_cons_self,h⟩
 | w::z::r,h=>by
   have h':c∈(w++sep++Str.join sep (z::r)).cps.toList:=h
   simp only [Str.cps_append,Array.toList_append,List.mem_append] at h'
   rcases h' with (h | h) | h
   . exact .inr ⟨w,List.mem_cons_self,h⟩
   . exact .inl h
   . rcases P2 h with h|⟨q,hq,h⟩
     . exact .inl h
     . exact .inr ⟨q,List.mem_cons_of_mem _ hq,h⟩
theorem p4 {xs:List (List Int)}{names:List Str} (hs:Gg xs) (hnl:names.length=xs.length) (hn:∀ x∈names,D7 x):∀ r∈Pg xs names,(∀ x∈r,D7 x)/\r≠[]/\r.length<=5:=fun r hr=>by
 obtain⟨k,hk,rfl⟩:=List.mem_map.mp hr
 have hk:=List.mem_range.mp hk
 obtain⟨fk,f4⟩:=P5 hs hk
 exact ⟨Zx hn (by omega) fun f hf=>⟨(fk f hf).1,by have:=(fk f hf).2;omega⟩,by simp [rowW],by show (_::List.map _ _).length<=5;rw [List.length_cons,List.length_map];omega⟩
theorem W6 {sep:Str}{w:Str}{ws:List Str} (h:1<=w.length):1<=(Str.join sep (w::ws)).length:=by
 cases ws with
 | nil=>exact h
 | cons z r =>
   show 1<=(w++sep++Str.join sep (z::r)).length
   have e:(w++sep++Str.join sep (z::r)).length=w.length+sep.length+(Str.join sep (z::r)).length:=by
    simp [Str.length,Str.cps_append]
    omega
   omega
theorem m9 {xs:List (List Int)}{names:List Str} (hs:Gg xs) (hx:xs.length<=40) (hnl:names.length=xs.length) (hn:∀ x∈names,D7 x):(Ox xs names).length<=2100/\(1<=xs.length->1<=(Ox xs names).length)/\(xs.length=0->(Ox xs names).length=0):=by
 refine⟨?_,fun h1=>?_,fun h0=>?_⟩
 . have h3:=Lg (Str.ofString "; ") ((Pg xs names).map (Str.join (Str.ofString " ")))
   have e:(Str.ofString "; ").length=2:=by decide +kernel
   have h1:=Zt (ys:=(Pg xs names).map (Str.join (Str.ofString " "))) (B:=50) fun y hy=>by
    obtain⟨r,hr,rfl⟩:=List.mem_map.mp hy
    obtain⟨k,hk,rfl⟩:=List.mem_map.mp hr
    have hk:=List.mem_range.mp hk
    obtain⟨fk,f4⟩:=P5 hs hk
    exact (Ph hn (by omega) (fun f hf=>⟨(fk f hf).1,by have:=(fk f hf).2;omega⟩) f4).2.2
   have hl:((Pg xs names).map (Str.join (Str.ofString " "))).length=xs.length:=by simp [Pg]
   rw [e] at h3
   rw [hl] at h1 h3
   show (Str.join _ _).length<=2100
   omega
 . unfold Ox Pg
   cases hx0:xs.length with
   | zero=>omega
   | succ m =>
     rw [List.range_succ_eq_map,List.map_cons,List.map_cons]
     exact W6 (W6 (t8 hn (by omega)).pos)
 . unfold Ox Pg
   rw [h0]
   rfl
theorem U8 {K:W.Frag}{H:Hp}:∀{ds:List L2.D}{vs:List V},vs.length=ds.length->(∀ (i:Nat) v d,vs[i]?=some v->ds[i]?=some d->Rep K H v d)->Reps K H vs ds
 | [],vs,hl,_=>by
   cases vs with
   | nil=>rfl
   | cons _ _=>simp at hl
 | d::ds,vs,hl,h=>by
   cases vs with
   | nil=>simp at hl
   | cons v vs=>exact ⟨v,vs,rfl,h 0 v d rfl rfl,U8 (by simpa using hl) fun i v d h1 h2=>h (i+1) v d (by simpa using h1) (by simpa using h2)⟩
theorem Ch {K:W.Frag}{H:Hp}:∀{ws:List Str}{vs:List V},Reps K H vs (ws.map L2.D.str)↔vs=ws.map V.str
 | [],vs=>Iff.rfl
 | w::ws,vs=>by
   constructor
   . rintro ⟨v,q,rfl,hv,hq⟩
     rw [Ch.mp hq,show v=.str w from hv]
     rfl
   . rintro rfl
     exact ⟨_,_,rfl,rfl,Ch.mpr rfl⟩
theorem Pf {K:W.Frag}{H:Hp}{v:V}{rs:List (List Str)} (h:Rep K H v (Tn rs)):∃ a us,v=.ref a/\SqL K H a us/\us.length=rs.length/\∀ (i:Nat) u,us[i]?=some u->∃ b r,u=.ref b/\rs[i]?=some r/\SqL K H b (r.map V.str):=by
 obtain⟨a,us,rfl,hq,r⟩:=h
 refine⟨a,us,rfl,hq,by have:=r.length;simpa using this,fun i u hu=>?_⟩
 obtain⟨d,hd,hr⟩:=r.getV hu
 rw [List.getElem?_map] at hd
 obtain⟨w,hw,rfl⟩:=Option.map_eq_some_iff.mp hd
 obtain⟨b,vs,rfl,hb,hv⟩:=hr
 cases (Ch.mp hv)
 exact ⟨b,w,rfl,hw,hb⟩
theorem cut1 (us:List V):L2.cutV us (some 1) none=us.drop 1:=by
 unfold L2.cutV
 have e1:HT.sIx us.length 0 (some (1:Int))=min 1 us.length:=by
  have:=HT.sIx_nat us.length 0 1
  simpa using this
 rw [e1,HT.sIx_none]
 cases us with
 | nil=>rfl
 | cons u us =>
   rw [show min 1 (u::us).length=1 by simp,List.take_of_length_le (by simp)]
end Hb
namespace Hb
open PySem L2
def lets:Nat->Nat->List Nat
 | 0,_=>[]
 | s+1,m=>(97+m%26)::lets s (m / 26)
theorem Px:∀ (s m:Nat),(lets s m).length=s
 | 0,_=>rfl
 | s+1,m=>by show ((97+m%26)::lets s (m / 26)).length=s+1;rw [List.length_cons,Px s]
theorem Sm:∀ (s m:Nat),lets (s+1) m=lets s m++[97+m / 26 ^ s%26]
 | 0,m=>by simp [lets]
 | s+1,m=>by
   show (97+m%26)::lets (s+1) (m / 26)=((97+m%26)::lets s (m / 26))++_
   rw [Sm s (m / 26),List.cons_append,Nat.div_div_eq_div_mul,Nat.pow_succ,Nat.mul_comm]
theorem c4:∀ (s m:Nat),∀ c∈lets s m,97<=c/\c<=122
 | 0,_,c,h=>by simp [lets] at h
 | s+1,m,c,h=>by
   rcases List.mem_cons.mp h with rfl | h
   . have:=Nat.mod_lt m (by decide:0<26)
     omega
   . exact c4 s _ c h
theorem W2:∀ (s m m':Nat),lets s m=lets s m'->m%26 ^ s=m'%26 ^ s
 | 0,m,m',_=>by simp [Nat.mod_one]
 | s+1,m,m',h=>by
   have h1:97+m%26=97+m'%26:=(List.cons.inj h).1
   have h2:=W2 s _ _ (List.cons.inj h).2
   have e:∀ k:Nat,k%26 ^ (s+1)=k%26+26*(k / 26%26 ^ s):=fun k=>by
    rw [Nat.pow_succ,Nat.mul_comm,Nat.mod_mul]
   rw [e,e,h2]
   omega
def Gn (s:Nat):List Nat:=(List.range s).map (97+·)
def nm (stem n:Nat):Str:=⟨(Gn stem++lets (1+n%4) (n / 4)).toArray⟩
theorem Ae4 {stem n:Nat} (h:stem<=4):D7 (nm stem n):=by
 have e:(nm stem n).cps.toList=Gn stem++lets (1+n%4) (n / 4):=rfl
 have el:(nm stem n).length=stem+(1+n%4):=by
  show (Gn stem++lets (1+n%4) (n / 4)).toArray.size=_
  simp [Gn,Px]
 have:=Nat.mod_lt n (by decide:0<4)
 refine⟨by omega,by omega,fun c hc=>?_⟩
 rw [e] at hc
 rcases List.mem_append.mp hc with hc | hc
 . obtain⟨j,hj,rfl⟩:=List.mem_map.mp hc
   have:=List.mem_range.mp hj
   omega
 . exact c4 _ _ c hc
theorem Ak5 {stem k k':Nat} (h:k<k') (h2:k'<k+1000):nm stem (4*k+3)≠nm stem (4*k'+3):=fun e=>by
 have e1:(Gn stem++lets (1+(4*k+3)%4) ((4*k+3) / 4))=Gn stem++lets (1+(4*k'+3)%4) ((4*k'+3) / 4):=by
  have:=congrArg (fun s:Str=>s.cps.toList) e
  exact this
 have e2:=List.append_cancel_left e1
 rw [show (4*k+3)%4=3 by omega,show (4*k'+3)%4=3 by omega,show (4*k+3) / 4=k by omega,show (4*k'+3) / 4=k' by omega] at e2
 have e3:=W2 4 _ _ e2
 have e4:26 ^ 4=456976:=by decide
 rw [e4] at e3
 omega
theorem Ak4 {stem n0:Nat}{ns:List Str} (h:∀ n,n0<=n->n<n0+400->nm stem n∈ns):41<=ns.length:=by
 have sub:((List.range 41).map fun j=>nm stem (4*(n0 / 4+1+j)+3)) ⊆ ns:=fun x hx=>by
  obtain⟨j,hj,rfl⟩:=List.mem_map.mp hx
  have:=List.mem_range.mp hj
  exact h _ (by omega) (by omega)
 have nd:((List.range 41).map fun j=>nm stem (4*(n0 / 4+1+j)+3)).Nodup:=by
  rw [List.nodup_iff_pairwise_ne,List.pairwise_map]
  refine List.Pairwise.imp_of_mem ?_ (List.pairwise_lt_range (n:=41))
  intro a b ha hb hab
  have:=List.mem_range.mp hb
  exact Ak5 (by omega) (by omega)
 have:=nd.length_le_of_subset sub
 simpa using this
theorem n6 {s:Nat} (h:s<=4):slS (Str.ofString "abcdefghijklmnopq") none (some (s:Int))=⟨(Gn s).toArray⟩:=by
 match s,h with
 | 0,_=>decide +kernel
 | 1,_=>decide +kernel
 | 2,_=>decide +kernel
 | 3,_=>decide +kernel
 | 4,_=>decide +kernel
theorem Am1 {r:Nat} (h:r<26):(Str.ofString "abcdefghijklmnopqrstuvwxyz").cps.toList[r]?=some (97+r):=by
 have key:∀ r:Fin 26,(Str.ofString "abcdefghijklmnopqrstuvwxyz").cps.toList[r.val]?=some (97+r.val):=by decide +kernel
 exact key ⟨r,h⟩
section
variable (K:W.Frag)
def Fv (_K:W.Frag):Sp:=fun vs H Q _=>∃ n stem:Nat,vs=[.int n,.int stem]/\stem<=4/\Q (.str (nm stem n)) H
def E7 (_K:W.Frag):Sp:=fun vs H Q _=>∃ (c:Int) (many:Nat),vs=[.int c,.int many]/\many<=40/\∀ (l:Addr) (names:List Str) (H':Hp),H l=none->Same H H'->H' l=some (.lst (names.map V.str))->names.length=many->names.Nodup->(∀ x∈names,D7 x)->Q (.ref l) H'
end
theorem deps_strs:∀ ws:List Str,deps (ws.map L2.D.str)=0
 | []=>rfl
 | w::ws=>by
   show max 0 (deps (ws.map L2.D.str))=0
   rw [deps_strs ws]
   rfl
theorem Qg {w:Str}:∀{ws:List Str},((ws.map L2.D.str).any fun e=>eqD e (.str w))=decide (w∈ws)
 | []=>by simp
 | v::ws=>by
   rw [List.map_cons,List.any_cons,Qg (ws:=ws)]
   have e:eqD (.str v) (.str w)=decide (v=w):=by
    show (v==w)=_
    rw [Bool.eq_iff_iff,beq_iff_eq,decide_eq_true_iff]
   rw [e]
   by_cases h:v=w
   . subst h;simp
   . have h':¬w=v:=fun z=>h z.symm
     simp [h,h']
theorem n5 (A:List Nat) (c:Nat):(⟨A.toArray⟩:Str)++(⟨#[c]⟩:Str)=⟨(A++[c]).toArray⟩:=by
 apply Str.ext'
 rw [Str.cps_append]
 simp
theorem Mc (sep:Str):∀ (ws:List Str) (w:Str),ws.foldl (fun acc x=>acc++sep++x) w=Str.join sep (w::ws)
 | [],w=>rfl
 | x::ws,w=>by
   rw [List.foldl_cons,Mc sep ws]
   cases ws with
   | nil=>rfl
   | cons y r =>
     show (w++sep++x)++sep++Str.join sep (y::r)=w++sep++(x++sep++Str.join sep (y::r))
     apply Str.ext'
     simp only [Str.cps_append,Array.append_assoc]
end Hb
namespace L2
open PySem PySem.Spec PyProof.Rows PySem.W
section
variable {prog:Program}{w:World}{A:Around}{E:Value->Shared->Prop}{h:Heap}{g:Array GenState}{d:Drawn}{t:Nat}{os:OsState}{a C dx:Addr}{o:Obj}{K:Frag}{cd:ClassData}{mA:Str->Option Value}{v:Value}{name:Str}
theorem Zk {tk:Tok}{Q:PySem.Fin->Shared->Prop} (X:K.In h) (hf:findIn K (.ref C) name=some none) (hcd:clsIn K C=some cd) (hh:cd.hasDict=true) (hx:h.get? a=some o) (hc:o.cls=.ref C) (hd:o.dict=some dx) {vs:Array Value} (hdat:o.data=.fields vs) (hn:h.Ns dx mA) (hv:mA name=some v) (hq:Q (.done (.ret v)) ⟨h,g,d,t,os⟩) :
 wpAny (model prog w) A (Builtin.«object.__getattribute__» ⟨[.ref a,.str name tk],[]⟩) Q E ⟨h,g,d,t,os⟩:=by
 have L1:Looks (model prog w) h (typeLookup (.ref C) name) none:=looks_findIn X hf
 have L2':Looks (model prog w) h (classData C) cd:=looks_clsIn X hcd
 obtain⟨oc,od,oda,osl⟩:=o
 dsimp only at hc hd hdat
 subst hc hd hdat
 repeat (any_goals (first | assumption | (with_reducible refine wpAny_nsGet hn ?_;rw [hv]) | with_reducible refine wpAny_loadPart_at hx ?_ | with_reducible refine L1.at ?_ | with_reducible refine L2'.at ?_ | (rw [hh]) | wp_step))
end
end L2
namespace L2
open PySem PySem.Spec PyProof.Rows PySem.W PySem.Builtin PySem.Builtin.ObjectAttr
def V7:List Value:=[.type "ValueError",.type "Exception",.type "BaseException",.type "object"]
theorem U9 (self:Value):refuseLoop self "__setattr__" V7=pure ():=by kernel_rfl
section
variable {prog:Program}{w:World}{A:Around}{K:Frag}{s:Shared}{x C D:Addr}{R:Result->Shared->Prop}
theorem Zu {ox:Obj}{od:Option Obj}{name:Str}{tk:Tok}{v:Value}{cd:ClassData} (X:K.In s.heap) (I:InstAt s.heap x ox C od) (hc:clsIn K C=some cd) (hm:cd.mro=.ref C::.ref D::V7) (hf:findIn K (.ref C) name=some none)
 (h:wpAny (model prog w) A.in1 (storeInOwnDict (.ref x) (.ref C) (.str name tk) name v false) (fun fin s'=>match fin with | .done f=>R (.ok f) s' | .again c'=>c'.quiet=true/\codeAny (model prog w) A c' R s') (fun e s'=>R (.error e) s') s) :
 codeAny (model prog w) A (.call (.builtin "object.__setattr__") ⟨[.ref x,.str name tk,v],[]⟩) R s:=by
 have SF:=PySem.F.store_object
 have sub:Looks (model prog w) s.heap (isInstance (.ref x) (.type "object")) true:=I.type.andThen (looks_mroIn X (by unfold mroIn;rw [hc,Option.bind_some,hm];rfl))
 refine codeAny_call_builtin SF.slot.plain SF.entry (@check_slot (model prog w) _ _ s "object.__setattr__" "object" "__setattr__" (.ref x) [.str name tk,v] [] _ SF.kind SF.split sub (SF.args (.ref x) (.str name tk) v) ?_)
 have hl:Looks (model prog w) s.heap (mroOf (.ref C)) cd.mro:=(looks_clsIn X hc).andThen .now
 rw [osa_eq,refuse_eq]
 refine wpAny_bind (wpAny_bind (I.type.here (wpAny_bind (hl.here ?_))))
 rw [hm,refuseLoop_ref,refuseLoop_ref,U9]
 exact wpAny_pure (wpAny_bind (I.type.here (wpAny_bind ((looks_findIn X hf).here (wpAny_bind (wpAny_pure h))))))
end
section
variable {prog:Program}{w:World}{A:Around}{E:Value->Shared->Prop}{K:Frag}{s:Shared}{x C:Addr}
theorem Ur {ox:Obj}{vs:Array Value}{name:Str}{tk:Tok}{v:Value}{cd:ClassData}{Q:PySem.Fin->Shared->Prop} (X:K.In s.heap) (hx:s.heap.get? x=some ox) (hcl:ox.cls=.ref C) (hd:ox.dict=none) (hf:ox.data=.fields vs)
 (hc:clsIn K C=some cd) (hh:cd.hasDict=true)
 (h:∀ h' t',h'.get? x=some { ox with dict:=some s.heap.objs.size }->h'.Ns1 s.heap.objs.size (fun y=>if y=name then some v else none)->(∀ b o,b≠x->s.heap.get? b=some o->h'.get? b=some o)->Q (.done (.ret .none)) { s with heap:=h',toks:=t' }) :
 wpAny (model prog w) A (storeInOwnDict (.ref x) (.ref C) (.str name tk) name v false) Q E s:=by
 obtain⟨oc,odi,oda,osl⟩:=ox
 dsimp only at hcl hd hf
 subst hcl hd hf
 refine wpAny_bind (wpAny_pure (wpAny_bind (wpAny_bind (wpAny_loadPart hx (wpAny_bind ((looks_clsIn X hc).here ?_))))))
 rw [hh]
 have hxs:x≠s.heap.objs.size:=Nat.ne_of_lt (Heap.lt_size hx)
 have hx₁:(s.heap.push { cls:=.type "dict",data:=.dict #[] }).get? x=some ⟨.ref C,none,.fields vs,osl⟩:=Heap.get?_push_of_some _ hx
 have hgd:((s.heap.push { cls:=.type "dict",data:=.dict #[] }).update x fun o=>{ o with dict:=some s.heap.objs.size }).get? s.heap.objs.size=some { cls:=.type "dict",data:=.dict #[] } :=
  (Heap.get?_update_other _ _ hxs).trans (Heap.get?_push_size _ rfl)
 have hgx:((s.heap.push { cls:=.type "dict",data:=.dict #[] }).update x fun o=>{ o with dict:=some s.heap.objs.size }).get? x=some ⟨.ref C,some s.heap.objs.size,.fields vs,osl⟩ :=
  Heap.get?_update_self (fun o=>{ o with dict:=some s.heap.objs.size }) hx₁ rfl
 have hkeep:∀ b o,b≠x->s.heap.get? b=some o->((s.heap.push { cls:=.type "dict",data:=.dict #[] }).update x fun o=>{ o with dict:=some s.heap.objs.size }).get? b=some o:=fun b o n e =>
  (Heap.get?_update_other _ _ n.symm).trans (Heap.get?_push_of_some _ e)
 refine wpAny_bind (wpAny_alloc' (wpAny_bind (wpAny_update' hx₁ (wpAny_pure ?_))))
 generalize ((s.heap.push { cls:=.type "dict",data:=.dict #[] }).update x fun o=>{ o with dict:=some s.heap.objs.size })=G at hgd hgx hkeep ⊢
 refine wpAny_bind (wpAny_pure (wpAny_bind (wpAny_nsSet1 (m:=fun _=>none) (Heap.Ns1.of_empty ⟨_,#[],_,hgd,rfl,fun e he=>absurd he (by simp),fun _=>rfl⟩) fun h' hn' hs=>?_)))
 obtain⟨oD,esD,epD,hoD,hdD,hcD⟩:=hn'.count (Within.cons name v Within.nil)
 refine wpAny_bind (wpAny_lookBehind hoD (by rw [hdD];exact pastItsLine_dict (Nat.le_trans hcD (by rw [List.length_cons,List.length_nil];decide))) ?_)
 exact wpAny_pure (h h' _ ((hs.2 x hxs).trans hgx) hn' fun b o n e=>(hs.2 b (Nat.ne_of_lt (Heap.lt_size e))).trans (hkeep b o n e))
end
end L2
namespace L2
open PySem PySem.Spec PyProof.Rows PySem.W
theorem Ak3 {K:Frag}{h:Heap}{N:Addr}{mN:Str->Option Value}{n:Str}{v:Value} (X:K.In h) (G:h.Ns N mN) (z:nsIn K N n=some (some v)):mN n=some v:=by
 obtain⟨ob,es,ep,h1,h2,_,h4⟩:=G
 unfold nsIn at z
 split at z
 next c d es' n' sl q =>
  have y:=X _ _ q
  rw [h1] at y;cases y;cases h2
  split at z
  next en hen=>(cases z;rw [←h4];unfold nsFind findBy;rw [←Array.find?_toList,hen];rfl)
  next=>(split at z<;>cases z)
 next=>cases z
abbrev errF:=PySem.F.excBase_ValueError
structure ErrC (K:Frag) (C D f:Addr):Prop where
 obj:∃ N nm q bs sn sub ab col dd k0 k1 k2 k3 k5,K.lookup C=some (excClassObj nm q C N bs (.ref D::bmV) true sn sub ab col dd k0 k1 k2 k3 k5 "ValueError.__new__")/\nsOkIn K N=true/\nsIn K N "__init__"=some (some (.ref f))
 tail:tailIn K bmV (.ref D::bmV)=true
 fn:isFn K (.ref f)=true
 sa:findIn K (.ref C) "__setattr__"=some (some (.builtin "object.__setattr__"))
section
variable {prog:Program}{w:World}{A:Around}{E:Value->Shared->Prop}{h:Heap}{g:Array GenState}{d:Drawn}{t:Nat}{os:OsState}{K:Frag}{C D f:Addr}{rest:List Value}
theorem ErrC.here (Z:ErrC K C D f) (X:K.In h):∃ N nm q bs sn sub ab col dd k0 k1 k2 k3 k5 mN,h.get? C=some (excClassObj nm q C N bs (.ref D::bmV) true sn sub ab col dd k0 k1 k2 k3 k5 "ValueError.__new__")/\h.Ns N mN/\mN "__init__"=some (.ref f)/\OwnTail h bmV (.ref D::bmV):=by
 obtain⟨N,nm,q,bs,sn,sub,ab,col,dd,k0,k1,k2,k3,k5,e,n1,n2⟩:=Z.obj
 have n0:h.Ns N (h.nsMap N):=.of_isNs (isNs_of_in X n1)
 exact ⟨N,nm,q,bs,sn,sub,ab,col,dd,k0,k1,k2,k3,k5,h.nsMap N,X _ _ e,n0,Ak3 X n0 n2,tail_of_in X Z.tail⟩
theorem ErrC.fnHere (Z:ErrC K C D f) (X:K.In h):∃ o,h.get? f=some o/\o.cls=.type "function":=by
 have z:=beq_iff_eq.mp Z.fn
 unfold typeIn at z
 cases q:K.lookup f with
 | none=>simp [q] at z
 | some o=>simp [q] at z;exact ⟨o,X _ _ q,z⟩
abbrev Ex (C t:Addr) (dx:Option Addr):Obj:={ cls:=.ref C,dict:=dx,data:=.fields #[.ref t,.none,.none,.none,.bool false,.none] }
theorem w8 {Q:Value->Shared->Prop} (X:K.In h) (Z:ErrC K C D f) (hr:rest.length<=sizeLine)
 (hq:∀ h' e,h.objs.size<=e->Heap.MadeExcOf h h' e (.ref C) rest->wpAny (model prog w) (A.under (.builtin "type.__call__" ⟨.ref C::rest,[]⟩)) (call (.ref f) (.ref e::rest)) (fun r s'=>r=.none/\Q (.ref e) s') E ⟨h',g,d,t,os⟩) :
 wpAny (model prog w) A (call (.ref C) rest) Q E ⟨h,g,d,t,os⟩:=by
 obtain⟨N,nm,q,bs,sn,sub,ab,col,dd,k0,k1,k2,k3,k5,mN,hC,hN,hi,T⟩:=Z.here X
 obtain⟨oI,hfI,hfc⟩:=Z.fnHere X
 have f1:=tc_lookup
 have f2:=tc_bind (.ref C)
 have hT:(⟨h,g,d,t,os⟩:Shared).TypeIs (.ref C) "type":=⟨_,hC,rfl⟩
 refine wpAny_call (codeAny_of_tree ?_)
 show wpAny _ _ (callAny (.ref C) _) _ _ _
 repeat (any_goals (first | assumption | with_reducible refine wpAny_loadPart_at hC ?_ | wp_step))
 refine⟨rfl,codeAny_call_builtin_at (Code.quiet_builtin _ (by decide +kernel)) entry_typeCall (wpAny_check_type_call_sub hC ?_)⟩
 repeat (first | with_reducible refine wpAny_loadPart_at hC ?_ | with_reducible refine wpAny_madeBy_exc hC ?_ | wp_step)
 refine codeAny_call_builtin_code (Code.quiet_builtin _ errF.quiet) (wpAny_check_new_subT errF T hC (codeAny_exc_new_subT errF T hC ?_ hr))
 show wpAny _ _ _ _ _ _
 let G:=(h.push { cls:=.type "tuple",data:=.seq rest.toArray }).push (Ex C h.objs.size none)
 have kG:∀ b o,h.get? b=some o->G.get? b=some o:=fun b o e=>Heap.get?_push_of_some _ (Heap.get?_push_of_some _ e)
 have hC1:=kG _ _ hC
 have hN1:G.Ns N mN:=hN.keeps kG
 have hf1:=kG _ _ hfI
 have hget:G.get? (h.objs.size+1)=some (Ex C h.objs.size none):=by
  have:=Heap.get?_push_size (h.push { cls:=.type "tuple",data:=.seq rest.toArray }) (o:=Ex C h.objs.size none) rfl
  rwa [Heap.size_push] at this
 have hcC:(Value.ref C::.ref D::bmV).contains (.ref C)=true:=by rw [List.contains_cons,beq_self_eq_true];rfl
 have hm:Heap.MadeExcOf h G (h.objs.size+1) (.ref C) rest:=⟨kG,Heap.get?_none_of_le (Nat.le_succ _),h.objs.size,hget,Heap.get?_none_of_le (Nat.le_refl _),Heap.get?_push_of_some _ (Heap.get?_push_at rfl rfl)⟩
 show wpAny _ _ _ _ _ ⟨G,g,d,t,os⟩
 clear_value G
 unfold isInstance
 repeat (first | (with_reducible refine wpAny_loadPart_at hget ?_;dsimp only [Ex]) | (with_reducible refine wpAny_isSubtype_exc hC1 ?_;rw [hcC]) | wp_step)
 refine wpAny_typeLookup_tail hC1 hN1 (T.keeps kG) errF.mroIs errF.init.lookup ?_
 rw [hi]
 refine wpAny_holding (wpAny_bind ?_)
 unfold bindSpecial
 refine wpAny_bind (wpAny_typeOf (T:="function") ⟨_,hf1,hfc⟩ ?_)
 rw [if_pos (by decide)]
 refine wpAny_pure (wpAny_bind (wpAny_mono (hq G _ (Nat.le_succ _) hm) (fun r s' z=>?_) fun _ _ x=>x))
 obtain⟨rfl,z⟩:=z
 wp_walk
 exact z
end
end L2
namespace L2
open PySem PySem.Spec PyProof.Rows PySem.W
def newE (e C:Addr):HO:=.ext fun h=>∃ t,h.get? e=some (Ex C t none)
def madeE (e C d:Addr):HO:=.ext fun h=>∃ t,h.get? e=some (Ex C t (some d))
theorem a9 {P:Program}{w:World}{H:Hp}{h:Heap}{e C t:Addr} (z:h.get? e=some (Ex C t none)):ObjOk P w H h e (newE e C):=⟨⟨t,z⟩,⟨_,z⟩,fun _ _ ⟨t',y⟩ k=>⟨t',k _ y⟩⟩
theorem u3 {P:Program}{w:World}{H:Hp}{h:Heap}{e C t d:Addr} (z:h.get? e=some (Ex C t (some d))):ObjOk P w H h e (madeE e C d):=⟨⟨t,z⟩,⟨_,z⟩,fun _ _ ⟨t',y⟩ k=>⟨t',k _ y⟩⟩
theorem b7 {P:Program}{w:World}{H:Hp}{h:Heap}{e C:Addr} (z:ObjOk P w H h e (newE e C)):∃ t,h.get? e=some (Ex C t none):=z.1
theorem W1 {P:Program}{w:World}{H:Hp}{h:Heap}{e C d:Addr} (z:ObjOk P w H h e (madeE e C d)):∃ t,h.get? e=some (Ex C t (some d)):=z.1
structure Xd (K:Frag) (D:Addr):Prop where
 rd:readsIn K D (.type "type")=true
 fc:findCls K (.ref D) (.type "type") "__init__"=some (.val (.builtin "ValueError.__init__"))
 ga:specialIn K (.ref D) "__getattribute__"=some (some (.builtin "type.__getattribute__"))
def An5 (K:Frag) (t:TA):TE:=fun σ H Q=>t σ H fun vs H1=>∃ e C D f y,vs=[.ref e,y]/\H1 e=some (newE e C)/\ErrC K C D f/\Q .non H1
section
variable {X:Cx}{K:Frag}
theorem e8 {Aa:List (Addr × Obj)}{σ:St}{H:Hp}{s:Shared}{Q:VK}{e C D f:Addr}{u:Value} (I:Inv X Aa σ H s) (he:H e=some (newE e C)) (Z:ErrC X.K C D f) (q:Q .non H) :
 wpAny (model X.prog X.w) X.A (call (.builtin "ValueError.__init__") [.ref e,u]) (EP X Aa σ Q) X.xe s:=by
 obtain⟨N,nm,qn,bs,sn,sub,ab,col,dd,k0,k1,k2,k3,k5,mN,hC,hN,hi,T⟩:=Z.here I.kIn
 obtain⟨t0,hx⟩:=b7 (I.hok e _ he)
 obtain⟨h,g,d,t,os⟩:=s
 dsimp only at hx hC hN T
 refine wpAny_call (codeAny_call_builtin errF.init.plain errF.initEntry (wpAny_check_init_subT errF T hC hx rfl ?_))
 wp_walk
 refine⟨.non,H,?_,rfl,q⟩
 have hx1:=Heap.get?_push_of_some (h:=h) { cls:=.type "tuple",data:=.seq [u].toArray } hx
 have hx2:=Heap.get?_update_self (Obj.mapFields (·.setIfInBounds 0 (Value.ref h.objs.size))) hx1 rfl
 have hu:upd H e (newE e C)=H:=by
  funext b
  by_cases hb:b=e
  . rw [hb,Ae,he]
  . rw [Ax hb]
 have z:=I.write (x:=e) (e:=e) (o:=newE e C) (t':=t) (by rw [he];exact True.intro) (.inl rfl) (h':=(h.push { cls:=.type "tuple",data:=.seq [u].toArray }).update e (Obj.mapFields (·.setIfInBounds 0 (Value.ref h.objs.size))))
  (fun b o hb hq=>(Heap.get?_update_other _ _ (Ne.symm hb)).trans (Heap.get?_push_of_some _ hq)) ⟨_,hx2⟩ (a9 (t:=h.objs.size) hx2)
 rw [hu] at z
 exact z
theorem Ad1 {x:Str}{D:Addr}{np apos pos:Pos}{e:Expr}{es:List Expr}{t:TA}{pl:Sem Bool} (hg:Gl X x) (hm:X.mg x=some (.ref D)) (B:Xd K D) (ha:PA X (e::es) t) (hK:X.K=K:=by rfl)
 (hdb:(x==("__debug__":Str))=false:=by decide) (hst:starEach (e::es) X.env=(false,eval e X.env)::starEach es X.env:=by rfl) (hpl:(backTo pos (starEach es X.env)).any (·.1)=false:=by rfl)
 (ht:eval (.Call (.Attribute (.Name x np) "__init__" apos) (e::es) [] pos) X.env=(do
   let ov ←eval (.Name x np) X.env
   standAt apos.atName
   let (f,first) ←holding [ov] (getMethod ov "__init__" pl)
   callWith pos f first (backTo pos (starEach (e::es) X.env)) (backToKw pos (keywordEach [] X.env))):=by rfl) :
 PE X (.Call (.Attribute (.Name x np) "__init__" apos) (e::es) [] pos) (An5 K t):=by
 subst hK
 intro Aa s σ H Q I h
 refine PySem.W.methodCall_KW (pl:=pl) (F2 I hg hm ?_ hdb) ht
 refine method_cls I.kIn B.ga (cls_value I.kIn B.rd B.fc rfl ?_)
 refine PyProof.Rows.callWith_builtin1 (thn (ha pos Aa _ σ H _ (I.tok _) h) fun us s1 ⟨vs,H1,I1,r1,e1,C,D',f,y,ev,he,Z,q1⟩=>?_) hst hpl
 subst ev
 obtain⟨u1,u2,rfl,ru,_⟩:=Up r1
 cases ru
 exact e8 I1 he Z q1
def sErr (K:Frag) (ta tv:TE) (f:Str):TS:=fun D σ H=>tv σ H fun y H1=>ta σ H1 fun x H2=>∃ e C B g,x=.ref e/\H2 e=some (newE e C)/\ErrC K C B g/\findIn K (.ref C) f=some none ∧
 ∀ d,H2 d=none->D.nx σ (upd (upd H2 d (.xd [(f,y)])) e (madeE e C d))
theorem Inv.errd {Aa:List (Addr × Obj)}{σ:St}{H:Hp}{s:Shared}{h':Heap}{t':Nat}{e C d:Addr}{o1 o2:HO} (I:Inv X Aa σ H s) (he:H e=some (newE e C)) (hd:s.heap.objs.size<=d)
 (k:∀ b o,b≠e->s.heap.get? b=some o->h'.get? b=some o) (z1:∀ H',ObjOk X.prog X.w H' h' d o1) (z2:∀ H',ObjOk X.prog X.w H' h' e o2):Inv X Aa σ (upd (upd H d o1) e o2) { s with heap:=h',toks:=t' }:=by
 have hdn:H d=none:=I.hok.fresh hd
 have hde:d≠e:=fun q=>by rw [q,he] at hdn;cases hdn
 have nb:∀ b o,s.heap.get? b=some o->b≠d:=fun b o q=>Nat.ne_of_lt (Nat.lt_of_lt_of_le (Heap.lt_size q) hd)
 have ne:∀ b,H b=none->b≠e:=fun b q z=>by rw [z,he] at q;cases q
 have go:∀ b u,H b=some u->u≠newE e C->upd (upd H d o1) e o2 b=some u:=fun b u q hu=>by
  have:b≠e:=fun z=>by rw [z,he] at q;cases q;exact hu rfl
  rw [Ax this,Ax (A8 q hdn)]
  exact q
 have tup:∀ b xs,H b=some (.tup xs)->upd (upd H d o1) e o2 b=some (.tup xs):=fun b xs q=>go b _ q (by unfold newE;intro z;cases z)
 refine I.un ⟨fun b o q n _ _=>k b o (ne b n) q,fun b o q n _ _=>⟨o.slots,k b o (ne b n) q⟩,fun b o q n _=>by rw [Ax (ne b n),Ax (nb b o q)];exact n,fun b o q _=>?_,tup,fun b o u q=>go b _ q (by unfold newE;intro z;cases z),
  fun b ps q=>⟨#[],by rw [go b _ q (by unfold newE;intro z;cases z)];simp⟩⟩ fun b u q=>?_
 . by_cases hb:b=e
   . obtain⟨o',q'⟩:=(z2 H).ob
     exact ⟨o',by rw [hb];exact q'⟩
   . exact ⟨o,k b o hb q⟩
 . by_cases hb:b=e
   . subst hb;rw [Ae] at q;cases q;exact z2 _
   . rw [Ax hb] at q
     by_cases hb2:b=d
     . subst hb2;rw [Ae] at q;cases q;exact z1 _
     . rw [Ax hb2] at q
       refine (I.hok b u q).stay (fun c v hc z=>k c v ?_ z) (fun c z=>go c _ z (by unfold newE;intro z;cases z)) tup
       rintro rfl
       rcases hc with z | z
       . exact hb z.symm
       . rw [he] at z;unfold newE at z;cases z
theorem Ai9 {o value:Expr}{f:Str}{pos pos':Pos}{ta tv:TE} (ha:PE X o ta) (hv:PE X value tv) (hs:swapsWith value (some (.Attribute o f pos')) pos.line X.env=pure false) (hK:X.K=K:=by rfl):PS X (.Assign [.Attribute o f pos'] value pos) (sErr K ta tv f):=by
 subst hK
 intro Aa s σ H E I h
 refine plainObj_wpAny_Assign_Attribute (thn (hv Aa s σ H _ I h) fun u s1 ⟨y,H1,I1,ry,q⟩=>thn (ha Aa s1 σ H1 _ I1 q) fun ov s2 ⟨x,H2,I2,rx,e,C,B,g,ex,he,Z,hf,q2⟩=>?_) hs
 subst ex
 obtain rfl:ov=Value.ref e:=rx
 obtain⟨t0,hx⟩:=b7 (I2.hok e _ he)
 have J:InstAt s2.heap e (Ex C t0 none) C none:=⟨hx,rfl,rfl,True.intro⟩
 obtain⟨N,nm,qn,bs,sn,sub,ab,col,dd,k0,k1,k2,k3,k5,hl,_,_⟩:=Z.obj
 obtain⟨cd,hc,hm,hh⟩:∃ cd:ClassData,clsIn X.K C=some cd/\cd.mro=.ref C::.ref B::V7/\cd.hasDict=true:=⟨_,by unfold clsIn;rw [hl],rfl,rfl⟩
 refine set_plain I2.kIn J Z.sa (Zu (s:={ s2 with toks:=s2.toks+1 }) I2.kIn J hc hm hf (Ur (s:={ s2 with toks:=s2.toks+1 }) I2.kIn hx rfl rfl rfl hc hh fun h' t' z1 z2 z3=>?_))
 refine⟨σ,_,I2.errd (t':=t') (o1:=.xd [(f,y)]) he (Nat.le_refl _) z3 (fun H'=>⟨_,z2,fun n=>?_⟩) (fun H'=>u3 z1),q2 _ (I2.hok.fresh (Nat.le_refl _))⟩
 by_cases hn:n=f
 . subst hn
   simp only [List.lookup_cons,beq_self_eq_true,if_true]
   exact ry
 . have:(n==f)=false:=beq_eq_false_iff_ne.mpr hn
   simp only [List.lookup_cons,this,if_neg hn,List.lookup_nil]
   exact True.intro
end
end L2
namespace L2
open PySem PySem.Spec PyProof.Rows PySem.W
def del (H:Hp) (e:Addr):Hp:=fun b=>if b=e then none else H b
theorem Td {H:Hp}{e b:Addr} (h:b≠e):del H e b=H b:=if_neg h
theorem v6 {H:Hp}{e:Addr}:del H e e=none:=if_pos rfl
section
variable {M:Model}{A:Around}{E:Value->Shared->Prop}{env:Env}
theorem Zy {K:Frag}{C D f:Addr}{s:Shared}{x:Sem Value}{Q:Flow->Shared->Prop} (Z:ErrC K C D f) (hh:A.handled=none)
 (h:wpAny M A x (fun v s1=>K.In s1.heap/\∃ e t dx,v=.ref e/\s1.heap.get? e=some (Ex C t dx)/\E (.ref e) s1) E s):wpAny M A (raiseStmt env (some x) none) Q E s:=by
 unfold raiseStmt
 refine wpAny_bind (wpAny_mono h (fun v s1 z=>?_) fun _ _ y=>y)
 obtain⟨X,e,t0,dx,rfl,he,hE⟩:=z
 obtain⟨N,nm,q,bs,sn,sub,ab,col,dd,k0,k1,k2,k3,k5,mN,hC,hN,hi,T⟩:=Z.here X
 have hB:(Value.ref C::.ref D::bmV).contains (.type "BaseException")=true:=by rw [List.contains_cons,T.hasType errF.hasBase,Bool.or_true]
 obtain⟨hp,g,d,tk,os⟩:=s1
 dsimp only at he hC
 repeat (first | with_reducible refine wpAny_loadPart_at he ?_ | with_reducible refine wpAny_loadPart_at hC ?_ | (with_reducible refine wpAny_isSubtype_exc hC ?_;rw [hB]) | wp_step)
 exact wpAny_raiseNew_none hh hE
end
def MakesD (X:Cx) (J:XJ):Prop:=∀ (Aa:List (Addr × Obj)) (σ:St) (H:Hp) (s:Shared) (e C d:Addr),Inv X Aa σ H s->X.s₀.heap.get? e=none->e ∉ frs X.stack->H e=some (madeE e C d)->J (.ref C) (some d) σ (del H e)->X.xe (.ref e) s
def Zs (J:XJ) (C:Addr) (sp:Sp) (t:TA):TS:=fun _ σ H=>t σ H fun vs H1=>vs.length<=sizeLine/\∀ e,H1 e=none →
 sp (.ref e::vs) (upd H1 e (newE e C)) (fun v H2=>v=.non/\∃ d,H2 e=some (madeE e C d)/\J (.ref C) (some d) σ (del H2 e)) (fun _ _ _=>False)
theorem Z1 {X:Cx}{J:XJ}{K:Frag}{C D f:Addr}{fd:FuncData}{ps:List Str}{k:Nat}{sp:Sp}{x:Str}{np cpos pos:Pos}{e:Expr}{es:List Expr}{t:TA} (hx:MakesD X J) (hc:X.calm=true) (hg:Gl X x) (hm:X.mg x=some (.ref C)) (Z:ErrC K C D f) (hkp:keepIn K (.ref C)=true)
 (F:FnOk X.prog X.w X.K X.mg X.base CX0 k f fd ps sp) (hb:Na X.K fd ps []) (hr:Room (k+1) X.A) (ha:PA X (e::es) t) (hK:X.K=K:=by rfl)
 (hdb:(x==("__debug__":Str))=false:=by decide) (he:starEach (e::es) X.env=(false,eval e X.env)::starEach es X.env:=by rfl) (hpl:(backTo cpos (starEach es X.env)).any (·.1)=false:=by rfl) :
 PS X (.Raise (some (.Call (.Name x np) (e::es) [] cpos)) none pos) (Zs J C sp t):=by
 subst hK
 intro Aa s σ H Dn I h
 have main:wpAny (model X.prog X.w) X.A (eval (.Call (.Name x np) (e::es) [] cpos) X.env) (fun v s1=>X.K.In s1.heap/\∃ e' t' dx,v=.ref e'/\s1.heap.get? e'=some (Ex C t' dx)/\X.xe (.ref e') s1) X.xe s:=by
  refine wpAny_Call_Name_kw (F2 I hg hm ?_ hdb)
  refine PySem.W.callWith_K (h₀:=X.base) I.ok.mod.kin hkp (thn (ha cpos Aa s σ H _ I h) fun us s1 ⟨vs,H1,I1,r,hl,q⟩=>⟨I1.kIn,?_⟩) he hpl
  obtain⟨h1,g1,d1,t1,os1⟩:=s1
  refine w8 I1.kIn Z (by show us.length<=_;rw [←r.length];exact hl) fun h' e1 hsz hmk=>?_
  have hn:H1 e1=none:=I1.hok.fresh hsz
  obtain⟨tt,ht,htn,ht2⟩:=hmk.there
  have I2:Inv X Aa σ (upd H1 e1 (newE e1 C)) ⟨h',g1,d1,t1,os1⟩:=I1.laid (a:=e1) (h':=h') (t':=t1) hmk.keeps hsz (a9 ht)
  have r2:Vals (V.ref e1::vs) (Value.ref e1::us):=.cons rfl r
  have hlen:(Value.ref e1::us).length=ps.length:=by rw [←r2.length];exact F.len _ _ _ _ (q e1 hn)
  have hb1:=hb ⟨h',g1,d1,t1,os1⟩ (Value.ref e1::us) I2.kIn (by rw [List.append_nil];exact hlen)
  rw [List.append_nil] at hb1
  refine wpAny_call (codeAny_mono (F.run _ X.stack _ _ ⟨Value.ref e1::us,[]⟩ (Value.ref e1::us) _ _ _ (hr.make C us []) (I2.env0.make C us []) hb1 r2 (q e1 hn)) fun rr s' hq=>?_)
  cases rr with
  | error u=>exact False.elim hq
  | ok fl =>
    cases fl with
    | ret u =>
      obtain⟨v,H3,I3,rv,ev,dd,hm3,hj⟩:=I2.after hq
      subst ev
      refine⟨rv,I3.kIn,e1,?_⟩
      obtain⟨t3,h3⟩:=W1 (I3.hok e1 _ hm3)
      have hs0:X.s₀.heap.get? e1=none:=by
       cases z:X.s₀.heap.get? e1 with
       | none=>rfl
       | some o=>exact absurd (Nat.lt_of_lt_of_le (Heap.lt_size z) (Nat.le_trans I1.sz hsz)) (Nat.lt_irrefl _)
      have hst:e1 ∉ frs X.stack:=fun z=>by
       have:=I3.stkFree e1 z
       rw [hm3] at this
       cases this
      exact ⟨_,_,rfl,h3,hx Aa σ H3 s' e1 C dd I3 hs0 hst hm3 hj⟩
    | next=>exact False.elim hq
    | brk=>exact False.elim hq
    | cont=>exact False.elim hq
 rw [arm_exec_Raise]
 refine wpAny_bind (wpAny_standAt (Zy Z (I.ok.hd hc) ?_))
 exact wpAny_bind (wpAny_mono main (fun v s3 z=>wpAny_bind (wpAny_standAt (wpAny_pure z))) fun _ _ y=>y)
structure HasE (P:Program) (w:World) (K:Frag) (mg:Str->Option Value) (base:Heap) (C D:Addr) (ps:List Str) (k:Nat) (sp:Sp):Prop where
 ex:∃ (f:Addr) (fd:FuncData),ErrC K C D f/\keepIn K (.ref C)=true/\Na K fd ps []/\FnOk P w K mg base CX0 k f fd ps sp
theorem Z2 {X:Cx}{J:XJ}{C D:Addr}{ps:List Str}{j k:Nat}{sp:Sp}{x:Str}{np cpos pos:Pos}{e:Expr}{es:List Expr}{t:TA} (hx:MakesD X J) (hc:X.calm=true) (h:HasE X.prog X.w X.K X.mg X.base C D ps j sp) (hr:Room k X.A) (hg:Gl X x) (hm:X.mg x=some (.ref C)) (ha:PA X (e::es) t)
 (hk:j+1<=k:=by decide) (hdb:(x==("__debug__":Str))=false:=by decide) (he:starEach (e::es) X.env=(false,eval e X.env)::starEach es X.env:=by rfl) (hpl:(backTo cpos (starEach es X.env)).any (·.1)=false:=by rfl) :
 PS X (.Raise (some (.Call (.Name x np) (e::es) [] cpos)) none pos) (Zs J C sp t):=by
 obtain⟨f,fd,Z,kp,hb,F⟩:=h.ex
 exact Z1 hx hc hg hm Z kp F hb (hr.mono hk) ha rfl hdb he hpl
section
variable {P:Program}{w:World}{K:W.Frag}{mg:Str->Option Value}{base:Heap}{N:List Str}{qual:Str}{scope:Scope}{f:Addr}{cd:Value}{A:Around}{outer:List Env}{s:Shared}{H:Hp}{E:XK}
theorem Yj:MakesD (cxOf (CX1 P w) P w K mg base N qual scope f cd A outer s H E) (fun cls dx _ H'=>E cls dx H'):=by
 intro Aa σ H1 s1 e C d I hs0 hst he hj
 have hs0':s.heap.get? e=none:=hs0
 have fin:∀ env∈(envOfC qual scope s.heap.objs.size f cd::outer),∀ b,env.frame=some b->b∈e::frs (envOfC qual scope s.heap.objs.size f cd::outer):=fun env hv b hb=>List.mem_cons_of_mem _ (List.mem_filterMap.mpr ⟨env,hv,hb⟩)
 have old:∀ b o,s.heap.get? b=some o->b ∉ frs outer->b ∉ e::frs (envOfC qual scope s.heap.objs.size f cd::outer):=fun b o e1 hb z=>by
  rcases List.mem_cons.mp z with y | y
  . rw [y,hs0'] at e1;cases e1
  rw [P4] at y
  rcases List.mem_cons.mp y with y | y
  . exact absurd (Heap.lt_size e1) (by rw [y];exact Nat.lt_irrefl _)
  . exact hb y
 have nx:∀ b:Addr,b ∉ ([]:List Addr):=fun b=>by simp
 have fr1:∀ b∈frs (envOfC qual scope s.heap.objs.size f cd::outer),H1 b=none:=I.stkFree
 obtain⟨t0,hx⟩:=W1 (I.hok e _ he)
 have ne:∀ b u,H1 b=some u->u≠madeE e C d->del H1 e b=some u:=fun b u q hu=>by
  have:b≠e:=fun z=>by rw [z,he] at q;cases q;exact hu rfl
  rw [Td this];exact q
 show wpAny (model P w) (A.deeper (envOfC qual scope s.heap.objs.size f cd)) (leaving (envOfC qual scope s.heap.objs.size f cd) (.ref e)) _ _ s1
 have dE:ErrD e (some d) s1.heap:=⟨_,hx,rfl⟩
 have hin:PySem.W.hideAll s1.heap (e::frs (envOfC qual scope s.heap.objs.size f cd::outer)) |>.StaysIn s1.heap:=fun b o q=>PySem.W.of_hideAll _ q
 have hen:(PySem.W.hideAll s1.heap (e::frs (envOfC qual scope s.heap.objs.size f cd::outer))).get? e=none:=PySem.W.hideAll_none _ (List.mem_cons_self ..)
 refine wpAny_mono (By (Gj _ _) (wpAny_leaving_firstW (E:=fun _ _=>False) (Q:=fun _ s2=>∃ h2,s2={ s1 with heap:=h2 }/\Heap.LeftW (PySem.W.hideAll s1.heap (e::frs (envOfC qual scope s.heap.objs.size f cd::outer))) (envOfC qual scope s.heap.objs.size f cd::outer) e (.ref C) (.ref t0) s1.heap h2)
  (L:=s.heap.objs.size) I.ok.frames (PySem.W.funFrames_hide I.stack fin) rfl hx hin hen rfl rfl rfl fun h2 x=>⟨h2,rfl,x⟩)) (fun _ s2 ⟨⟨h2,e2,x⟩,kd⟩=>?_) (fun _ _ z=>z.1.elim)
 subst e2
 obtain⟨x1,⟨_,_,x2⟩,x3,x4⟩:=x
 refine⟨e,.ref C,.ref t0,_,del H1 e,some d,rfl,I.os,I.bare,⟨fun b o e1 n hb=>?_,fun b o e1 n hb=>?_,fun b o e1 n=>?_,fun b o e1 hb=>?_,fun b xs y=>ne b _ (I.base.tups b xs y) (by unfold madeE;intro z;cases z),fun b o u y=>ne b _ (I.base.frzs b o u y) (by unfold madeE;intro z;cases z),fun b ps y=>?_⟩,?_,⟨x1,hen,x2,x3⟩,dE.go kd,hj⟩
 . exact PySem.W.hideAll_get _ (I.base.keep b o e1 n hb (nx b)) (old b o e1 hb)
 . obtain⟨z,e2⟩:=I.base.slot b o e1 n hb (nx b)
   obtain⟨_,o',e3,hd⟩:=I.ok.funs.mem hb
   have e3':s.heap.get? b=some o':=e3
   rw [e1] at e3'
   cases e3'
   obtain⟨z2,e4⟩:=x4 b _ e2 hd
   exact ⟨z2,e4⟩
 . have:b≠e:=fun z=>by rw [z,hs0'] at e1;cases e1
   rw [Td this]
   exact I.base.free b o e1 n (nx b)
 . obtain⟨o',e2⟩:=I.base.there b o e1 (nx b)
   exact ⟨o',PySem.W.hideAll_get _ e2 (old b o e1 hb)⟩
 . obtain⟨m1,y1⟩:=I.base.tbls b ps y
   exact ⟨m1,ne b _ y1 (by unfold madeE;intro z;cases z)⟩
 . intro a u y
   have ha:a≠e:=fun z=>by rw [z,v6] at y;cases y
   rw [Td ha] at y
   refine (I.hok a u y).stay (fun b v hb q=>PySem.W.hideAll_get _ q fun hm=>?_) (fun b q=>ne b _ q (by unfold madeE;intro z;cases z)) fun b xs q=>ne b _ q (by unfold madeE;intro z;cases z)
   rcases List.mem_cons.mp hm with hm | hm
   . rcases hb with rfl | hb
     . exact ha hm
     . rw [hm,he] at hb;unfold madeE at hb;cases hb
   . have z:=fr1 b hm
     rcases hb with rfl | hb
     . rw [y] at z;cases z
     . rw [hb] at z;cases z
end
end L2
namespace L2
open PySem PySem.Spec PyProof.Rows PySem.W
structure ErrA (K:Frag) (C:Addr) (name:Str):Prop where
 no:findIn K (.ref C) name=some none
 cd:∃ cd,clsIn K C=some cd/\cd.hasDict=true
theorem ErrC.attr {K:Frag}{C D f:Addr}{name:Str} (Z:ErrC K C D f) (n:findIn K (.ref C) name=some none):ErrA K C name:=by
 obtain⟨N,nm,qn,bs,sn,sub,ab,col,dd,k0,k1,k2,k3,k5,hl,_,_⟩:=Z.obj
 exact ⟨n,_,by unfold clsIn;rw [hl],rfl⟩
section
variable {prog:Program}{w:World}{A:Around}{E:Value->Shared->Prop}{h:Heap}{g:Array GenState}{d:Drawn}{t:Nat}{os:OsState}{a C dx:Addr}{o:Obj}{K:Frag}{mA:Str->Option Value}{v:Value}{name:Str}
theorem m5 {tk:Tok}{R:Result->Shared->Prop} (X:K.In h) (Z:ExcC K C) (Y:ErrA K C name) (hx:h.get? a=some o) (hc:o.cls=.ref C) (hd:o.dict=some dx) {vs:Array Value} (hdat:o.data=.fields vs) (hn:h.Ns dx mA) (hv:mA name=some v) (hq:R (.ok (.ret v)) ⟨h,g,d,t,os⟩) :
 codeAny (model prog w) A (.call (.builtin "BaseException.__getattribute__") ⟨[.ref a,.str name tk],[]⟩) R ⟨h,g,d,t,os⟩:=by
 obtain⟨cd,hcd,hh⟩:=Y.cd
 exact codeAny_call_builtin F.attr_ValueError.ga.plain F.entry_bexc_ga (N1 X Z hx hc (Zk X Y.no hcd hh hx hc hd hdat hn hv hq))
theorem Ah0 {tk:Tok}{fill expr:Bool}{Q:Value->Shared->Prop} (X:K.In h) (Z:ExcC K C) (Y:ErrA K C name) (hx:h.get? a=some o) (hc:o.cls=.ref C) (hd:o.dict=some dx) {vs:Array Value} (hdat:o.data=.fields vs) (hn:h.Ns dx mA) (hv:mA name=some v)
 (hh:handedIn v=true) (hq:Q v ⟨h,g,d,t,os⟩):wpAny (model prog w) A (getAttrBy (.ref a) (.str name tk) fill expr) Q E ⟨h,g,d,t,os⟩:=by
 have f3:=F.attr_ValueError.ga.bind (.ref a)
 have hx0:(expr&&onTheHeap (Value.builtin "BaseException.__getattribute__"))=false:=by cases expr<;>rfl
 have hx2:(Value.builtin "BaseException.__getattribute__"==Value.builtin "object.__getattribute__")=false:=by decide +kernel
 have hx1:(onTheHeap (Value.ref C)&&Value.builtin "BaseException.__getattribute__"==Value.builtin "object.__getattribute__")=false:=by rw [hx2];rfl
 have L1:Looks (model prog w) h (typeLookup (.ref C) "__getattribute__") (some (.builtin "BaseException.__getattribute__")):=looks_findIn X Z.ga
 have L2':Looks (model prog w) h (typeLookup (.ref C) "__getattr__") none:=looks_findIn X Z.gt
 repeat (any_goals (first | assumption | (with_reducible refine wpAny_loadPart_at hx ?_;rw [hc]) | with_reducible refine L1.at ?_ | with_reducible refine L2'.at ?_ | wp_step))
 refine m5 X Z Y hx hc hd hdat hn hv ?_
 repeat (any_goals (first | assumption | with_reducible refine handed_on hh ?_ | wp_step))
theorem m6 {expr:Bool}{Q:Value->Shared->Prop} (X:K.In h) (Z:ExcC K C) (Y:ErrA K C name) (hx:h.get? a=some o) (hc:o.cls=.ref C) (hd:o.dict=some dx) {vs:Array Value} (hdat:o.data=.fields vs) (hn:h.Ns dx mA) (hv:mA name=some v)
 (hh:handedIn v=true) (hq:Q v ⟨h,g,d,t+1,os⟩):wpAny (model prog w) A (getAttr (.ref a) name expr) Q E ⟨h,g,d,t,os⟩:=by
 unfold getAttr
 repeat (any_goals (first | assumption | with_reducible apply Ah0 X Z Y hx hc hd hdat hn hv hh | wp_step))
end
def tErrAt (K:Frag) (ta:TE) (f:Str):TE:=fun σ H Q=>ta σ H fun x H1=>∃ e C d fs v,x=.ref e/\H1 e=some (excX e (.ref C) (some d))/\ExcC K C/\ErrA K C f/\H1 d=some (.xd fs)/\fs.lookup f=some v/\Q v H1
section
variable {X:Cx}{K:Frag}
theorem q0 {e:Expr}{f:Str}{pos:Pos}{ta:TE} (he:PE X e ta) (hb:attributeBase e f X.env (eval e X.env)=eval e X.env:=by rfl) (hK:X.K=K:=by rfl):PE X (.Attribute e f pos) (tErrAt K ta f):=by
 subst hK
 intro Aa s σ H Q I h
 refine Ag4 hb (thn (he Aa s σ H _ I h) fun u s1 ⟨x,H1,I1,rx,a,C,d,fs,v,ex,ea,Z,Y,hd,hl,q⟩=>?_)
 subst ex
 obtain rfl:u=Value.ref a:=rx
 obtain⟨⟨o,vs,e1,c1,d1,d2⟩,_⟩:=I1.hok a _ ea
 obtain⟨mA,hn,hr⟩:=I1.hok d _ hd
 obtain⟨u,hu,ru⟩:=RelO.some_of (v:=v) (o:=mA f) (by rw [←hl];exact hr f)
 obtain⟨h1,g1,dd1,t1,os1⟩:=s1
 exact m6 I1.kIn Z Y e1 c1 d2 d1 hn.ns hu (f8 ru) ⟨v,H1,I1.tok _,ru,q⟩
theorem Dv (hK:X.K=K:=by rfl):D9 X (.builtin "isinstance") (fun xs H Q=>∃ (e C d:Addr) (y:V) (c:Value) (b:Bool),xs=[.ref e,y]/\RelV y c/\(∀ u,RelV y u->u=c)/\H e=some (excX e (.ref C) (some d))/\ExcC K C/\kitOne K (.ref C) c=some b/\Q (.bl b) H):=by
 subst hK
 intro Aa s σ H xs us Q I r h
 obtain⟨e,C,d,y,c,b,rfl,_,hy,hH,Z,kk,q⟩:=h
 obtain⟨u,v,rfl,rx,rt⟩:=Up r
 cases rx
 cases hy v rt
 have ho:=I.hok e _ hH
 obtain⟨⟨o,vs,e1,c1,_⟩,_⟩:=ho
 exact kia_one (W4 Z) I.kIn ⟨o,e1,c1⟩ kk (fun z=>nomatch z) fun tk=>⟨.bl b,H,I.tok tk,rfl,q⟩
end
end L2
namespace L2
open PySem PySem.Spec PyProof.Rows
end L2
namespace L2
open PySem PySem.Spec PyProof.Rows
structure PAw (X:Cx) (es:List Expr) (t:TA):Prop where
 h:PA X es t
theorem Ad2 {X:Cx}:PAw X [] tNil:=⟨Ai⟩
theorem Iq {X:Cx}{e:Expr}{es:List Expr}{te:TE}{t:TA} (ha:PE X e te) (hr:PAw X es t) (hs:starEach (e::es) X.env=(false,eval e X.env)::starEach es X.env:=by rfl):PAw X (e::es) (Ah6 te t):=⟨Ab ha hr.h hs⟩
end L2
namespace L2
open PySem PySem.Spec PyProof.Rows
structure PEw (X:Cx) (e:Expr) (t:TE):Prop where
 h:PE X e t
theorem Ac8 {X:Cx}{K:W.Frag}{sl:Expr}{es:List Expr}{k:Nat}{p q:Pos}{ta:TA}{tsl:TE} (ha:PAw X es ta) (hsl:PE X sl tsl) (hpi:l5 sl) (hK:X.K=K:=by rfl) :
 PEw X (.Subscript (.Tuple es k p) sl q) (tOp (rIxT K) (tTup ta) tsl):=by
 subst hK
 exact ⟨Ce Cl (B4 ha.h) hsl hpi⟩
end L2
namespace L2
open PySem PySem.Spec PyProof.Rows
inductive DA where
 | d (d:D) | dic
def RepA (K:W.Frag) (H:Hp) (v:V):DA->Prop
 | .d d=>Rep K H v d
 | .dic=>∃ a A0,v=.ref a/\Rd H a (.dK A0)
def isA (n:String):DA->Bool
 | .d d=>isD n d
 | .dic=>n=="dict"
theorem k8 {X:Cx}{K:W.Frag} (hK:X.K=K:=by rfl):D9 X (.builtin "isinstance") (fun xs H Q=>∃ x n d,xs=[x,.ty n]/\(n="int"\/n="bool"\/n="str"\/n="tuple"\/n="list"\/n="dict")/\RepA K H x d/\Q (.bl (isA n d)) H):=by
 subst hK
 intro Aa s σ H xs us Q I r h
 obtain⟨x,n,d,e,hn,hx,q⟩:=h
 cases d with
 | d d=>exact Ie Aa s σ H xs us Q I r ⟨x,n,d,e,hn,hx,q⟩
 | dic =>
   subst e
   obtain⟨a,A0,rfl,hr⟩:=hx
   obtain⟨u,v,rfl,rx,rt⟩:=Up r
   cases rt
   cases rx
   obtain⟨z,hd,vs,rel,o,es,ep,ho,ex,_⟩:=Yz I.hok hr
   rcases hn with rfl | rfl | rfl | rfl | rfl | rfl
   . exact PySem.IsiPair.dict_int ho ex.1 ⟨.bl false,H,I.tok _,rfl,q⟩
   . exact PySem.IsiPair.dict_bool ho ex.1 ⟨.bl false,H,I.tok _,rfl,q⟩
   . exact PySem.IsiPair.dict_str ho ex.1 ⟨.bl false,H,I.tok _,rfl,q⟩
   . exact PySem.IsiPair.dict_tuple ho ex.1 ⟨.bl false,H,I.tok _,rfl,q⟩
   . exact PySem.IsiPair.dict_list ho ex.1 ⟨.bl false,H,I.tok _,rfl,q⟩
   . exact PySem.IsiPair.dict_dict ho ex.1 ⟨.bl true,H,I,rfl,q⟩
end L2
namespace L2
open PySem PySem.Spec PyProof.Rows
mutual
def toPD:D->PyData
 | .non=>.none
 | .bl b=>.bool b
 | .int i=>.int i
 | .str x=>.str x
 | .tup ds=>.tuple (toPDs ds)
 | .lst ds=>.list (toPDs ds)
def toPDs:List D->List PyData
 | []=>[]
 | d::ds=>toPD d::toPDs ds
end
section
variable {X:Cx}{Aa:List (Addr × Obj)}{σ:St}{H:Hp}{s:Shared}
mutual
theorem p5 (I:Inv X Aa σ H s):∀ (d:D) {v:V}{u:Value},Rep X.K H v d->RelV v u->∃ as,Reads s.heap u (toPD d) as
 | .non,v,u,h,r=>by
   cases (show v=.non from h)
   obtain rfl:u=.none:=r
   exact ⟨_,.none⟩
 | .bl b,v,u,h,r=>by
   cases (show v=.bl b from h)
   obtain rfl:u=.bool b:=r
   exact ⟨_,.bool b⟩
 | .int i,v,u,h,r=>by
   cases (show v=.int i from h)
   obtain⟨t,rfl⟩:=r
   exact ⟨_,.int i t⟩
 | .str x,v,u,h,r=>by
   cases (show v=.str x from h)
   obtain⟨t,rfl⟩:=r
   exact ⟨_,.str x t⟩
 | .tup ds,v,u,h,r=>by
   obtain⟨a,vs,rfl,hq,hr⟩:=h
   obtain rfl:u=.ref a:=r
   obtain⟨its,rv,p,hz⟩:=I.tuple hq
   obtain⟨o,ho,hc,n,hd⟩:=(show s.heap.IsTuple a its.toArray from p)
   obtain⟨as,ra⟩:=readsAll_of I ds hr rv
   exact ⟨as,.tuple ho hc hd (by simpa using ra)⟩
 | .lst ds,v,u,h,r=>by
   obtain⟨a,vs,rfl,hq,hr⟩:=h
   obtain rfl:u=.ref a:=r
   obtain⟨its,rv,p,hz⟩:=I.list hq
   obtain⟨o,ho,hc,n,hd⟩:=p.isList
   obtain⟨as,ra⟩:=readsAll_of I ds hr rv
   exact ⟨a::as,.list ho hc hd (by simpa using ra)⟩
theorem readsAll_of (I:Inv X Aa σ H s):∀ (ds:List D) {vs:List V}{us:List Value},Reps X.K H vs ds->Vals vs us->∃ as,ReadsAll s.heap us (toPDs ds) as
 | [],vs,us,h,r=>by
   cases (show vs=[] from h)
   cases r
   exact ⟨_,.nil⟩
 | d::ds,vs,us,h,r=>by
   obtain⟨v,q,rfl,hv,hq⟩:=h
   cases r with
   | cons r1 r2 =>
     obtain⟨as,ra⟩:=p5 I d hv r1
     obtain⟨bs,rb⟩:=readsAll_of I ds hq r2
     exact ⟨_,.cons ra rb⟩
end
end
mutual
theorem S8:∀ d:D,(toPD d).hasDict=false
 | .non=>rfl
 | .bl _=>rfl
 | .int _=>rfl
 | .str _=>rfl
 | .tup ds=>hasDict_toPDs ds
 | .lst ds=>hasDict_toPDs ds
theorem hasDict_toPDs:∀ ds:List D,PyData.hasDictAll (toPDs ds)=false
 | []=>rfl
 | d::ds=>by
   show ((toPD d).hasDict || PyData.hasDictAll (toPDs ds))=false
   rw [S8 d,hasDict_toPDs ds]
   rfl
end
end L2
namespace L2
open PySem PySem.Spec PyProof.Rows
inductive DE where
 | d (d:D) | nul
inductive TH where
 | one (e:DE) | rows (es:List DE)
def RepE (K:W.Frag) (H:Hp) (v:V):DE->Prop
 | .d d=>Rep K H v d
 | .nul=>∃ a,v=.ref a/\Rd H a (.dK [])
def Am2 (K:W.Frag) (H:Hp):List V->List DE->Prop
 | [],[]=>True
 | v::vs,e::es=>RepE K H v e/\Am2 K H vs es
 | _,_=>False
def RepT (K:W.Frag) (H:Hp) (v:V):TH->Prop
 | .one e=>RepE K H v e
 | .rows es=>∃ a vs,v=.ref a/\SqL K H a vs/\Am2 K H vs es
def isE (n:String):DE->Bool
 | .d d=>isD n d
 | .nul=>n=="dict"
def isT (n:String):TH->Bool
 | .one e=>isE n e
 | .rows _=>n=="list"
theorem RepE.same {K:W.Frag}{H H':Hp}{v:V}{d:DE} (s:Same H H') (h:RepE K H v d):RepE K H' v d:=by
 cases d with
 | d d=>exact Rep.same s h
 | nul =>
   obtain⟨a,e,hr⟩:=h
   refine⟨a,e,?_⟩
   rcases hr with hr|⟨o,hr⟩
   . exact .inl (s _ _ hr)
   . exact .inr ⟨o,s _ _ hr⟩
section
variable {X:Cx}{K:W.Frag}
theorem Ms (hK:X.K=K:=by rfl):D9 X (.builtin "isinstance") (fun xs H Q=>∃ x n t,xs=[x,.ty n]/\(n="int"\/n="bool"\/n="str"\/n="tuple"\/n="list"\/n="dict")/\RepT K H x t/\Q (.bl (isT n t)) H):=by
 subst hK
 intro Aa s σ H xs us Q I r h
 obtain⟨x,n,t,e,hn,hx,q⟩:=h
 match t,hx,q with
 | .one (.d d),hx,q=>exact Ie Aa s σ H xs us Q I r ⟨x,n,d,e,hn,hx,q⟩
 | .one .nul,hx,q =>
   obtain⟨a,e2,hr⟩:=hx
   exact k8 (K:=X.K) rfl Aa s σ H xs us Q I r ⟨x,n,.dic,e,hn,⟨a,[],e2,hr⟩,q⟩
 | .rows es,hx,q =>
   subst e
   obtain⟨a,vs,rfl,hq,_⟩:=hx
   obtain⟨u,v,rfl,rx,rt⟩:=Up r
   cases rt
   cases rx
   obtain⟨its,_,⟨o,_,e,c,_⟩,_⟩:=I.list hq
   have k:=y6 (K:=X.K) (d:=.lst []) hn
   exact PySem.W.kia_one PySem.W.kitx_list I.kIn ⟨o,e,c⟩ k (fun z=>nomatch z) fun tk=>⟨.bl (n=="list"),H,I.tok tk,rfl,q⟩
end
section
variable {X:Cx}{Aa:List (Addr × Obj)}{σ:St}{H:Hp}{s:Shared}
end
structure Fin (B k:Nat) (p:PyData):Prop where
 sh:p.showable=true
 le:p.shown.length<=B
 dp:p.depth<=k
end L2
namespace L2
open PySem PySem.Spec PyProof.Rows
abbrev TJ:=St->Hp->(Hp->Prop)->Prop
def tJN:TJ:=fun _ H Q=>Q H
def tJC (te:TE) (tj:TJ):TJ:=fun σ H Q=>te σ H fun v H1=>∃ y:Str,v=.str y/\y.length<=100000/\tj σ H1 Q
def PJ (X:Cx) (es:List Expr) (tj:TJ):Prop:=∀ (Aa:List (Addr × Obj)) (s:Shared) (σ:St) (H:Hp) (acc:Str) (Q:Hp->Prop),Inv X Aa σ H s->acc.length+100000*es.length<=1000000->tj σ H Q →
 Joins (model X.prog X.w) X.A X.xe (evalEach es X.env) acc (fun out s'=>out.length<=1000000/\∃ H',Inv X Aa σ H' s'/\Q H') s
theorem Oa {M:Model}{A:Around}{E:Value->Shared->Prop}:∀{parts:List (Sem Value)}{acc:Str}{Q Q':Str->Shared->Prop}{s:Shared},Joins M A E parts acc Q s->(∀ x s,Q x s->Q' x s)->Joins M A E parts acc Q' s
 | [],acc,Q,Q',s,h,f=>f _ _ h
 | x::rest,acc,Q,Q',s,h,f=>wpAny_mono (show wpAny M A x _ E s from h) (fun v s1 ⟨y,t,e,hz,hr⟩=>⟨y,t,e,hz,Oa hr f⟩) fun _ _ z=>z
section
variable {X:Cx}{e v₁ v₂:Expr}{es rest:List Expr}{te:TE}{tj:TJ}{pos:Pos}
theorem Z4:PJ X [] tJN:=fun Aa s σ H acc Q I hl h=>⟨by simpa using hl,H,I,h⟩
theorem Fy (he:PE X e te) (hr:PJ X es tj):PJ X (e::es) (tJC te tj):=by
 intro Aa s σ H acc Q I hl h
 show wpAny _ _ (eval e X.env) _ _ s
 refine thn (he Aa s σ H _ I h) fun u s1 ⟨v,H1,I1,r,y,ev,hy,q⟩=>?_
 subst ev
 obtain⟨t,rfl⟩:=r
 have hl2:(acc++y).length=acc.length+y.length:=strLen_append ..
 have hl3:acc.length+100000*(es.length+1)<=1000000:=hl
 refine⟨y,t,rfl,?_,hr Aa s1 σ H1 (acc++y) Q I1 (by rw [hl2];omega) q⟩
 rw [hl2,sizeLine_eq]
 omega
def An2 (tj:TJ):TE:=fun σ H Q=>tj σ H fun H'=>∀ x:Str,x.length<=1000000->Q (.str x) H'
theorem Vf (h:PJ X (v₁::v₂::rest) tj) (hl:rest.length<=7:=by decide):PE X (.JoinedStr (v₁::v₂::rest) pos) (An2 tj):=by
 intro Aa s σ H Q I hw
 refine wpAny_JoinedStr (Oa (h Aa s σ H Str.empty _ I ?_ hw) fun out s' ⟨hz,H',I',q⟩=>⟨?_,.str out,H',I'.tok _,⟨_,rfl⟩,q out hz⟩)
 . show 0+100000*(rest.length+2)<=1000000
   omega
 . rw [sizeLine_eq];omega
def tFmt (te:TE):TE:=fun σ H Q=>te σ H fun v H1=>(∃ i:Int,v=.int i/\i.natAbs.log2<1920/\∀ x:Str,x.length<=100000->Q (.str x) H1)\/∃ x:Str,v=.str x/\x.length<=100000/\Q (.str x) H1
theorem Z7 (he:PE X e te):PE X (.FormattedValue e (-1) none pos) (tFmt te):=by
 intro Aa s σ H Q I hw
 refine wpAny_FormattedValue_plain (thn (he Aa s σ H _ I hw) fun u s1 ⟨v,H1,I1,r,q⟩=>?_)
 rcases q with ⟨i,rfl,hi,q⟩|⟨x,rfl,hx,q⟩
 . obtain⟨t,rfl⟩:=r
   refine PySem.wpAny_formatField_int hi ⟨.str (toString i),H1,I1.tok _,⟨_,rfl⟩,q _ ?_⟩
   have:=int_text_length_le (k:=1920) (by decide) hi
   rw [PySem.ofString_length]
   omega
 . obtain⟨t,rfl⟩:=r
   exact PySem.wpAny_formatField_str ⟨.str x,H1,I1,⟨_,rfl⟩,q⟩ ⟨.str x,H1,I1.tok _,⟨_,rfl⟩,q⟩ (by rw [sizeLine_eq];omega)
end
end L2
namespace Hb
open PySem L2
def toTI:L2.D->List Int
 | .tup ds=>ds.map toI
 | _=>[]
theorem v3 {xs:List (List Int)}{d:L2.D} (h:Ht xs d=true):d=tI (toTI d):=by
 cases d with
 | tup ds =>
   rw [D5] at h
   simp only [Bool.and_eq_true] at h
   have:=Li h.1.2
   show L2.D.tup ds=.tup (nums (ds.map toI))
   rw [←this]
 | _=>simp [Ht] at h
def Eh (xs:List (List Int)):List L2.D->Nat->Option Nat
 | [],_=>none
 | d::r,k=>if Ht xs d=true then Eh (xs++[toTI d]) r (k+1) else some k
def misD (ds:List L2.D):Option Nat:=Eh [] ds 0
theorem y4:∀{ds:List L2.D}{xs:List (List Int)}{k i:Nat},Eh xs ds k=some i->i<k+ds.length
 | [],_,_,_,h=>by simp [Eh] at h
 | d::r,xs,k,i,h=>by
   unfold Eh at h
   split at h
   . have:=y4 h
     simp only [List.length_cons]
     omega
   . cases h
     simp
def Kt (ds:List L2.D) (i:Nat) (xs:List (List Int)):Prop:=ds.take i=xs.map tI/\misD ds=Eh xs (ds.drop i) i
theorem Kt.zero (ds:List L2.D):Kt ds 0 []:=⟨rfl,rfl⟩
theorem Kt.next {ds:List L2.D}{i:Nat}{xs:List (List Int)}{d:L2.D} (h:Kt ds i xs) (e:ds[i]?=some d) (hf:Ht xs d=true):Kt ds (i+1) (xs++[toTI d]):=by
 obtain⟨h1,h2⟩:=h
 have hi:i<ds.length:=(List.getElem?_eq_some_iff.mp e).1
 have ed:ds[i]=d:=(List.getElem?_eq_some_iff.mp e).2
 refine⟨?_,?_⟩
 . rw [List.take_succ,e,h1,List.map_append]
   show xs.map tI++[d]=xs.map tI++[tI (toTI d)]
   rw [←v3 hf]
 . rw [h2,List.drop_eq_getElem_cons hi,ed,Eh,if_pos hf]
theorem Kt.bad {ds:List L2.D}{i:Nat}{xs:List (List Int)}{d:L2.D} (h:Kt ds i xs) (e:ds[i]?=some d) (hf:¬Ht xs d=true):misD ds=some i:=by
 have hi:i<ds.length:=(List.getElem?_eq_some_iff.mp e).1
 have ed:ds[i]=d:=(List.getElem?_eq_some_iff.mp e).2
 rw [h.2,List.drop_eq_getElem_cons hi,ed,Eh,if_neg hf]
theorem Kt.done {ds:List L2.D}{xs:List (List Int)} (h:Kt ds ds.length xs):misD ds=none:=by
 rw [h.2,List.drop_length,Eh]
def misV (ds:List L2.D):V:=match misD ds with
 | some i=>.int (i:Int)
 | none=>.non
def fewE:DE->Bool
 | .d (.lst ds)=>decide (ds.length<=40)
 | _=>false
def Iv:DE->List L2.D
 | .d (.lst ds)=>ds
 | _=>[]
def Wv (e:DE):Bool:=fewE e&&(misD (Iv e)).isNone
theorem Af6 {e:DE} (h:fewE e=true):e=.d (.lst (Iv e))/\(Iv e).length<=40:=by
 match e,h with
 | .d (.lst ds),h=>exact ⟨rfl,of_decide_eq_true h⟩
theorem Af1 {e:DE} (h:isE "list" e=true):∃ ds,e=.d (.lst ds):=by
 cases e with
 | nul=>exact absurd h (by decide)
 | d d=>cases d<;>first | exact ⟨_,rfl⟩ | exact absurd h (by simp [isE,isD])
theorem Af5 {e:DE} (h:¬isE "list" e=true):fewE e=false:=by
 cases e with
 | nul=>rfl
 | d d=>cases d<;>first | rfl | exact absurd rfl h
theorem c3 {n:Int} (h:n.natAbs<1024):n.natAbs.log2<1920:=by
 by_cases z:n.natAbs=0
 . rw [z];decide
 . exact Nat.lt_of_lt_of_le ((Nat.log2_lt (k:=10) z).mpr h) (by decide)
theorem at0 (x:V) (r:List V):atI (x::r) 0=some x:=Cb (j:=0) rfl
theorem at1 (x y:V) (r:List V):atI (x::y::r) 1=some y:=Cb (j:=1) rfl
theorem at2 (x y z:V) (r:List V):atI (x::y::z::r) 2=some z:=Cb (j:=2) rfl
theorem Al9 {us:List V}{i:Nat} (h:i<us.length):atI us (0+(i:Int))=some us[i]:=by
 rw [show (0+(i:Int))=(i:Int) by omega]
 exact Cb (List.getElem?_eq_getElem h)
theorem Xp {e:DE} (h:Wv e=true):fewE e=true/\misD (Iv e)=none:=by
 unfold Wv at h
 simp only [Bool.and_eq_true,Option.isNone_iff_eq_none] at h
 exact h
theorem Qq {x:Str} (h:x.length<=100:=by decide):x.length<=100000:=by omega
theorem Va {H H1:Hp}{e d C:Addr}{fs:List (Str × V)} (s:Same H H1) (he:H1 e=none) (hd:upd H1 e (newE e C) d=none) :
 Same H (del (upd (upd (upd H1 e (newE e C)) d (.xd fs)) e (madeE e C d)) e)/\del (upd (upd (upd H1 e (newE e C)) d (.xd fs)) e (madeE e C d)) e d=some (.xd fs):=by
 have hde:d≠e:=fun z=>by rw [z,Ae] at hd;cases hd
 have hd1:H1 d=none:=by rw [Ax hde] at hd;exact hd
 refine⟨fun b u q=>?_,by rw [Td hde,Ax hde,Ae]⟩
 have q1:=s b u q
 rw [Td (A8 q1 he),Ax (A8 q1 he),Ax (A8 q1 hd1),Ax (A8 q1 he)]
 exact q1
section
variable (K:W.Frag)
def Dx (_K:W.Frag) (C:Addr):Sp:=fun vs H Q _=>∃ (e:Addr) (n:Int),vs=[.ref e,.int n]/\H e=some (newE e C)/\n.natAbs.log2<1920/\∀ d,H d=none->Q .non (upd (upd H d (.xd [("place",.int n)])) e (madeE e C d))
def Uv:Sp:=fun vs H Q _=>∃ (v:V) (e:DE),vs=[v]/\RepE K H v e/\Q (.bl (fewE e)) H
def Jk:Sp:=fun vs H Q _=>∃ (v:V) (ds:List L2.D),vs=[v]/\Rep K H v (.lst ds)/\ds.length<=40/\∀ H',Same H H'->Q (misV ds) H'
def Hi (CS CP:Addr):Sp:=fun vs H Q E=>∃ (v:V) (e:DE),vs=[v]/\RepE K H v e/\(¬fewE e=true->∀ H',Same H H'->E (.ref CS) none H') ∧
 (∀ i:Nat,fewE e=true->misD (Iv e)=some i->∀ (d:Addr) (H':Hp),Same H H'->H' d=some (.xd [("place",.int (i:Int))])->E (.ref CP) (some d) H') ∧
 (Wv e=true->∀ (l:Addr) (us:List V) (H':Hp),H l=none->Same H H'->H' l=some (.lst us)->Reps K H' us (Iv e)->Q (.ref l) H')
end
end Hb
namespace Hb
open PySem L2
theorem Af0 {n A:Nat} (h:A<n):ixN n (A:Int)=some A:=by
 unfold ixN
 rw [if_pos (by omega),if_pos (by omega)]
 simp
end Hb
namespace L2
open PySem PySem.Spec PyProof.Rows
def l8 (B:Heap) (l:List Env) (e:Addr) (cls a0 fl:Value) (h:Heap):Prop:=B.StaysIn h/\B.get? e=none/\h.FunFrames B l/\h.TracedAtW B e cls a0 fl
theorem Ym {M:Model}{A:Around}{E:Value->Shared->Prop}{s:Shared}{base:Heap}{env:Env}{outer:List Env}{L e:Addr}{cls a0 fl:Value}{Q:Unit->Shared->Prop}
 (hfr:A.frames=some (env::outer)) (hf:env.frame=some L) (x:l8 base (env::outer) e cls a0 fl s.heap)
 (hQ:∀ h',Heap.FlyingW base outer e cls a0 h'->s.heap.UpToSlots h'->Q () { s with heap:=h' }):wpAny M A (leaving env (.ref e)) Q E s:=by
 obtain⟨f1,f2,f3,f4⟩:=x
 obtain⟨oe,vs,T,oT,ts,he,⟨hcls,h0⟩,hd,h1,hnT,hTe,hT,hdT,h3⟩:=id f4
 subst hcls
 unfold leaving noteFrame
 simp only [hf]
 refine wpAny_bind (wpAny_bind (wpAny_field he hd h1 ?_))
 have tn:(Value.ref T != Value.none)=true:=by simp
 rw [if_pos tn]
 refine wpAny_bind (wpAny_field hT hdT h3 ?_)
 by_cases hfl:(fl==rawInt L)=true
 . rw [if_pos hfl]
   refine wpAny_pure ?_
   exact wpAny_setFlight_noneW f1 f3 f4 fun h' k1 k2 k3 k4=>hQ h' ⟨k1,f2,k2.2.2,k3⟩ (fun b o hb hn=>⟨o.slots,k4 b o hb hn⟩)
 . rw [if_neg hfl]
   refine wpAny_bind (wpAny_setField hT hdT (Array.getElem?_eq_some_iff.mp h3).1 ?_)
   have oth:∀ b,b≠T->(s.heap.update T (Obj.mapFields (·.setIfInBounds 3 Value.none))).get? b=s.heap.get? b:=fun b hb=>Heap.get?_update_other _ _ (Ne.symm hb)
   have nrec:∀ b o,s.heap.get? b=some o->(∀ vs,o.data≠.fields vs)->b≠T:=fun b o hb hnf q=>by
    rw [q,hT] at hb
    cases hb
    exact hnf ts hdT
   refine wpAny_newEntryW hfr (f3.of_keeps fun b o hb hnf=>⟨o,(oth b (nrec b o hb hnf)).trans hb,rfl⟩) hf ((oth e (Ne.symm hTe)).trans he) (fun b o hbo=>(oth b fun q=>by rw [q,hnT] at hbo;cases hbo).trans (f1 b o hbo)) f2 hd (Array.getElem?_eq_some_iff.mp h1).1 h0 fun h' hh=>?_
   obtain⟨x1,x2,x3,x4⟩:=hh
   exact hQ h' ⟨x1,f2,x2.2.2,x3⟩ (fun b o hb hnf=>x4 b o ((oth b (nrec b o hb hnf)).trans hb) hnf)
def Am7 (X:Cx) (Aa:List (Addr × Obj)) (e:Addr) (cls a0:Value) (dx:Option Addr) (fl:Value) (σ:St) (H':Hp) (s':Shared):Prop :=
 ∃ (B:Heap) (H:Hp) (s:Shared),Inv X Aa σ H s/\s'.os=s.os/\AllBare s'.gens/\XUn (frs X.stack) H H' s.heap B s'.heap/\HOk X.prog X.w H' B/\l8 B X.stack e cls a0 fl s'.heap/\ErrD e dx s'.heap
def l9 (X:Cx) (J:XJ):Prop:=∀ (e:Addr) (cls a0:Value) (dx:Option Addr) (fl:Value) (σ:St) (H':Hp) (s':Shared),Am7 X [] e cls a0 dx fl σ H' s'->J cls dx σ H'->X.xe (.ref e) s'
section
variable {P:Program}{w:World}{K:W.Frag}{mg:Str->Option Value}{base:Heap}{N:List Str}{qual:Str}{scope:Scope}{f:Addr}{cd:Value}{A:Around}{outer:List Env}{s:Shared}{H:Hp}{E:XK}
theorem Yw:l9 (cxOf (CX1 P w) P w K mg base N qual scope f cd A outer s H E) (fun cls dx _ H'=>E cls dx H'):=by
 rintro e cls a0 dx fl σ H2 s' ⟨B,H1,s1,I,q1,q2,q3,q4,q5,dE⟩ q6
 have old:∀ b o,s.heap.get? b=some o->b ∉ frs outer->b ∉ frs (envOfC qual scope s.heap.objs.size f cd::outer):=fun b o e1 hb z=>by
  rw [P4] at z
  rcases List.mem_cons.mp z with y | y
  . exact absurd (Heap.lt_size e1) (by rw [y];exact Nat.lt_irrefl _)
  . exact hb y
 have nx:∀ b:Addr,b ∉ ([]:List Addr):=fun b=>by simp
 show wpAny (model P w) (A.deeper (envOfC qual scope s.heap.objs.size f cd)) (leaving (envOfC qual scope s.heap.objs.size f cd) (.ref e)) _ _ s'
 refine wpAny_mono (By (Gj _ _) (Ym (E:=fun _ _=>False) (Q:=fun _ s2=>∃ h2,s2={ s' with heap:=h2 }/\Heap.FlyingW B outer e cls a0 h2/\s'.heap.UpToSlots h2) (L:=s.heap.objs.size) I.ok.frames rfl q5 fun h2 x1 x2=>⟨h2,rfl,x1,x2⟩)) (fun _ s2 ⟨⟨h2,e2,x1,x2⟩,kd⟩=>?_) (fun _ _ z=>z.1.elim)
 subst e2
 refine⟨e,cls,a0,B,H2,dx,rfl,q1.trans I.os,q2,⟨fun b o e1 n hb=>?_,fun b o e1 n hb=>?_,fun b o e1 n=>?_,fun b o e1 hb=>?_,fun b xs y=>q3.tu b xs (I.base.tups b xs y),fun b o u y=>q3.fz b o u (I.base.frzs b o u y),fun b ps y=>?_⟩,q4,x1,dE.go kd,q6⟩
 . exact q3.kp b o (I.base.keep b o e1 n hb (nx b)) (I.base.free b o e1 n (nx b)) (old b o e1 hb)
 . obtain⟨z,e2⟩:=I.base.slot b o e1 n hb (nx b)
   have hm:b∈frs (envOfC qual scope s.heap.objs.size f cd::outer):=List.mem_cons_of_mem _ hb
   obtain⟨z',e3⟩:=q3.sl b _ e2 (I.base.free b o e1 n (nx b)) hm
   obtain⟨z2,e4⟩:=Mb q5.2.2.1 x2 b _ e3 hm
   exact ⟨z2,e4⟩
 . obtain⟨o',e2⟩:=I.base.there b o e1 (nx b)
   exact q3.fr b o' e2 (I.base.free b o e1 n (nx b))
 . obtain⟨o',e2⟩:=I.base.there b o e1 (nx b)
   exact q3.th b o' e2 (old b o e1 hb)
 . obtain⟨m1,y1⟩:=I.base.tbls b ps y
   obtain⟨m2,y2⟩:=q3.tb b _ y1
   exact ⟨m1++m2,by rw [y2,Array.append_assoc]⟩
end
def compCxE (X:Cx) (sc:Scope) (N':List Str) (C:Addr) (s₀:Shared) (H₀:Hp) (fp:List Addr) (E:XK):Cx:=(compCx X sc N' C s₀ H₀ fp).wish (Fly (compCx X sc N' C s₀ H₀ fp) (fun cls dx _ H'=>E cls dx H'))
theorem Yx {X:Cx}{sc:Scope}{N':List Str}{C:Addr}{s₀:Shared}{H₀:Hp}{fp:List Addr}{E:XK}:m3 (compCxE X sc N' C s₀ H₀ fp E) (fun cls dx _ H'=>E cls dx H'):=by
 rintro u s' ⟨e,cls,a0,dx,σ,H',rfl,⟨B,H,s,I,q1,q2,q3,q4,q5,q6⟩,j⟩
 exact ⟨e,cls,a0,dx,σ,H',rfl,⟨B,H,s,I.unwish,q1,q2,q3,q4,q5,q6⟩,j⟩
section
variable {X:Cx}{sc:Scope}{N':List Str}{cap:List (Option Nat)}{tg elt iter:Expr}{ifs:List Expr}{pos:Pos}{g:TG}{tc:TT}{te:TE}{E:XK}
theorem Kv {h h' B B':Heap} (hB:∀ b,B.get? b=none->B'.get? b=none):∀{l:List Env},h.FunFrames B l->(∀ b∈l.filterMap (·.frame),∀ o,h.get? b=some o->h'.get? b=some o)->h'.FunFrames B' l
 | [],_,_=>True.intro
 | env::rest,⟨hk,⟨L,o,hf,hn,ho,hd⟩,hr⟩,k=>by
   refine⟨hk,⟨L,o,hf,hB L hn,k L ?_ o ho,hd⟩,Kv hB hr fun b hb=>k b ?_⟩
   . rw [List.filterMap_cons,hf];exact List.mem_cons_self ..
   . rw [List.filterMap_cons,hf];exact List.mem_cons_of_mem _ hb
theorem w6 {Aa:List (Addr × Obj)}{σ:St}{H:Hp}{s:Shared}{fp:List Addr}{C L:Addr}{use:Option (Value->Sem Unit)}{Q:Value->Shared->Prop}{acc:Value} (I:Inv X Aa σ H s) (hst:X.stack=X.env::X.outer) (hL:X.env.frame=some L) (hx:l9 X (fun cls dx _ H'=>E cls dx H'))
 (hf:∀ b∈fp,FpOk X Aa H b) (hC:s.heap.objs.size<=C) (hCx:C ∉ frs X.stack) (u:Value) (s':Shared) (z:Fly (compCx X sc N' C s H fp) (fun cls dx _ H'=>E cls dx H') u s') :
 notedBy (model X.prog X.w) X.A (compEnvC sc (clOf X.env.cells sc.names []) C X.env) (fun x s''=>compPost (model X.prog X.w) X.A X.xe use Q acc C (.error x) s'') u s':=by
 obtain⟨e,cls,a0,dx,τ,H',rfl,⟨B,H1,s1,I1,q1,q2,q3,q4,q5,q6⟩,j⟩:=z
 have I0:Inv X [] σ H s:=I.nopin
 have hf0:∀ b∈fp,FpOk X [] H b:=fun b hb=>by
  obtain⟨f0,f1,f2,f3,f4,f5⟩:=hf b hb
  exact ⟨f0,f1,f2,f3,f4,fun p hp=>f5 p (by rcases List.mem_append.mp hp with z | z;exact List.mem_append_left _ z;cases z)⟩
 have IX:Inv X [] σ H1 s1:=I0.call' I1.os I1.base I1.hok I1.bare (Inv.fpCh hf0)
 obtain⟨m,hn,_⟩:=I1.loc
 have hn:s1.heap.Ns C m:=hn
 obtain⟨oC,es,ep,hoC,hdC⟩:=id hn
 have hHC:H1 C=none:=I1.free
 have hBC:B.get? C=some oC:=q3.kp C oC hoC hHC hCx
 have hfr:X.A.frames=some (X.env::X.outer):=by rw [←hst];exact I.ok.frames
 have fl5:Heap.FlyingW B (X.env::X.outer) e cls a0 s'.heap:=by rw [←hst];exact q5
 show wpAny (model X.prog X.w) X.A (noteFrame (.ref e) X.env) _ _ s'
 refine wpAny_mono (By (F5 _ _) (wpAny_noteFrame_onW (E:=fun _ _=>False) (Q:=fun _ s2=>∃ h1,s2={ s' with heap:=h1 }/\Heap.NotedW B (X.env::X.outer) e cls a0 (rawInt L) s'.heap h1) hfr fl5.2.2.1 hL fl5.2.2.2 fl5.1 fl5.2.1 fun h1 n=>⟨h1,rfl,n⟩)) (fun _ s2 hh=>?_) (fun _ _ z=>z.1.elim)
 obtain⟨⟨h1,e2,x1,x2,x3,x4⟩,kd⟩:=hh
 subst e2
 have hd1:ErrD e dx h1:=q6.go kd
 refine⟨m,hn.at' fun o e1=>?_,fun h' hsb cenv hcenv=>?_⟩
 . rw [hoC] at e1
   cases e1
   exact x1 C oC hBC
 obtain⟨oe,vs,T,oT,ts,he,hcls,hd,hT1,hnT,hTe,hT,hdT,h3⟩:=x3
 have nCe:e≠C:=fun z=>by
  have:=fl5.2.1
  rw [z,hBC] at this
  cases this
 have nCT:T≠C:=fun z=>by rw [z,hBC] at hnT;cases hnT
 have he':h'.get? e=some oe:=(hsb.2 e nCe).trans he
 have hT':h'.get? T=some oT:=(hsb.2 T nCT).trans hT
 unfold PySem.passOn
 refine wpAny_bind (wpAny_field he' hd hT1 ?_)
 have nz:¬(Value.ref T==Value.none)=true:=by simp
 rw [if_neg nz]
 refine wpAny_bind ?_
 unfold setFlight
 refine wpAny_bind (wpAny_field he' hd hT1 ?_)
 have tn:(Value.ref T != Value.none)=true:=by simp
 rw [if_pos tn]
 have hs3:3<ts.size:=(Array.getElem?_eq_some_iff.mp h3).1
 refine wpAny_setField hT' hdT hs3 (wpAny_throw ?_)
 have oth:∀ b,b≠T->(h'.update T (Obj.mapFields (·.setIfInBounds 3 (cenv.frame.elim Value.none fun f=>rawInt f)))).get? b=h'.get? b:=fun b hb=>Heap.get?_update_other _ _ (Ne.symm hb)
 have hT2:=Heap.get?_update_self (Obj.mapFields (·.setIfInBounds 3 (cenv.frame.elim Value.none fun f=>rawInt f))) hT' (Obj.isFreed_of_fields (Obj.data_mapFields hdT _))
 have hB2:∀ b o,(PySem.W.hideAll B [C]).get? b=some o->B.get? b=some o/\b≠C:=fun b o e1=>⟨PySem.W.of_hideAll _ e1,fun z=>by
  rw [z,PySem.W.hideAll_none [C] (by simp)] at e1
  cases e1⟩
 have nrec:∀ b o,h1.get? b=some o->(∀ vs,o.data≠.fields vs)->b≠T:=fun b o hb hnf q=>by
  rw [q,hT] at hb
  cases hb
  exact hnf ts hdT
 have to2:∀ b o,b≠T->b≠C->h1.get? b=some o->(h'.update T (Obj.mapFields (·.setIfInBounds 3 (cenv.frame.elim Value.none fun f=>rawInt f)))).get? b=some o:=fun b o n1 n2 hb=>(oth b n1).trans ((hsb.2 b n2).trans hb)
 have hfrm:∀ b,b∈frs X.stack->b≠C:=fun b hb z=>hCx (z▸hb)
 have nope:∀ b∈frs X.stack,b≠T:=fun b hb=>by
  rw [hst] at hb
  obtain⟨_,o,ho,hnf⟩:=x2.mem hb
  exact nrec b o ho hnf
 have IX':Inv X [] σ H1 { s1 with heap:=PySem.W.hideAll s1.heap [C] }:=by
  have f3:FpOk X [] H1 C:=I0.fpOk hC hHC
  obtain⟨_,k1,_,k3,k4,k5⟩:=f3
  exact IX.turned (t':=s1.toks) (fun b o hb e1=>PySem.W.hideAll_get _ e1 (by simpa using hb)) hHC k1 k3 k4 k5
 refine hx e cls a0 dx (cenv.frame.elim Value.none fun f=>rawInt f) σ H' _ ⟨PySem.W.hideAll B [C],H1,_,IX',q1,q2,⟨fun b o e1 n hb=>?_,fun b o e1 n hb=>?_,fun b o e1 n=>?_,fun b o e1 hb=>?_,q3.tu,q3.fz,q3.tb⟩,fun b v y=>?_,⟨fun b o e1=>?_,?_,?_,?_⟩,?_⟩ j
 . have e0:=PySem.W.of_hideAll _ e1
   have nb:b≠C:=fun z=>by rw [z,PySem.W.hideAll_none [C] (by simp)] at e1;cases e1
   exact PySem.W.hideAll_get _ (q3.kp b o e0 n hb) (by simpa using nb)
 . have e0:=PySem.W.of_hideAll _ e1
   obtain⟨z1,e3⟩:=q3.sl b o e0 n hb
   have hm:=hb
   rw [hst] at hm
   obtain⟨_,o',ho',hnf'⟩:=fl5.2.2.1.mem hm
   rw [e3] at ho'
   cases ho'
   obtain⟨z2,e4⟩:=x4 b _ e3 hnf'
   exact ⟨z2,to2 b _ (nope b hb) (hfrm b hb) e4⟩
 . exact q3.fr b o (PySem.W.of_hideAll _ e1) n
 . have e0:=PySem.W.of_hideAll _ e1
   have nb:b≠C:=fun z=>by rw [z,PySem.W.hideAll_none [C] (by simp)] at e1;cases e1
   obtain⟨o',e3⟩:=q3.th b o e0 hb
   exact ⟨o',PySem.W.hideAll_get _ e3 (by simpa using nb)⟩
 . refine (q4 b v y).stay (fun c w' hc q=>PySem.W.hideAll_get _ q ?_) (fun _ q=>q) fun _ _ q=>q
   have hHC':H' C=none:=q3.fr C oC hoC hHC
   have:c≠C:=fun z=>by
    rcases hc with y2 | y2
    . rw [←y2,z,hHC'] at y;cases y
    . rw [z,hHC'] at y2;cases y2
   simpa using this
 . obtain⟨e3,nb⟩:=hB2 b o e1
   exact to2 b o (fun z=>by rw [z,hnT] at e3;cases e3) nb (x1 b o e3)
 . cases e1:(PySem.W.hideAll B [C]).get? e with
   | none=>rfl
   | some o=>have:=fl5.2.1;rw [(hB2 e o e1).1] at this;cases this
 . rw [hst]
   refine Kv (fun b hb=>?_) x2 fun b hb o ho=>to2 b o (nope b (by rw [hst];exact hb)) (hfrm b (by rw [hst];exact hb)) ho
   cases e1:(PySem.W.hideAll B [C]).get? b with
   | none=>rfl
   | some o=>rw [(hB2 b o e1).1] at hb;cases hb
 . refine⟨oe,vs,T,_,_,(oth e (Ne.symm hTe)).trans he',hcls,hd,hT1,?_,hTe,hT2,Obj.data_mapFields hdT _,by simp [hs3]⟩
   cases e1:(PySem.W.hideAll B [C]).get? T with
   | none=>rfl
   | some o=>rw [(hB2 T o e1).1] at hnT;cases hnT
 . obtain⟨o,e1,e2⟩:=hd1
   exact ⟨o,to2 e o (Ne.symm hTe) nCe e1,e2⟩
theorem Zb {Y:Cx}{J:It}{fp:List Addr}{it D:Addr}{tn:Nat->Heap->Prop}{R:Result->Shared->Prop}{Q:Hp->Prop}{τ:St}{H:Hp}{s:Shared}
 (hE:∀ u s',Y.xe u s'->notedBy (model Y.prog Y.w) Y.A Y.env (fun x s''=>R (.error x) s'') u s') (hc:Y.calm=true) (hg:PG Y tg g) (ht:PTs Y ifs tc) (he:PE Y elt te) (T:Turn Y.prog Y.w Y.K tg J fp it tn) (st:tn 0 s.heap) (hf:∀ b∈fp,FpOk Y [] H b) (I:Inv Y [] τ H s)
 (h:RunC J g tc te D Q τ H) (hR:∀ τ' H' s',Inv Y [] τ' H' s'->Q H'->R (.ok .next) s') :
 codeAny (model Y.prog Y.w) Y.A (.compLoop (.ListComp elt [⟨tg,iter,ifs,0⟩] sc pos) 0 (.ref it) (.ref D) Y.env) R s:=by
 obtain⟨W,⟨m0,w0⟩,turn⟩:=h
 have stat:∀{H':Hp},(∀ b∈fp,H' b=none)->∀ b∈fp,FpOk Y [] H' b:=fun hn b hb=>⟨hn b hb,(hf b hb).2⟩
 refine codeAny_loop rfl (fun n s'=>∃ i ys τ' H',Inv Y [] τ' H' s'/\tn i s'.heap/\(∀ b∈fp,H' b=none)/\W i n ys τ' H') ?_ m0 ⟨0,[],τ,H,I,st,fun b hb=>(hf b hb).1,w0⟩
 rintro n s3 ⟨i,ys,τ3,H3,I3,st3,fr3,w3⟩
 show wpAny _ Y.A ((compTurn (.ListComp elt [⟨tg,iter,ifs,0⟩] sc pos) 0 (.ref it) (.ref D) Y.env).onRaise (fun x=>do noteFrame x Y.env;theTreesLotGoes x)) _ _ s3
 refine wpAny_noted ?_
 rw [compTurn_list]
 refine wpAny_bind (wpAny_standAt (wpAny_bind ?_))
 rcases turn i n ys τ3 H3 w3 with ⟨stop,qn⟩|⟨go,N,hN,step⟩
 . refine wpAny_mono (T.done Y rfl rfl rfl hc i [] s3 τ3 H3 (fun _ _=>False) I3 (stat fr3) st3 stop) (fun r s4 ⟨hr,I4⟩=>?_) fun _ _ z=>z.elim
   subst hr
   exact wpAny_pure (hR _ _ _ I4 qn)
 . refine wpAny_mono (T.item Y rfl rfl rfl hc i [] s3 τ3 H3 (fun _ _=>False) I3 (stat fr3) st3 go) (fun r s4 ⟨u,hr,h4⟩=>?_) fun _ _ z=>z.elim
   subst hr
   refine wpAny_bind (wpAny_mono h4 (fun _ s5 ⟨x,H5,I5,r5,y5,st5,fr5⟩=>?_) fun _ _ z=>z.elim)
   have I5':=I5.pinned (stat fr5) (T.obj _ _ st5)
   have again:∀{τ7:St}{H7:Hp}{ys7:List V}{s7:Shared},Inv Y ([]++N5 fp s5.heap) τ7 H7 s7->N ys7 τ7 H7->∃ m,m<n/\∃ i ys τ' H',Inv Y [] τ' H' s7/\tn i s7.heap/\(∀ b∈fp,H' b=none)/\W i m ys τ' H':=fun {τ7 H7 ys7 s7} I7 n7=>by
    obtain⟨m',hm,w7⟩:=hN ys7 τ7 H7 n7
    refine⟨m',hm,i+1,ys7,τ7,H7,I7.unpinned,T.keep _ _ _ st5 fun b hb o e=>(I7.pin (b,o) (List.mem_append_right _ (List.mem_append_right _ (Ds hb e)))).1,fun b hb=>?_,w7⟩
    obtain⟨o,e,d⟩:=T.obj _ _ st5 b hb
    exact (I7.pin (b,o) (List.mem_append_right _ (List.mem_append_right _ (Ds hb e)))).2.1
   refine wpAny_bind (wpAny_mono (hg _ s5 τ3 H5 x u _ I5' r5 (step x H5 y5)) (fun _ s6 ⟨τ6,H6,I6,q6⟩=>?_) fun _ _ z=>hE _ _ z)
   refine wpAny_bind (wpAny_mono (ht _ s6 τ6 H6 _ I6 q6) (fun ok s7 ⟨H7,I7,q7⟩=>?_) fun _ _ z=>hE _ _ z)
   cases ok with
   | false =>
     have q8:N ys τ6 H7:=by simpa using q7
     exact wpAny_pure ⟨rfl,again I7 q8⟩
   | true =>
     have q8:te τ6 H7 fun y H4=>H4 D=some (.lst ys)/\ys.length<sizeLine/\N (ys++[y]) τ6 (upd H4 D (.lst (ys++[y]))):=by simpa using q7
     refine wpAny_bind (wpAny_bind (wpAny_mono (he _ s7 τ6 H7 _ I7 q8) (fun y s8 ⟨v8,H8,I8,r8,hD,hl,n8⟩=>?_) fun _ _ z=>hE _ _ z))
     refine wpAny_bind (wpAny_mono (B9 _ s8 τ6 H8 (.ref D) [v8] (.ref D) [y] (fun _ H9=>N (ys++[v8]) τ6 H9) I8 rfl (.cons r8 .nil) ⟨D,ys,v8,rfl,rfl,hD,hl,n8⟩) (fun _ s9 ⟨_,H9,I9,_,n9⟩=>?_) fun _ _ z=>hE _ _ z)
     exact wpAny_pure (wpAny_pure ⟨rfl,again I9 n9⟩)
theorem Wj {Aa:List (Addr × Obj)}{σ:St}{H:Hp}{s:Shared}{J:It}{fp:List Addr}{it:Addr}{tn:Nat->Heap->Prop}{RR:Value->Addr->Result->Shared->Prop}{Q:Addr->Hp->Prop}{E':Value->Shared->Prop}
 (c:N0 X sc N' cap) (hc:X.calm=true) (hg:∀ C s₀ H₀ fp,PG (compCxE X sc N' C s₀ H₀ fp E) tg g) (ht:∀ C s₀ H₀ fp,PTs (compCxE X sc N' C s₀ H₀ fp E) ifs tc) (he:∀ C s₀ H₀ fp,PE (compCxE X sc N' C s₀ H₀ fp E) elt te)
 (I:Inv X Aa σ H s) (T:Turn X.prog X.w X.K tg J fp it tn) (st:tn 0 s.heap) (hf:∀ b∈fp,FpOk X Aa H b)
 (h:∀ D,H D=none->RunC J g tc te D (Q D) (capS cap σ) (upd H D (.lst [])))
 (hErr:∀ D C u s',s.heap.objs.size<=C->Fly (compCx X sc N' C s H fp) (fun cls dx _ H'=>E cls dx H') u s'->notedBy (model X.prog X.w) X.A (compEnvC sc (clOf X.env.cells sc.names []) C X.env) (fun x s''=>RR (.ref D) C (.error x) s'') u s')
 (hR:∀ D C s' H' m',H D=none->s.heap.objs.size<=C->s'.os=s.os->AllBare s'.gens->Un (frs X.stack) fp H H' s.heap s'.heap->HOk X.prog X.w H' s'.heap->s'.heap.Ns C m'->H' C=none->C ∉ fp->Q D H'->RR (.ref D) C (.ok .next) s') :
 wpAny (model X.prog X.w) X.A (newList []) (fun acc s₃=>wpAny (model X.prog X.w) X.A (newFunctionEnv sc X.env.globals (clOf X.env.cells sc.names []) [] X.env.qual none .none (some X.env)) (fun cenv s₄ =>
  codeAny (model X.prog X.w) X.A (.compStart (.ListComp elt [⟨tg,iter,ifs,0⟩] sc pos) 0 (.ref it) acc { cenv with scope:=relabel sc X.env }) (RR acc cenv.locals) s₄) E' s₃) E' s:=by
 have hb:∀ b∈fp,b<s.heap.objs.size:=fun b hb=>by
  obtain⟨o,e,_⟩:=T.obj _ _ st b hb
  exact Heap.lt_size e
 refine wpAny_newObj_type (wpAny_newFunctionEnv c.nocell (by intro y hy;simp at hy) (fun h₁ hns₁ hsb₁=>?_) c.kind)
 dsimp only at hns₁ hsb₁ ⊢
 generalize hH2:s.heap.push { cls:=.type "list",dict:=none,data:=.seq ([]:List Value).toArray }=H2 at hns₁ hsb₁ ⊢
 have hC:H2.objs.size=s.heap.objs.size+1:=by rw [←hH2,Heap.size_push]
 have hCl:s.heap.objs.size<=H2.objs.size:=by rw [hC];exact Nat.le_succ _
 have hCn:s.heap.objs.size≠H2.objs.size:=by rw [hC];exact (Nat.succ_ne_self _).symm
 have old:∀ b o,s.heap.get? b=some o->h₁.get? b=some o:=fun b o e=>by
  have l1:=Heap.lt_size e
  exact hsb₁.extBut b o (Nat.ne_of_lt (Nat.lt_of_lt_of_le l1 hCl)) (Heap.get?_push_of_some _ (hH2▸Heap.get?_push_of_some _ e))
 have hl:h₁.get? s.heap.objs.size=some { cls:=.type "list",data:=.seq #[] 0 }:=hsb₁.extBut _ _ hCn (Heap.get?_push_of_some _ (hH2▸Heap.get?_push_size _ rfl))
 have hns₂:h₁.Ns H2.objs.size fun _=>none:=by simpa using hns₁
 have I4:Inv (compCxE X sc N' H2.objs.size s H fp E) [] (capS cap σ) (upd H s.heap.objs.size (.lst [])) { s with heap:=h₁,toks:=s.toks+([]:List (Str × Value)).length }:=(Xb c I hC rfl hf hb hns₂ hl old).wish _
 have hfr:H s.heap.objs.size=none:=I.fresh
 have f4:∀ b∈fp,FpOk (compCxE X sc N' H2.objs.size s H fp E) [] (upd H s.heap.objs.size (.lst [])) b:=fun b hb'=>by
  obtain⟨f0,f1,f2,f3,f4,f5⟩:=hf b hb'
  have lb:=hb b hb'
  refine⟨by rw [Ax (Nat.ne_of_lt lb)];exact f0,(Nat.ne_of_lt (Nat.lt_of_lt_of_le lb hCl):b≠H2.objs.size),fun z=>?_,.inl hb',fun x a e=>f4 x a (Ck (c.cells I.ok) (fun z=>by simp at z) e),fun p hp=>absurd hp (by simp [compCxE,compCx])⟩
  rcases List.mem_cons.mp (I.stkSub b z) with e | e
  . exact f1 e
  . exact f2 e
 have st4:tn 0 h₁:=T.keep _ _ _ st fun b _ o e=>old b o e
 have loop:∀ s₅:Shared,s₅={ s with heap:=h₁,toks:=s.toks+([]:List (Str × Value)).length } →
  codeAny (model X.prog X.w) X.A (.compLoop (.ListComp elt [⟨tg,iter,ifs,0⟩] sc pos) 0 (.ref it) (.ref s.heap.objs.size) (compCxE X sc N' H2.objs.size s H fp E).env) (RR (.ref s.heap.objs.size) H2.objs.size) s₅:=by
  rintro s₅ rfl
  refine Zb (Y:=compCxE X sc N' H2.objs.size s H fp E) (J:=J) (fp:=fp) (tn:=tn) (Q:=Q s.heap.objs.size) (fun u s' z=>hErr _ _ u s' hCl z) hc (hg _ _ _ _) (ht _ _ _ _) (he _ _ _ _) T st4 f4 I4 (h _ hfr) fun τ' H' s' I' q'=>?_
  obtain⟨m',hn',_⟩:=I'.loc
  exact hR _ _ s' H' m' hfr hCl I'.os I'.bare I'.base I'.hok hn' I'.free (fun z=>absurd (Nat.lt_of_lt_of_le (hb _ z) hCl) (Nat.lt_irrefl _)) q'
 exact codeAny_compStart_list (loop _ rfl) (T.self _ 0 _ _ _ st4 (loop _ rfl))
theorem q9 {wi:TI} (hst:X.stack=X.env::X.outer) (hL:X.env.frame=some X.env.locals) (hx:l9 X (fun cls dx _ H'=>E cls dx H')) (hc:X.calm=true) (hcap:capB X.env.scope X.N sc N' cap=true) (hi:PI X tg iter wi) (hg:∀ C s₀ H₀ fp,PG (compCxE X sc N' C s₀ H₀ fp E) tg g) (ht:∀ C s₀ H₀ fp,PTs (compCxE X sc N' C s₀ H₀ fp E) ifs tc)
 (he:∀ C s₀ H₀ fp,PE (compCxE X sc N' C s₀ H₀ fp E) elt te) (hs:∀ x,foldedSetIterable iter X.env x=pure x:=by intro _;rfl):PE X (.ListComp elt [⟨tg,iter,ifs,0⟩] sc pos) (Aa8 wi cap g tc te):=by
 intro Aa s σ H Q I h
 have c:N0 X sc N' cap:=Wl hcap
 rw [eval_ListComp]
 refine wpAny_comprehension_free (use:=none) rfl hs (Km (c.cells I.ok)) c.kind c.locals (thn (hi Aa s σ H _ I h) fun v s1 h1=>thn h1 fun itv s2 h2=>?_)
 obtain⟨it,fp,tn,J,H2,e,I2,T,st2,f2,hW⟩:=h2
 subst e
 refine Wj (RR:=fun acc C=>compPost (model X.prog X.w) X.A X.xe none (EP X Aa σ Q) acc C) (Q:=fun D H'=>Q (.ref D) H') c hc hg ht he I2 T st2 f2 hW (fun D C u s' hC z=>w6 I2 hst hL hx f2 hC (fun hm=>?_) u s' z) ?_
 . obtain⟨_,o,ho,_⟩:=I2.stack.mem hm
   exact absurd (Nat.lt_of_lt_of_le (Heap.lt_size ho) hC) (Nat.lt_irrefl _)
 intro D C s' H' m' hD hC hos hbare hun hok hn hHC hCf q
 refine⟨m',hn,fun h' hsb=>?_⟩
 have I3:Inv X Aa σ H' s':=I2.call' hos hun hok hbare (Inv.fpCh f2)
 have f3:FpOk X Aa H' C:=I2.fpOk hC hHC
 obtain⟨_,k1,_,k3,k4,k5⟩:=f3
 have I4:Inv X Aa σ H' { s' with heap:=h' }:=I3.turned (t':=s'.toks) (fun b o hb e=>(hsb.2 b hb).trans e) hHC k1 k3 k4 k5
 exact ⟨.ref D,H',I4,rfl,q⟩
end
end L2
namespace HT
open PySem PySem.Spec PyProof.Rows
section
variable {prog:Program}{w:World}{A:Around}{E:Value->Shared->Prop}{s:Shared}
theorem getItem_tuple_whole {t sl:Addr}{items:Array Value}{vl vu:Value}{lo hi:Option Int}{Q:Value->Shared->Prop} (ht:IsTup s.heap t items) (hs:s.heap.IsSliceOf sl vl vu .none) (pl:IsPart vl lo) (pu:IsPart vu hi)
 (hw:sIx items.size 0 lo=0/\sIx items.size items.size hi=items.size) (h:Q (.ref t) s):wpAny (model prog w) A (getItem (.ref t) (.ref sl)) Q E s:=by
 obtain⟨os,hos,hcs,hds⟩:=id hs
 have hTs:s.TypeIs (.ref sl) "slice":=⟨os,hos,hcs⟩
 unfold getItem
 try with_reducible refine wpAny_holding ?_
 first | refine wpAny_bind (wpAny_pure ?_) | skip
 refine wpAny_bind (wpAny_sequenceKey ht.typeIs (by decide) ?_)
 refine wpAny_bind (wpAny_callSpecial?_slot (name:=Str.ofString "__getitem__") ht.typeIs PyProof.Rows.slot_tuple_getitem
  (wpAny_call_entry PyProof.Rows.slot_tuple_getitem ht.typeIs entry_tuple_getitem ?_ (args_tuple_getitem _ _)))
 show wpAny _ _ (Builtin.Tuple.tupleItemsOf (.ref t)>>=_) _ _ s
 refine wpAny_bind (tupleItemsOf_ ht ?_)
 refine wpAny_bind (wpAny_typeOf hTs ?_)
 rw [if_pos (by decide)]
 refine wpAny_bind (Fn hs pl pu ?_)
 have hyes:((((sIx items.size 0 lo:Nat):Int)==0&&(1:Int)==1&&(sIx items.size items.size hi-sIx items.size 0 lo)==items.size)=true):=by
  rw [hw.1,hw.2]
  simp
 show wpAny _ _ (if (((sIx items.size 0 lo:Nat):Int)==0&&(1:Int)==1&&(sIx items.size items.size hi-sIx items.size 0 lo)==items.size)=true then _ else _) _ _ s
 rw [if_pos hyes]
 refine wpAny_bind (wpAny_bind (wpAny_typeOf ht.typeIs (wpAny_pure ?_)))
 rw [if_pos (by decide)]
 refine wpAny_bind (wpAny_rule ?_)
 exact wpAny_pure ⟨_,rfl,wpAny_pure h⟩
end
end HT
namespace L2
open PySem PySem.Spec PyProof.Rows
section
variable {X:Cx}
def Ai6 (K:W.Frag):V->Option Int->Option Int->Hp->VK->Prop:=fun x lo hi H Q=>∃ a xs,x=.ref a/\SqT K H a xs/\∀ p H',Same H H'->SqT K H' p (cutV xs lo hi)->Q (.ref p) H'
theorem Ab1:SlR X (Ai6 X.K):=by
 intro Aa s σ H x v vl vu lo hi sl Q I rx hs pl pu h
 obtain⟨a,xs,rfl,hx,q⟩:=h
 by_cases hw:HT.sIx xs.length 0 lo=0/\HT.sIx xs.length xs.length hi=xs.length
 . cases rx
   obtain⟨its,r,ht,hz⟩:=I.tuple hx
   have hlen:its.toArray.size=xs.length:=by rw [List.size_toArray];exact r.length.symm
   refine⟨"tuple",_,PyProof.Rows.slot_tuple_getitem.lookup,ht.typeIs,?_⟩
   refine HT.getItem_tuple_whole ht hs pl pu (by rw [hlen];exact hw) ?_
   refine⟨.ref a,H,I,rfl,q a H (Same.refl H) ?_⟩
   have e:cutV xs lo hi=xs:=by
    unfold cutV
    rw [hw.1,hw.2]
    simp
   rw [e]
   exact hx
 . exact w9 Aa s σ H (.ref a) v vl vu lo hi sl Q I rx hs pl pu ⟨a,xs,rfl,hx,hw,fun p hp=>q p _ (Same.new hp) (.of Ae)⟩
theorem u5 {K:W.Frag} (hK:X.K=K:=by rfl):SlR X (Ai6 K):=by subst hK;exact Ab1
end
end L2
namespace L2
open PySem PySem.Spec PyProof.Rows
theorem Z8 {X:Cx}:OpR X (compareOp .NotIn) (fun x y H Q=>∃ (c:Nat) (z:Str),x=.str ⟨#[c]⟩/\y=.str z/\Q (.bl (!decide (c∈z.cps.toList))) H):=by
 intro Aa s σ H x y v u Q I rx ry h
 obtain⟨c,z,rfl,rfl,q⟩:=h
 obtain⟨t,rfl⟩:=rx
 obtain⟨t2,rfl⟩:=ry
 refine PyProof.Rows.notIn_str ⟨.bl (!decide (c∈z.cps.toList)),H,I,?_,q⟩
 rw [StrLaws.found_one]
 rfl
theorem Kn {X:Cx}{f:Value}{r1 r2:List V->Hp->VK->Prop} (h1:D9 X f r1) (h2:D9 X f r2):D9 X f (fun xs H Q=>r1 xs H Q\/r2 xs H Q):=by
 intro Aa s σ H xs us Q I r h
 rcases h with h | h
 . exact h1 Aa s σ H xs us Q I r h
 . exact h2 Aa s σ H xs us Q I r h
end L2
namespace Hb
open PySem L2
def Asc (n:Nat) (x:Str):Prop:=(∀ c∈x.cps.toList,c<128)/\x.length<=n
theorem Asc.all {n:Nat}{x:Str} (h:Asc n x):x.cps.all (·<128)=true:=by
 rw [←Array.all_toList,List.all_eq_true]
 intro c hc
 exact decide_eq_true (h.1 c hc)
theorem E3 (x:Str):x.length=x.cps.toList.length:=by rw [Array.length_toList];rfl
theorem Am5 {y:List Nat}{c:Nat}:∀{ps:List (List Nat)}{p:List Nat},p∈ps->c∈p->c∈Tx.J y ps
 | [p],q,h,hc=>by rw [List.mem_singleton.mp h] at hc;exact hc
 | p::q::r,z,h,hc=>by
   show c∈p++(y++Tx.J y (q::r))
   rcases List.mem_cons.mp h with e | e
   . rw [e] at hc;exact List.mem_append_left _ hc
   . exact List.mem_append_right _ (List.mem_append_right _ (Am5 e hc))
theorem Am6 {y:List Nat} (hy:1<=y.length):∀{ps:List (List Nat)},ps.length<=(Tx.J y ps).length+1
 | []=>by simp
 | [p]=>by simp
 | p::q::r=>by
   have ih:=Am6 hy (ps:=q::r)
   show (p::q::r).length<=(p++(y++Tx.J y (q::r))).length+1
   rw [List.length_append,List.length_append]
   simp only [List.length_cons] at ih ⊢
   omega
theorem Aa2 {y:List Nat}:∀{ps:List (List Nat)}{p:List Nat},p∈ps->p.length<=(Tx.J y ps).length
 | [p],q,h=>by rw [List.mem_singleton.mp h];exact Nat.le_refl _
 | p::q::r,z,h=>by
   show z.length<=(p++(y++Tx.J y (q::r))).length
   rw [List.length_append,List.length_append]
   rcases List.mem_cons.mp h with e | e
   . rw [e];omega
   . have:=Aa2 (y:=y) e
     omega
theorem Ij {n:Nat}{x y:Str} (h:Asc n x) (hy:1<=y.length):(∀ p∈Txt.split x y,Asc n p)/\(Txt.split x y).length<=n+1:=by
 have hj:Tx.J y.cps.toList ((Txt.split x y).map (·.cps.toList))=x.cps.toList:=by
  rw [←Tx.join_J,StrLaws.join_split]
 have hx:=h.2
 rw [E3] at hx
 refine⟨fun p hp=>⟨fun c hc=>?_,?_⟩,?_⟩
 . refine h.1 c ?_
   rw [←hj]
   exact Am5 (List.mem_map.mpr ⟨p,hp,rfl⟩) hc
 . have:=Aa2 (y:=y.cps.toList) (List.mem_map.mpr ⟨p,hp,rfl⟩:p.cps.toList∈(Txt.split x y).map (·.cps.toList))
   rw [hj] at this
   rw [E3]
   omega
 . have:=Am6 (y:=y.cps.toList) (by rw [←E3];exact hy) (ps:=(Txt.split x y).map (·.cps.toList))
   rw [hj,List.length_map] at this
   omega
def Dm (w:Str):Bool:=decide (1<=w.length)&&(decide (w.length<=8)&&w.cps.toList.all fun c=>decide (97<=c)&&decide (c<=122))
def Es (x:Str):List (List Str):=if x.length=0 then [] else (Txt.split x (Str.ofString "; ")).map fun r=>Txt.split r (Str.ofString " ")
def Gw (rs:List (List Str)):Bool:=rs.all fun r=>r.all Dm
abbrev hd (r:List Str):Str:=r.getD 0 Str.empty
def Us (names:List Str) (row:List Str):Option (List Int):=if ((row.drop 1).all fun w=>decide (w∈names))=true/\¬hd row∈names then some ((row.drop 1).map fun w=>((names.idxOf w:Nat):Int)) else none
def Hh:List (List Str)->List Str->List (List Int)->Option (List Str × List (List Int))
 | [],ns,ps=>some (ns,ps)
 | r::rs,ns,ps=>match Us ns r with
   | none=>none
   | some p=>Hh rs (ns++[hd r]) (ps++[p])
def D6 (rs:List (List Str)) (i:Nat) (ns:List Str) (ps:List (List Int)):Prop:=Hh rs [] []=Hh (rs.drop i) ns ps/\ns.length=i/\ps.length=i/\ns.Nodup/\ns=(rs.take i).map hd
theorem D6.zero (rs:List (List Str)):D6 rs 0 [] []:=⟨rfl,rfl,rfl,List.nodup_nil,rfl⟩
theorem D6.next {rs:List (List Str)}{i:Nat}{ns:List Str}{ps:List (List Int)}{r:List Str} (h:D6 rs i ns ps) (hr:rs[i]?=some r) (hm:∀ w∈r.drop 1,w∈ns) (hn:¬hd r∈ns) :
 D6 rs (i+1) (ns++[hd r]) (ps++[(r.drop 1).map fun w=>((ns.idxOf w:Nat):Int)]):=by
 obtain⟨h1,h2,h3,h4,h5⟩:=h
 have hi:=(List.getElem?_eq_some_iff.mp hr).1
 have er:=(List.getElem?_eq_some_iff.mp hr).2
 refine⟨?_,by rw [List.length_append,h2];rfl,by rw [List.length_append,h3];rfl,?_,?_⟩
 . rw [h1,List.drop_eq_getElem_cons hi,er]
   show (match Us ns r with | none=>none | some p=>_)=_
   have:Us ns r=some ((r.drop 1).map fun w=>((ns.idxOf w:Nat):Int)):=by
    unfold Us
    rw [if_pos ⟨List.all_eq_true.mpr fun w hw=>decide_eq_true (hm w hw),hn⟩]
   rw [this]
 . rw [List.nodup_append]
   refine⟨h4,by simp,fun x hx y hy=>?_⟩
   rw [List.mem_singleton.mp hy]
   intro e
   rw [e] at hx
   exact hn hx
 . rw [List.take_succ,hr,List.map_append,←h5]
   rfl
theorem D6.bad {rs:List (List Str)}{i:Nat}{ns:List Str}{ps:List (List Int)}{r:List Str} (h:D6 rs i ns ps) (hr:rs[i]?=some r) (hm:(∃ w∈r.drop 1,¬w∈ns)\/hd r∈ns):Hh rs [] []=none:=by
 have hi:=(List.getElem?_eq_some_iff.mp hr).1
 have er:=(List.getElem?_eq_some_iff.mp hr).2
 rw [h.1,List.drop_eq_getElem_cons hi,er]
 show (match Us ns r with | none=>none | some p=>_)=none
 have:Us ns r=none:=by
  unfold Us
  rw [if_neg]
  rintro ⟨a,b⟩
  rcases hm with ⟨w,hw,hn⟩ | hm
  . exact hn (of_decide_eq_true (List.all_eq_true.mp a w hw))
  . exact b hm
 rw [this]
theorem D6.done {rs:List (List Str)}{ns:List Str}{ps:List (List Int)} (h:D6 rs rs.length ns ps):Hh rs [] []=some (ns,ps):=by
 rw [h.1,List.drop_length]
 rfl
def dueR (rs:List (List Str)):L2.D:=if Gw rs=true then (match Hh rs [] [] with
 | none=>.tup [.str "name",.bl true]
 | some (ns,ps)=>if ps.length<=40 then (match misD (ps.map tI) with
    | some i=>.tup [.str "piece",.bl true,.int (i:Int)]
    | none=>.tup [.str "good",.lst (ps.map tI),.lst (ns.map L2.D.str)])
   else .tup [.str "shape",.bl true])
 else .tup [.str "text",.bl true]
def U7:DE->Option (List (List Str))
 | .d (.str x)=>some (Es x)
 | _=>none
def dueT (e:DE):L2.D:=match U7 e with
 | some rs=>dueR rs
 | none=>.tup [.str "text",.bl true]
def AscE (e:DE):Prop:=∀ x,e=.d (.str x)->Asc 20000 x
theorem e7 {e:DE} (h:isE "str" e=true):∃ x,e=.d (.str x):=by
 cases e with
 | nul=>exact absurd h (by decide)
 | d d=>cases d<;>first | exact ⟨_,rfl⟩ | exact absurd h (by simp [isE,isD])
theorem Ra {e:DE} (h:¬isE "str" e=true):U7 e=none:=by
 cases e with
 | nul=>rfl
 | d d=>cases d<;>first | rfl | exact absurd rfl h
structure l0 (rs:List (List Str)):Prop where
 le:rs.length<=20001
 row:∀ r∈rs,r≠[]/\r.length<=20001/\∀ w∈r,Asc 20000 w
theorem Wt (x y:Str):Txt.split x y≠[]:=by
 unfold Txt.split
 split
 . intro z;cases z
 . split
   . intro z;cases z
   . intro z
     have:=congrArg List.length z
     rw [PySem.length_partsBetween] at this
     simp at this
theorem U6 {x:Str} (h:Asc 20000 x):l0 (Es x):=by
 unfold Es
 split
 . exact ⟨by simp,fun r hr=>by cases hr⟩
 . obtain⟨h1,h2⟩:=Ij h (y:=Str.ofString "; ") (by decide)
   refine⟨by rw [List.length_map];omega,fun r hr=>?_⟩
   obtain⟨z,hz,rfl⟩:=List.mem_map.mp hr
   obtain⟨q1,q2⟩:=Ij (h1 z hz) (y:=Str.ofString " ") (by decide)
   exact ⟨Wt _ _,by omega,q1⟩
def ON {α:Type} (f:α->HO) (H:Hp) (Z:Addr->Prop) (us:List V) (l:List α):Prop:=us.length=l.length/\∀ (i:Nat) (r:α),l[i]?=some r->∃ b,us[i]?=some (.ref b)/\H b=some (f r)/\¬Z b
theorem ON.nil {α:Type} (f:α->HO) (H:Hp) (Z:Addr->Prop):ON f H Z [] []:=⟨rfl,fun i r h=>by simp at h⟩
theorem ON.keep {α:Type}{f:α->HO}{H H':Hp}{Z:Addr->Prop}{us:List V}{l:List α} (h:ON f H Z us l) (k:∀ b o,¬Z b->H b=some o->H' b=some o):ON f H' Z us l :=
 ⟨h.1,fun i r e=>by obtain⟨b,h1,h2,h3⟩:=h.2 i r e;exact ⟨b,h1,k _ _ h3 h2,h3⟩⟩
theorem ON.snoc {α:Type}{f:α->HO}{H:Hp}{Z:Addr->Prop}{us:List V}{l:List α}{b:Addr}{r:α} (h:ON f H Z us l) (hb:H b=some (f r)) (hn:¬Z b):ON f H Z (us++[.ref b]) (l++[r]):=by
 refine⟨by rw [List.length_append,List.length_append,h.1];rfl,fun i r' e=>?_⟩
 by_cases hi:i<l.length
 . rw [List.getElem?_append_left hi] at e
   obtain⟨c,e1,e2,e3⟩:=h.2 i r' e
   exact ⟨c,by rw [List.getElem?_append_left (by rw [h.1];exact hi)];exact e1,e2,e3⟩
 . have hil:i=l.length:=by
    have:=(List.getElem?_eq_some_iff.mp e).1
    rw [List.length_append] at this
    simp at this
    omega
   subst hil
   rw [List.getElem?_append_right (Nat.le_refl _),Nat.sub_self] at e
   cases e
   refine⟨b,?_,hb,hn⟩
   rw [List.getElem?_append_right (by rw [h.1];exact Nat.le_refl _),h.1,Nat.sub_self]
   rfl
theorem ON.rows {K:W.Frag}{H:Hp}{Z:Addr->Prop}{D:Addr}{us:List V}{rs:List (List Str)} (h:ON (fun r=>.lst (r.map V.str)) H Z us rs) (hD:H D=some (.lst us)):Rep K H (.ref D) (Tn rs):=by
 refine⟨D,us,rfl,.of hD,U8 (by rw [List.length_map,h.1]) fun i v d h1 h2=>?_⟩
 rw [List.getElem?_map] at h2
 obtain⟨r,hr,rfl⟩:=Option.map_eq_some_iff.mp h2
 obtain⟨b,e1,e2,_⟩:=h.2 i r hr
 rw [h1] at e1
 cases e1
 exact ⟨b,_,rfl,.of e2,Ch.mpr rfl⟩
theorem ON.reps {K:W.Frag}{H:Hp}{Z:Addr->Prop}{us:List V}{ps:List (List Int)} (h:ON (fun p=>.tup (p.map V.int)) H Z us ps):Reps K H us (ps.map tI):=by
 refine U8 (by rw [List.length_map,h.1]) fun i v d h1 h2=>?_
 rw [List.getElem?_map] at h2
 obtain⟨r,hr,rfl⟩:=Option.map_eq_some_iff.mp h2
 obtain⟨b,e1,e2,_⟩:=h.2 i r hr
 rw [h1] at e1
 cases e1
 exact TI.mk (.of e2)
theorem ON.lt {K:W.Frag}{H:Hp}{Z:Addr->Prop}{D:Addr}{us:List V}{ps:List (List Int)} (h:ON (fun p=>.tup (p.map V.int)) H Z us ps) (hD:H D=some (.lst us)):LT K H (.ref D) ps:=⟨D,us,rfl,.of hD,h.reps⟩
def Fm (H:Hp) (d:Addr) (names:List Str):Prop:=∃ A0,H d=some (.dK A0)/\A0.length<=names.length/\∀ w:Str,valV A0 (Sum.inr w)=if w∈names then some (.int ((names.idxOf w:Nat):Int)) else none
theorem Fm.same {H H':Hp}{d:Addr}{names:List Str} (s:Same H H') (h:Fm H d names):Fm H' d names:=by
 obtain⟨A0,h1,h2⟩:=h
 exact ⟨A0,s _ _ h1,h2⟩
theorem Fm.put {H:Hp}{d:Addr}{names:List Str}{n:Str}{A0:List (Key × V)} (hl:A0.length<=names.length) (hv:∀ w:Str,valV A0 (Sum.inr w)=if w∈names then some (.int ((names.idxOf w:Nat):Int)) else none) (hn:¬n∈names) :
 Fm (upd H d (.dK (putK A0 (Sum.inr n) (.int (names.length:Int))))) d (names++[n]):=by
 refine⟨_,Ae,?_,fun w=>?_⟩
 . have:=Hl A0 (Sum.inr n) (.int (names.length:Int))
   rw [List.length_append]
   simp
   omega
 . rw [m7]
   by_cases e:w=n
   . subst e
     rw [if_pos rfl,if_pos (by simp),List.idxOf_append,if_neg hn]
     simp
   . rw [if_neg (by intro z;exact e (by injection z)),hv w]
     by_cases hm:w∈names
     . rw [if_pos hm,if_pos (List.mem_append_left _ hm),List.idxOf_append,if_pos hm]
     . rw [if_neg hm,if_neg]
       intro z
       rcases List.mem_append.mp z with z | z
       . exact hm z
       . exact e (List.mem_singleton.mp z)
section
variable (K:W.Frag)
def O5 (_K:W.Frag):Sp:=fun vs H Q _=>∃ x:Str,vs=[.str x]/\Asc 20000 x/\∀ H',Same H H'->Q (.bl (Dm x)) H'
def Jj (_K:W.Frag):Sp:=fun vs H Q _=>∃ x:Str,vs=[.str x]/\Asc 20000 x/\∀ H',Same H H'->Q (.bl (Dm x)) H'
def O1 (_K:W.Frag) (CN:Addr):Sp:=fun vs H Q E=>∃ (d:Addr) (names:List Str) (w:Str),vs=[.ref d,.str w]/\Fm H d names/\w.length<=20000/\(w∈names->Q (.int ((names.idxOf w:Nat):Int)) H)/\(¬w∈names->∀ H',Same H H'->E (.ref CN) none H')
def O3 (CT:Addr):Sp:=fun vs H Q E=>∃ (v:V) (e:DE),vs=[v]/\RepE K H v e/\AscE e/\(U7 e=none->∀ H',Same H H'->E (.ref CT) none H') ∧
 (∀ rs,U7 e=some rs->Gw rs=false->∀ H',Same H H'->E (.ref CT) none H')/\(∀ rs,U7 e=some rs->Gw rs=true->∀ (u:V) (H':Hp),Same H H'->Rep K H' u (Tn rs)->Q u H')
def Ji (CN:Addr):Sp:=fun vs H Q E=>∃ (v:V) (rs:List (List Str)),vs=[v]/\Rep K H v (Tn rs)/\l0 rs/\(Hh rs [] []=none->∀ H',Same H H'->E (.ref CN) none H') ∧
 (∀ ns ps,Hh rs [] []=some (ns,ps)->ns=rs.map hd->ps.length=rs.length->∀ (u:V) (H':Hp),Same H H'->LT K H' u ps->Q u H')
def O4 (CT CN CS CP:Addr):Sp:=fun vs H Q E=>∃ (v:V) (e:DE),vs=[v]/\RepE K H v e/\AscE e/\(dueT e=.tup [.str "text",.bl true]->∀ H',Same H H'->E (.ref CT) none H')/\(dueT e=.tup [.str "name",.bl true]->∀ H',Same H H'->E (.ref CN) none H')/\(dueT e=.tup [.str "shape",.bl true]->∀ H',Same H H'->E (.ref CS) none H') ∧
 (∀ i:Nat,dueT e=.tup [.str "piece",.bl true,.int (i:Int)]->∀ (d:Addr) (H':Hp),Same H H'->H' d=some (.xd [("place",.int (i:Int))])->E (.ref CP) (some d) H') ∧
 (∀ (ns:List Str) (ps:List (List Int)),dueT e=.tup [.str "good",.lst (ps.map tI),.lst (ns.map L2.D.str)]->∀ (t l n:Addr) (H':Hp),Same H H'->H' t=some (.tup [.ref l,.ref n])->Rep K H' (.ref l) (.lst (ps.map tI))->Rep K H' (.ref n) (.lst (ns.map L2.D.str))->Q (.ref t) H')
def O2 (_K:W.Frag):Sp:=fun vs H Q _=>∃ c:Int,vs=[.int c]/\∀ z:Nat,z<128->Q (.str ⟨#[z]⟩) H
def Jh:Sp:=fun vs H Q _=>∃ (a:Addr) (ns:List Int) (x:Str),vs=[.ref a,.str x]/\SqL K H a (ns.map V.int)/\ns.length<=63/\Asc 4000 x/\∀ (y:Str) (H':Hp),Same H H'->Asc 19000 y->Q (.str y) H'
def Ut:Sp:=fun vs H Q _=>∃ (v:V) (e:DE),vs=[v]/\RepE K H v e/\AscE e/\∀ (u:V) (H':Hp),Same H H'->Rep K H' u (dueT e)->Q u H'
def Lj (_K:W.Frag) (CT CN CS CP:Addr):Sp:=fun vs H Q _=>∃ (e C:Addr) (o:Option Addr),vs=[.ref e]/\H e=some (excX e (.ref C) o)/\((C=CT/\o=none)\/(C=CN/\o=none)\/(C=CS/\o=none)\/(C=CP/\∃ d,o=some d))/\Q (.bl true) H
def O0:Sp:=fun vs H Q _=>∃ (v:V) (e:DE),vs=[v]/\RepE K H v e/\AscE e/\∀ (u:V) (H':Hp),Same H H'->Rep K H' u (dueT e)->Q u H'
end
def signs:Str:=Str.ofString " ;; !\"#$&'()*+,-./0123456789:<=>?@ABCDEFGHIJKLMNOPQRSTUVWXYZ[\\]^_`{|}~\n" ++ Str.ofString "abcdefghijklmnopqrstuvwxyz"
theorem Ab5 (c:Int):∃ k,atI signs.cps.toList (c%(signs.length:Int))=some k/\k<128:=by
 have hl:signs.length=signs.cps.toList.length:=E3 _
 have hp:0<signs.length:=by decide +kernel
 have h0:=Int.emod_nonneg c (b:=(signs.length:Int)) (by omega)
 have h1:=Int.emod_lt_of_pos c (b:=(signs.length:Int)) (by omega)
 have hi:(c%(signs.length:Int)).toNat<signs.cps.toList.length:=by omega
 refine⟨_,by rw [show c%(signs.length:Int)=(((c%(signs.length:Int)).toNat:Nat):Int) by omega];exact Cb (List.getElem?_eq_getElem hi),?_⟩
 have key:∀ k∈signs.cps.toList,k<128:=by decide +kernel
 exact key _ (List.getElem_mem hi)
theorem Zv {n:Nat}{z:Str}{lo hi:Option Int} (h:Asc n z):Asc n (slS z lo hi):=by
 unfold slS
 split
 . exact h
 . refine⟨fun c hc=>?_,?_⟩
   . obtain⟨i,_,hi⟩:=List.mem_filterMap.mp (show c∈(Builtin.Str.strSliceIndices lo hi 1 z.length).filterMap (z.cps[·]?) from hc)
     refine h.1 c ?_
     rw [←Array.getElem?_toList] at hi
     exact List.mem_of_getElem? hi
   . rw [E3]
     refine Nat.le_trans (List.length_filterMap_le _ _) (Nat.le_trans (PyProof.Rows.indices_len_le lo hi z.length) h.2)
theorem Asc.mono {n m:Nat}{x:Str} (h:Asc n x) (l:n<=m):Asc m x:=⟨h.1,Nat.le_trans h.2 l⟩
theorem Ag5 (A B:Str):(A++B).length=A.length+B.length:=by simp [Str.length,Str.cps_append]
theorem Asc.app {n m:Nat}{x y:Str} (h:Asc n x) (g:Asc m y):Asc (n+m) (x++y):=by
 refine⟨fun c hc=>?_,by rw [Ag5];have:=h.2;have:=g.2;omega⟩
 rw [Str.cps_append,Array.toList_append] at hc
 rcases List.mem_append.mp hc with z | z
 . exact h.1 c z
 . exact g.1 c z
theorem asc1 {z:Nat} (h:z<128):Asc 1 ⟨#[z]⟩:=⟨fun c hc=>by rw [List.mem_singleton.mp hc];exact h,Nat.le_refl _⟩
theorem Ak9 {y:List Nat}{c:Nat}:∀{ps:List (List Nat)},c∈Tx.J y ps->c∈y\/∃ p∈ps,c∈p
 | [],h=>by cases h
 | [p],h=>.inr ⟨p,List.mem_singleton.mpr rfl,h⟩
 | p::q::r,h=>by
   have h:c∈p++(y++Tx.J y (q::r)):=h
   rcases List.mem_append.mp h with z | z
   . exact .inr ⟨p,List.mem_cons_self,z⟩
   . rcases List.mem_append.mp z with z | z
     . exact .inl z
     . rcases Ak9 z with z|⟨p',h1,h2⟩
       . exact .inl z
       . exact .inr ⟨p',List.mem_cons_of_mem _ h1,h2⟩
theorem Am4 {y:List Nat} (hy:1<=y.length):∀{ps:List (List Nat)},(ps.map (·.length)).sum+ps.length<=(Tx.J y ps).length+1
 | []=>by simp
 | [p]=>by simp [Tx.J]
 | p::q::r=>by
   have ih:=Am4 hy (ps:=q::r)
   show _<=(p++(y++Tx.J y (q::r))).length+1
   rw [List.length_append,List.length_append]
   simp only [List.length_cons,List.map_cons,List.sum_cons] at ih ⊢
   omega
def tot (ws:List Str):Nat:=(ws.map (·.length)).sum+ws.length
theorem Zq {x y:Str} (hy:1<=y.length):tot (Txt.split x y)<=x.length+1:=by
 have hj:Tx.J y.cps.toList ((Txt.split x y).map (·.cps.toList))=x.cps.toList:=by
  rw [←Tx.join_J,StrLaws.join_split]
 have:=Am4 (y:=y.cps.toList) (by rw [←E3];exact hy) (ps:=(Txt.split x y).map (·.cps.toList))
 rw [hj,List.map_map,List.length_map,←E3] at this
 have e:((fun l:List Nat=>l.length) ∘ fun s:Str=>s.cps.toList)=fun s:Str=>s.length:=by
  funext s
  exact (E3 s).symm
 rw [e] at this
 exact this
theorem Ow (a b:List Str):tot (a++b)=tot a+tot b:=by
 unfold tot
 rw [List.map_append,List.sum_append,List.length_append]
 omega
theorem Zr (w:Str):∀ (ws:List Str) (j:Nat),tot (ws.set j w)<=tot ws+w.length
 | [],j=>by simp [tot]
 | v::ws,0=>by simp [tot];omega
 | v::ws,j+1=>by
   have:=Zr w ws j
   simp [tot] at this ⊢
   omega
theorem Aa6 (k:Nat) (w:Str):tot (List.replicate k [w]).flatten=k*(w.length+1):=by
 induction k with
 | zero=>simp [tot]
 | succ k ih =>
   rw [List.replicate_succ,List.flatten_cons,Ow,ih,Nat.succ_mul]
   simp [tot]
   omega
theorem Ae6 {k:Nat}{w v:Str} (h:v∈(List.replicate k [w]).flatten):v=w:=by
 obtain⟨l,h1,h2⟩:=List.mem_flatten.mp h
 rw [List.eq_of_mem_replicate h1] at h2
 exact List.mem_singleton.mp h2
theorem Ab9 (k:Nat) (w:Str):(List.replicate k [V.str w]).flatten=((List.replicate k [w]).flatten).map V.str:=by
 induction k with
 | zero=>rfl
 | succ k ih=>rw [List.replicate_succ,List.flatten_cons,ih,List.replicate_succ,List.flatten_cons,List.map_append];rfl
theorem u6 {ws:List Str}{n:Nat} (h:∀ w∈ws,∀ c∈w.cps.toList,c<128) (hn:tot ws<=n):Asc n (Str.join (Str.ofString " ") ws):=by
 refine⟨fun c hc=>?_,?_⟩
 . rw [Tx.join_J] at hc
   rcases Ak9 hc with z|⟨p,h1,h2⟩
   . exact (by decide +kernel:∀ c∈(Str.ofString " ").cps.toList,c<128) c z
   . obtain⟨w,hw,rfl⟩:=List.mem_map.mp h1
     exact h w hw c h2
 . have:=Lg (Str.ofString " ") ws
   rw [show (Str.ofString " ").length=1 by decide +kernel] at this
   unfold tot at hn
   omega
theorem W8 {w:Str}:∀{ws:List Str},w∈ws->(ws.map L2.D.str).findIdx? (fun e=>eqD e (.str w))=some (ws.idxOf w)
 | [],h=>by cases h
 | v::ws,h=>by
   rw [List.map_cons,List.findIdx?_cons,List.idxOf_cons]
   have e:eqD (.str v) (.str w)=(v==w):=rfl
   rw [e]
   cases hv:(v==w) with
   | true=>rfl
   | false =>
     have hn:¬w=v:=fun z=>by rw [z] at hv;simp at hv
     have hm:w∈ws:=by
      rcases List.mem_cons.mp h with z | z
      . exact absurd z hn
      . exact z
     rw [W8 hm]
     rfl
theorem j3 {rs:List (List Str)} (h:Gw rs=false):dueR rs=.tup [.str "text",.bl true]:=by
 unfold dueR
 rw [if_neg (by rw [h];decide)]
theorem Wd {rs:List (List Str)} (g:Gw rs=true) (h:Hh rs [] []=none):dueR rs=.tup [.str "name",.bl true]:=by
 unfold dueR
 rw [if_pos g,h]
theorem W9 {rs:List (List Str)}{ns:List Str}{ps:List (List Int)} (g:Gw rs=true) (h:Hh rs [] []=some (ns,ps)) (hl:¬ps.length<=40):dueR rs=.tup [.str "shape",.bl true]:=by
 unfold dueR
 rw [if_pos g,h]
 show (if ps.length<=40 then _ else _)=_
 rw [if_neg hl]
theorem Xa {rs:List (List Str)}{ns:List Str}{ps:List (List Int)}{i:Nat} (g:Gw rs=true) (h:Hh rs [] []=some (ns,ps)) (hl:ps.length<=40) (hm:misD (ps.map tI)=some i):dueR rs=.tup [.str "piece",.bl true,.int (i:Int)]:=by
 unfold dueR
 rw [if_pos g,h]
 show (if ps.length<=40 then _ else _)=_
 rw [if_pos hl,hm]
theorem j4 {rs:List (List Str)}{ns:List Str}{ps:List (List Int)} (g:Gw rs=true) (h:Hh rs [] []=some (ns,ps)) (hl:ps.length<=40) (hm:misD (ps.map tI)=none):dueR rs=.tup [.str "good",.lst (ps.map tI),.lst (ns.map L2.D.str)]:=by
 unfold dueR
 rw [if_pos g,h]
 show (if ps.length<=40 then _ else _)=_
 rw [if_pos hl,hm]
theorem Fx {K:W.Frag}{H:Hp}{p:Addr}{s:Str}{b:Bool} (h:H p=some (.tup [.str s,.bl b])):Rep K H (.ref p) (.tup [.str s,.bl b]) :=
 ⟨p,_,rfl,.of h,⟨_,_,rfl,rfl,⟨_,_,rfl,rfl,rfl⟩⟩⟩
theorem Rb {K:W.Frag}{H:Hp}{p:Addr}{s:Str}{b:Bool}{i:Int} (h:H p=some (.tup [.str s,.bl b,.int i])):Rep K H (.ref p) (.tup [.str s,.bl b,.int i]) :=
 ⟨p,_,rfl,.of h,⟨_,_,rfl,rfl,⟨_,_,rfl,rfl,⟨_,_,rfl,rfl,rfl⟩⟩⟩⟩
theorem v5 (e:DE):dep (dueT e)<=6:=by
 unfold dueT
 cases U7 e with
 | none=>simp [dep,deps]
 | some rs =>
   show dep (dueR rs)<=6
   cases hg:Gw rs with
   | false=>rw [j3 hg];simp [dep,deps]
   | true =>
     cases hw:Hh rs [] [] with
     | none=>rw [Wd hg hw];simp [dep,deps]
     | some q =>
       obtain⟨ns,ps⟩:=q
       by_cases hl:ps.length<=40
       . cases hm:misD (ps.map tI) with
         | some i=>rw [Xa hg hw hl hm];simp [dep,deps]
         | none =>
           rw [j4 hg hw hl hm]
           have h1:=Gm ps
           have h2:=deps_strs ns
           simp only [dep,deps]
           omega
       . rw [W9 hg hw hl];simp [dep,deps]
theorem n4 {xs:List (List Int)}{names:List Str} (hs:Gg xs) (hx:xs.length<=40) (hnl:names.length=xs.length) (hn:∀ x∈names,D7 x):Asc 4000 (Ox xs names):=by
 refine⟨fun c hc=>?_,by have:=(m9 hs hx hnl hn).1;omega⟩
 rcases P2 hc with z|⟨r,hr,z⟩
 . exact (by decide +kernel:∀ c∈(Str.ofString "; ").cps.toList,c<128) c z
 . obtain⟨r0,hr0,rfl⟩:=List.mem_map.mp hr
   rcases P2 z with z|⟨w,hw,z⟩
   . exact (by decide +kernel:∀ c∈(Str.ofString " ").cps.toList,c<128) c z
   . have:=((p4 hs hnl hn r0 hr0).1 w hw).az c z
     omega
abbrev four:List Str:=[Str.ofString "w",Str.ofString "xw",Str.ofString "yxw",Str.ofString "zyxw"]
theorem v0:∀ w∈four,Asc 4 w:=by
 intro w hw
 have key:∀ w∈four,(∀ c∈w.cps.toList,c<128)/\w.length<=4:=by decide +kernel
 exact key w hw
theorem Ww:Asc 2 (Str.ofString "; "):=by
 have key:(∀ c∈(Str.ofString "; ").cps.toList,c<128)/\(Str.ofString "; ").length<=2:=by decide +kernel
 exact key
theorem Ap9 (c:Nat):(!decide ((⟨#[c]⟩:Str).cps.toList<(Str.ofString "a").cps.toList))=decide (97<=c):=by
 have e:(Str.ofString "a").cps.toList=[97]:=by decide
 rw [e,show ((⟨#[c]⟩:Str).cps.toList)=[c] from rfl]
 rw [Bool.eq_iff_iff]
 simp only [Bool.not_eq_true',decide_eq_false_iff_not,decide_eq_true_eq,lt1]
 omega
theorem Aq0 (c:Nat):(!decide ((Str.ofString "z").cps.toList<(⟨#[c]⟩:Str).cps.toList))=decide (c<=122):=by
 have e:(Str.ofString "z").cps.toList=[122]:=by decide
 rw [e,show ((⟨#[c]⟩:Str).cps.toList)=[c] from rfl]
 rw [Bool.eq_iff_iff]
 simp only [Bool.not_eq_true',decide_eq_false_iff_not,decide_eq_true_eq,lt1]
 omega
theorem Am0 (c:Nat):decide (c∈(Str.ofString "abcdefghijklmnopqrstuvwxyz").cps.toList)=(decide (97<=c)&&decide (c<=122)):=by
 have e:(Str.ofString "abcdefghijklmnopqrstuvwxyz").cps.toList=(List.range 26).map (97+·):=by decide
 rw [e,Bool.eq_iff_iff]
 simp only [decide_eq_true_eq,Bool.and_eq_true,List.mem_map,List.mem_range]
 constructor
 . rintro ⟨a,h1,h2⟩;omega
 . rintro ⟨h1,h2⟩;exact ⟨c-97,by omega,by omega⟩
theorem Af4 {x:Str}{g:TG}{tb:TS}{D:Ends}{σ:St}{H:Hp} (Pv:Nat->St->Hp->Prop) (h0:Pv 0 σ H)
 (hs:∀ i c σ H,x.cps[i]?=some c->Pv i σ H->g (.str ⟨#[c]⟩) σ H fun σ2 H2=>tb { D with nx:=Pv (i+1),ct:=Pv (i+1),bk:=D.nx } σ2 H2) (hd:∀ σ H,Pv x.cps.size σ H->D.nx σ H) :
 ∃ W:Nat->Nat->St->Hp->Prop,(∃ m,W 0 m σ H)/\∀ i m σ H,W i m σ H →
   ((Its x).stop i H/\D.nx σ H)\/((Its x).go i H/\∃ N:St->Hp->Prop,(∀ σ' H',N σ' H'->∃ m',m'<m/\W (i+1) m' σ' H')/\∀ y H',(Its x).yld i H y H'->g y σ H' fun σ2 H2=>tb { D with nx:=N,ct:=N,bk:=D.nx } σ2 H2):=by
 refine⟨fun i m σ H=>m=x.cps.size-i/\i<=x.cps.size/\Pv i σ H,⟨x.cps.size,by simp,Nat.zero_le _,h0⟩,?_⟩
 rintro i m σ H ⟨rfl,hi,p⟩
 by_cases hlt:i<x.cps.size
 . refine .inr ⟨hlt,Pv (i+1),fun σ' H' p'=>⟨x.cps.size-(i+1),by omega,rfl,hlt,p'⟩,fun y H' hy=>?_⟩
   obtain⟨rfl,c,hc,rfl⟩:=hy
   exact hs i c σ H' hc p
 . have e:i=x.cps.size:=by omega
   subst e
   exact .inl ⟨Nat.le_refl _,hd σ H p⟩
end Hb
namespace Hb
open PySem L2
def top (i:Nat):Stmt:=PySem.Challenge.pw_holebook_k08_what_a_text_tells.main.body.getD i (.Pass ⟨0,0,0,0⟩)
structure Txt (K:W.Frag) (mg:Str->Option Value) (Aj Ad Ah Af Ac:Addr):Prop where
 m_HoleError:mg "HoleError"=some (.ref Aj)
 m_NoShape:mg "NoShape"=some (.ref Ad)
 e_NoShape:PySem.W.excIn K Ad bmV "ValueError.__new__"=true
 x_NoShape:ExcC K Ad
 k_NoShape:PySem.W.ktsIn K Ad "BaseException"=true
 iv_NoShape:PySem.W.kitOne K (.ref Ad) (.type "ValueError")=some true
 m_NoText:mg "NoText"=some (.ref Ah)
 e_NoText:PySem.W.excIn K Ah bmV "ValueError.__new__"=true
 x_NoText:ExcC K Ah
 k_NoText:PySem.W.ktsIn K Ah "BaseException"=true
 iv_NoText:PySem.W.kitOne K (.ref Ah) (.type "ValueError")=some true
 m_NoName:mg "NoName"=some (.ref Af)
 e_NoName:PySem.W.excIn K Af bmV "ValueError.__new__"=true
 x_NoName:ExcC K Af
 k_NoName:PySem.W.ktsIn K Af "BaseException"=true
 iv_NoName:PySem.W.kitOne K (.ref Af) (.type "ValueError")=some true
 m_NoPiece:mg "NoPiece"=some (.ref Ac)
 x_NoPiece:ExcC K Ac
 k_NoPiece:PySem.W.ktsIn K Ac "BaseException"=true
 iv_NoPiece:PySem.W.kitOne K (.ref Ac) (.type "ValueError")=some true
 i_NoShape_HoleError:PySem.W.kitOne K (.ref Ad) (.ref Aj)=some true
 i_NoShape_NoShape:PySem.W.kitOne K (.ref Ad) (.ref Ad)=some true
 s_NoShape_NoShape:PySem.W.subIn K (.ref Ad) (.ref Ad)=some true
 i_NoShape_NoText:PySem.W.kitOne K (.ref Ad) (.ref Ah)=some false
 s_NoShape_NoText:PySem.W.subIn K (.ref Ad) (.ref Ah)=some false
 i_NoShape_NoName:PySem.W.kitOne K (.ref Ad) (.ref Af)=some false
 s_NoShape_NoName:PySem.W.subIn K (.ref Ad) (.ref Af)=some false
 i_NoShape_NoPiece:PySem.W.kitOne K (.ref Ad) (.ref Ac)=some false
 i_NoText_HoleError:PySem.W.kitOne K (.ref Ah) (.ref Aj)=some true
 i_NoText_NoShape:PySem.W.kitOne K (.ref Ah) (.ref Ad)=some false
 i_NoText_NoText:PySem.W.kitOne K (.ref Ah) (.ref Ah)=some true
 s_NoText_NoText:PySem.W.subIn K (.ref Ah) (.ref Ah)=some true
 i_NoText_NoName:PySem.W.kitOne K (.ref Ah) (.ref Af)=some false
 i_NoText_NoPiece:PySem.W.kitOne K (.ref Ah) (.ref Ac)=some false
 i_NoName_HoleError:PySem.W.kitOne K (.ref Af) (.ref Aj)=some true
 i_NoName_NoShape:PySem.W.kitOne K (.ref Af) (.ref Ad)=some false
 i_NoName_NoText:PySem.W.kitOne K (.ref Af) (.ref Ah)=some false
 s_NoName_NoText:PySem.W.subIn K (.ref Af) (.ref Ah)=some false
 i_NoName_NoName:PySem.W.kitOne K (.ref Af) (.ref Af)=some true
 s_NoName_NoName:PySem.W.subIn K (.ref Af) (.ref Af)=some true
 i_NoName_NoPiece:PySem.W.kitOne K (.ref Af) (.ref Ac)=some false
 i_NoPiece_HoleError:PySem.W.kitOne K (.ref Ac) (.ref Aj)=some true
 i_NoPiece_NoShape:PySem.W.kitOne K (.ref Ac) (.ref Ad)=some false
 s_NoPiece_NoShape:PySem.W.subIn K (.ref Ac) (.ref Ad)=some false
 i_NoPiece_NoText:PySem.W.kitOne K (.ref Ac) (.ref Ah)=some false
 s_NoPiece_NoText:PySem.W.subIn K (.ref Ac) (.ref Ah)=some false
 i_NoPiece_NoName:PySem.W.kitOne K (.ref Ac) (.ref Af)=some false
 s_NoPiece_NoName:PySem.W.subIn K (.ref Ac) (.ref Af)=some false
 i_NoPiece_NoPiece:PySem.W.kitOne K (.ref Ac) (.ref Ac)=some true
 s_NoPiece_NoPiece:PySem.W.subIn K (.ref Ac) (.ref Ac)=some true
 bi_HoleError:Xd K Aj
 ec_NoPiece:∃ f,ErrC K Ac Aj f
 ea_NoPiece_place:ErrA K Ac "place"
 x_FACE_COUNTS:∃ a,mg "FACE_COUNTS"=some (.ref a)/\∀ H,SqT K H a (([0,2,3,4]:List Int).map V.int)
 x_MOST_PIECES:∃ t,mg "MOST_PIECES"=some (.int 40 t)
 x_LONGEST_NAME:∃ t,mg "LONGEST_NAME"=some (.int 8 t)
 n_isinstance:mg "isinstance"=none
 n_int:mg "int"=none
 n_bool:mg "bool"=none
 n_max:mg "max"=none
 n_len:mg "len"=none
 n_all:mg "all"=none
 n_tuple:mg "tuple"=none
 n_range:mg "range"=none
 n_list:mg "list"=none
 n_enumerate:mg "enumerate"=none
 n_str:mg "str"=none
 n_ValueError:mg "ValueError"=none
def cutI (ns:List Int) (lo hi:Option Int):List Int:=(ns.drop (HT.sIx ns.length 0 lo)).take (HT.sIx ns.length ns.length hi-HT.sIx ns.length 0 lo)
theorem v7 (ns:List Int) (lo hi:Option Int):cutV (ns.map V.int) lo hi=(cutI ns lo hi).map V.int:=by
 unfold cutV cutI
 rw [List.length_map,List.map_take,List.map_drop]
theorem v9 (ns:List Int) (lo hi:Option Int):(cutI ns lo hi).length<=ns.length:=by
 unfold cutI
 rw [List.length_take,List.length_drop]
 omega
theorem Ap3:(["face","shape","level"]:List Str).Nodup:=by decide +kernel
theorem Ak8:(["row"]:List Str).Nodup:=by decide +kernel
theorem Ap2:(["word"]:List Str).Nodup:=by decide +kernel
theorem Ap1:(["sign"]:List Str).Nodup:=by decide +kernel
theorem Ap0:(["name","spots"]:List Str).Nodup:=by decide +kernel
theorem Ao9:(["_law_letter"]:List Str).Nodup:=by decide +kernel
theorem Ao8:(["_law_i","_law_word"]:List Str).Nodup:=by decide +kernel
theorem Ao7:(["_law_word","_law_family","_law_words"]:List Str).Nodup:=by decide +kernel
theorem Ao6:(["_law_face","_law_words"]:List Str).Nodup:=by decide +kernel
theorem Ao5:(["_law_word","_law_names"]:List Str).Nodup:=by decide +kernel
theorem Ak7:(["_law_row"]:List Str).Nodup:=by decide +kernel
section
variable {P:Program}{w:World}{K:W.Frag}{mg:Str->Option Value}{base:Heap}{Aj Ad Ah Af Ac:Addr}
abbrev Bp:Stmt:=Af2 (top 5) 0
theorem Jq:FnScope ["self","place"] ["self","place"] (Ak Bp):=⟨rfl,rfl,rfl,by decide +kernel,rfl,by decide +kernel,by decide +kernel⟩
theorem Jx {f:Addr}{fd:FuncData} (F:Fun K "__init__" "NoPiece.__init__" Bp f fd) (T:Txt K mg Aj Ad Ah Af Ac) :FnOk P w K mg base CX0 1 f fd ["self","place"] (Dx K Ac):=by
 refine F.ok Jq (fun vs H Q E h=>?_) (fun B5 A outer s H vs Q E hr h=>?_)
 . obtain⟨e,n,rfl,he,hn,k⟩:=h
   rfl
 . obtain⟨e,n,rfl,he,hn,k⟩:=h
   refine⟨_,(Ag (Eg (Ad1 (K:=K) (by rfl) T.m_HoleError T.bi_HoleError (Ab (pv 0) (Ab (Vf (Fy A5 (Fy (Z7 (pv 1)) (Fy A5 Z4)))) Ai))))
    (Al (Ai9 (K:=K) (pv 0) (pv 1) (by rfl)))),?_⟩
   obtain⟨fi,Z⟩:=T.ec_NoPiece
   refine⟨_,rfl,?_⟩
   refine⟨_,rfl,Qq,?_⟩
   refine⟨_,rfl,.inl ⟨n,rfl,hn,fun z hz=>⟨_,rfl,hz,?_⟩⟩⟩
   refine⟨_,rfl,Qq,fun x hx=>?_⟩
   refine⟨e,Ac,Aj,fi,_,rfl,he,Z,?_⟩
   refine⟨_,rfl,_,rfl,e,Ac,Aj,fi,rfl,he,Z,T.ea_NoPiece_place.no,fun d hd=>?_⟩
   exact k d hd
abbrev Dr:Stmt:=top 7
theorem U4:FnScope ["thing"] ["thing"] (Ak Dr):=⟨rfl,rfl,rfl,by decide +kernel,rfl,by decide +kernel,by decide +kernel⟩
theorem Vi {f:Addr}{fd:FuncData} (F:Fun K "is_whole" "is_whole" Dr f fd) (T:Txt K mg Aj Ad Ah Af Ac) :FnOk P w K mg base CX0 1 f fd ["thing"] (E5 K):=by
 refine F.ok U4 (fun vs H Q E h=>?_) (fun B5 A outer s H vs Q E hr h=>?_)
 . obtain⟨x,d,rfl,hx,k⟩:=h
   rfl
 . obtain⟨x,d,rfl,hx,k⟩:=h
   refine⟨_,(Al (Ay (Ip (Ap (Ca (K:=K)) (by rfl) T.n_isinstance Aq (Ab (pv 0) (Ab (D3 (v:=.ty "int") rfl T.n_int boot_intT rfl) Ai))) (Im (y0 (Ap (Ca (K:=K)) (by rfl) T.n_isinstance Aq (Ab (pv 0) (Ab (D3 (v:=.ty "bool") rfl T.n_bool Oh rfl) Ai)))))))),?_⟩
   refine⟨_,rfl,_,_,d,rfl,.inl rfl,hx,_,rfl,?_⟩
   refine ite2 (fun e=>?_) (fun e=>?_)
   . refine⟨_,rfl,_,_,d,rfl,.inr (.inl rfl),hx,_,rfl,?_⟩
     have e2:Ea d=!isD "bool" d:=by unfold Ea;rw [e];rfl
     rw [e2] at k
     exact k
   . have e2:Ea d=false:=by unfold Ea;simp [e]
     rw [e2] at k
     exact k
abbrev Dq:Stmt:=top 11
theorem U3:FnScope ["piece"] ["piece"] (Ak Dq):=⟨rfl,rfl,rfl,by decide +kernel,rfl,by decide +kernel,by decide +kernel⟩
theorem Vh {f:Addr}{fd:FuncData} (F:Fun K "level_of" "level_of" Dq f fd) (T:Txt K mg Aj Ad Ah Af Ac) :FnOk P w K mg base CX0 1 f fd ["piece"] (E4 K):=by
 refine F.ok U3 (fun vs H Q E h=>?_) (fun B5 A outer s H vs Q E hr h=>?_)
 . obtain⟨x,ds,rfl,hx,k⟩:=h
   rfl
 . obtain⟨x,ds,rfl,hx,k⟩:=h
   refine⟨_,(Al (Ay (Ap (Tz (by rfl)) (by rfl) T.n_max T3 (Ab (Az Ls (Ap (Ar (K:=K)) (by rfl) T.n_len PySem.boot_len (Ab (pv 0) Ai)) Am) (Ab Am Ai))))),?_⟩
   obtain⟨p,us,e,hq,hl⟩:∃ (p:Addr) (us:List V),x=.ref p/\(SqL K H p us\/SqT K H p us)/\us.length=ds.length:=by
    rcases hx with ⟨p,us,e,hq,r⟩|⟨p,us,e,hq,r⟩
    . exact ⟨p,us,e,.inl hq,r.length⟩
    . exact ⟨p,us,e,.inr hq,r.length⟩
   subst e
   refine⟨_,rfl,p,us,rfl,hq,_,_,rfl,rfl,_,_,rfl,?_⟩
   rw [hl]
   exact k
abbrev Cc:Stmt:=top 14
theorem Nd:FnScope ["shape","faces","j","i"] ["shape","faces"] (Ak Cc):=⟨rfl,rfl,rfl,by decide +kernel,rfl,by decide +kernel,by decide +kernel⟩
theorem G0:(["shape","faces","j","i"]:List Str).Nodup:=by decide +kernel
theorem Nj {f:Addr}{fd:FuncData} (F:Fun K "faces_agree" "faces_agree" Cc f fd) (T:Txt K mg Aj Ad Ah Af Ac) :FnOk P w K mg base CX0 1 f fd ["shape","faces"] (Ef K):=by
 refine F.ok Nd (fun vs H Q E h=>?_) (fun B5 A outer s H vs Q E hr h=>?_)
 . obtain⟨a,v,xs,p,rfl,hL,hv,hp4,hf,k⟩:=h
   rfl
 . obtain⟨a,v,xs,p,rfl,hL,hv,hp4,hf,k⟩:=h
   refine⟨_,(Ag (Bz PassesOwn.never rfl (B3 (by rfl) T.n_range (Ab (Ap (Ar (K:=K)) (by rfl) T.n_len PySem.boot_len (Ab (pv 1) Ai)) Ai)) (A1 (i:=2) G0 (by rfl) (by first | exact Or.inl rfl | exact Or.inr rfl)) (Al (Bz PassesOwn.never rfl (B3 (by rfl) T.n_range (Ab (pv 2) Ai)) (A1 (i:=3) G0 (by rfl) (by first | exact Or.inl rfl | exact Or.inr rfl)) (Al (Bj (Av X2 (Ce (Cl (K:=K)) (Ce (Bs (K:=K)) (pv 0) (Ce (Cl (K:=K)) (pv 1) (pv 2) (fun _ _=>rfl)) (fun _ _=>rfl)) (pv 3) (fun _ _=>rfl)) (Ce (Cl (K:=K)) (Ce (Bs (K:=K)) (pv 0) (Ce (Cl (K:=K)) (pv 1) (pv 3) (fun _ _=>rfl)) (fun _ _=>rfl)) (Az Ls (pv 2) Am) (fun _ _=>rfl)) (A6 _)) (Al (Ay Fr)) Au)))))
    (Al (Ay Fr))),?_⟩
   obtain⟨pa,rfl,hq⟩:=hv.sq
   have hpl:(p.map V.int).length=p.length:=List.length_map ..
   refine⟨_,rfl,pa,_,rfl,.inr hq,_,rfl,by omega,by omega,?_⟩
   rw [hpl]
   refine Bt (lo:=0) (n:=((p.length:Nat):Int).toNat) (fun j σ H2=>H=H2/\(∃ o2 o3,σ=[some (.ref a),some (.ref pa),o2,o3])/\∀ j' i',j'<j->i'<j'->Ig xs p j' i'=true)
    ⟨rfl,⟨none,none,rfl⟩,fun j' i' h=>absurd h (by omega)⟩ ?_ ?_
   . rintro j σ H2 hj ⟨rfl,⟨o2,o3,rfl⟩,hall⟩
     have hj':j<p.length:=by omega
     refine⟨_,rfl,_,rfl,by omega,by omega,?_⟩
     refine Bt (lo:=0) (n:=((0:Int)+(j:Int)).toNat) (fun i σ H2=>H=H2/\(∃ o3,σ=[some (.ref a),some (.ref pa),some (.int (0+j)),o3])/\∀ i',i'<i->Ig xs p j i'=true)
      ⟨rfl,⟨_,rfl⟩,fun i' h=>absurd h (by omega)⟩ ?_ ?_
     . rintro i σ H2 hi ⟨rfl,⟨o3,rfl⟩,hall2⟩
       have hij:i<j:=by omega
       have mj:p.getD j 0∈p:=by rw [List.getD_eq_getElem?_getD,List.getElem?_eq_getElem hj'];exact List.getElem_mem _
       have mi:p.getD i 0∈p:=by rw [List.getD_eq_getElem?_getD,List.getElem?_eq_getElem (by omega)];exact List.getElem_mem _
       obtain⟨j0,j1,j2⟩:=hf _ mj
       obtain⟨i0,i1,i2⟩:=hf _ mi
       obtain⟨_,z,hq1,at1⟩:=TI.get (i:=(0:Int)+(j:Int)) hv (by omega) (by omega)
       cases z
       rw [show ((0:Int)+(j:Int)).toNat=j by omega] at at1
       obtain⟨_,z,hq2,at2⟩:=TI.get (i:=(0:Int)+(i:Int)) hv (by omega) (by omega)
       cases z
       rw [show ((0:Int)+(i:Int)).toNat=i by omega] at at2
       obtain⟨us1,v1,hu1,av1,tv1⟩:=LT.get hL j0 j1
       obtain⟨us2,v2,hu2,av2,tv2⟩:=LT.get hL i0 i1
       obtain⟨b1,e1,hb1,ab1⟩:=TI.get (i:=(0:Int)+(i:Int)) tv1 (by omega) (by omega)
       obtain⟨b2,e2,hb2,ab2⟩:=TI.get (i:=(0:Int)+(j:Int)-1) tv2 (by omega) (by omega)
       subst e1 e2
       rw [show ((0:Int)+(i:Int)).toNat=i by omega] at ab1
       rw [show ((0:Int)+(j:Int)-1).toNat=j-1 by omega] at ab2
       refine⟨_,rfl,_,rfl,_,rfl,pa,_,_,_,rfl,rfl,hq1,at1,a,us1,_,_,rfl,rfl,hu1,av1,_,rfl,b1,_,_,_,rfl,rfl,hb1,ab1,?_⟩
       refine⟨_,rfl,_,rfl,_,rfl,pa,_,_,_,rfl,rfl,hq2,at2,a,us2,_,_,rfl,rfl,hu2,av2,_,rfl,_,_,rfl,rfl,b2,_,_,_,rfl,rfl,hb2,ab2,?_⟩
       refine⟨rfl,_,rfl,?_⟩
       by_cases hag:(xs.getD (p.getD j 0).toNat []).getD i 0=(xs.getD (p.getD i 0).toNat []).getD (j-1) 0
       . refine ifN (eqI hag) ?_
         refine⟨rfl,⟨_,rfl⟩,fun i' h=>?_⟩
         by_cases hz:i'=i
         . subst hz;unfold Ig;exact decide_eq_true hag
         . exact hall2 i' (by omega)
       . refine ifP (neI hag) ?_
         have e2:Dj xs p=false:=by
          cases q:Dj xs p with
          | false=>rfl
          | true =>
            unfold Dj at q
            rw [List.all_eq_true] at q
            have q2:=q j (List.mem_range.mpr hj')
            rw [List.all_eq_true] at q2
            have q3:=q2 i (List.mem_range.mpr hij)
            exact absurd (of_decide_eq_true q3) hag
         rw [e2] at k
         exact k
     . rintro σ H2 ⟨rfl,⟨o3,rfl⟩,hall2⟩
       refine⟨rfl,⟨_,_,rfl⟩,fun j' i' h1 h2=>?_⟩
       by_cases hz:j'=j
       . subst hz;exact hall2 i' (by omega)
       . exact hall j' i' (by omega) h2
   . rintro σ H2 ⟨rfl,⟨o2,o3,rfl⟩,hall⟩
     have e2:Dj xs p=true:=by
      unfold Dj
      rw [List.all_eq_true]
      intro j hj
      rw [List.all_eq_true]
      intro i hi
      have:=List.mem_range.mp hj
      exact hall j i (by omega) (List.mem_range.mp hi)
     rw [e2] at k
     exact k
abbrev Bo:Stmt:=top 18
theorem Jp:FnScope ["thing"] ["thing"] (Ak Bo):=⟨rfl,rfl,rfl,by decide +kernel,rfl,by decide +kernel,by decide +kernel⟩
theorem Jw {f:Addr}{fd:FuncData} (F:Fun K "is_list_of_few" "is_list_of_few" Bo f fd) (T:Txt K mg Aj Ad Ah Af Ac) :FnOk P w K mg base CX0 1 f fd ["thing"] (Uv K):=by
 refine F.ok Jp (fun vs H Q E h=>?_) (fun B5 A outer s H vs Q E hr h=>?_)
 . obtain⟨v,e,rfl,hv,k⟩:=h
   rfl
 . obtain⟨v,e,rfl,hv,k⟩:=h
   obtain⟨t_MOST_PIECES,c_MOST_PIECES⟩:=T.x_MOST_PIECES
   refine⟨_,(Al (Ay (Ip (Ap (Ms (K:=K)) (by rfl) T.n_isinstance Aq (Ab (pv 0) (Ab (D3 (v:=.ty "list") rfl T.n_list Ko rfl) Ai))) (Im (Ju a6 (Ap (Ar (K:=K)) (by rfl) T.n_len PySem.boot_len (Ab (pv 0) Ai)) (E9 (v:=.int 40) (by rfl) c_MOST_PIECES ⟨_,rfl⟩) (A6 _)))))),?_⟩
   refine⟨_,rfl,v,"list",.one e,rfl,.inr (.inr (.inr (.inr (.inl rfl)))),hv,_,rfl,?_⟩
   refine ite2 (fun h1=>?_) (fun h1=>?_)
   . obtain⟨ds,rfl⟩:=Af1 h1
     obtain⟨a,vs,rfl,hq,hr⟩:=hv
     have hl:vs.length=ds.length:=hr.length
     refine⟨_,rfl,a,_,rfl,.inl hq,_,_,rfl,rfl,?_⟩
     show Q (.bl (decide ((vs.length:Int)<=40))) H
     rw [hl]
     have:decide ((ds.length:Int)<=40)=fewE (.d (.lst ds)):=by
      show _=decide (ds.length<=40)
      exact decide_eq_decide.mpr (by omega)
     rw [this]
     exact k
   . have:fewE e=false:=Af5 h1
     rw [this] at k
     exact k
abbrev Eo:Stmt:=top 24
theorem Xs:FnScope ["word"] ["word"] (Ak Eo):=⟨rfl,rfl,rfl,by decide +kernel,rfl,by decide +kernel,by decide +kernel⟩
theorem X5 {f:Addr}{fd:FuncData} (F:Fun K "is_name" "is_name" Eo f fd) (T:Txt K mg Aj Ad Ah Af Ac) :FnOk P w K mg base CX0 1 f fd ["word"] (O5 K):=by
 refine F.ok Xs (fun vs H Q E h=>?_) (fun B5 A outer s H vs Q E hr h=>?_)
 . obtain⟨x,rfl,hx,k⟩:=h
   rfl
 . obtain⟨x,rfl,hx,k⟩:=h
   obtain⟨t_LONGEST_NAME,c_LONGEST_NAME⟩:=T.x_LONGEST_NAME
   refine⟨_,(Al (Ay (Ip (Pl a6 a6 Am (Ap Cs (by rfl) T.n_len PySem.boot_len (Ab (pv 0) Ai)) (E9 (v:=.int 8) (by rfl) c_LONGEST_NAME ⟨_,rfl⟩)) (Im (Ap (J4 (K:=K) (by rfl)) (by rfl) T.n_all Mu (Ab (Fa (N':=["sign"]) (cap:=[none]) (by rfl) (by kernel_rfl) (x9 (pv 0)) (fun _ _ _ _=>(A1 (i:=0) Ap1 (by rfl) (by first | exact Or.inl rfl | exact Or.inr rfl))) (fun _ _ _ _=>Dd) (fun _ _ _ _=>(Pl Rq Rq A5 (pv 0) A5))) Ai)))))),?_⟩
   have hz:x.length<=sizeLine:=At (by have:=hx.2;omega)
   have no:∀ H',Same H H'->Dm x=false->Q (.bl false) H':=fun H' s e=>by
    have q:=k H' s
    rw [e] at q
    exact q
   refine⟨_,rfl,x,rfl,hz,_,_,rfl,rfl,_,rfl,?_⟩
   refine ite2 (fun h1=>?_) (fun h1=>?_)
   rotate_left
   . refine⟨_,rfl,?_⟩
     refine ifN (by decide) ?_
     refine no _ (Same.refl H) ?_
     have h2:¬1<=x.length:=by
      have:¬(1:Int)<=(x.length:Int):=by simpa using h1
      omega
     unfold Dm
     rw [decide_eq_false h2]
     rfl
   have p1:1<=x.length:=by
    have:(1:Int)<=(x.length:Int):=by simpa using h1
    omega
   refine⟨_,_,rfl,rfl,_,rfl,?_⟩
   refine ite2 (fun h2=>?_) (fun h2=>?_)
   rotate_left
   . refine no _ (Same.refl H) ?_
     have h3:¬x.length<=8:=by
      have:¬(x.length:Int)<=8:=by simpa using h2
      omega
     unfold Dm
     rw [decide_eq_false h3]
     simp
   have p2:x.length<=8:=by
    have:(x.length:Int)<=8:=by simpa using h2
    omega
   have en:Dm x=x.cps.toList.all fun c=>decide (97<=c)&&decide (c<=122):=by
    unfold Dm
    rw [decide_eq_true p1,decide_eq_true p2]
    rfl
   rw [en] at k
   refine⟨_,rfl,x,rfl,hx.all,fun D hD=>?_⟩
   refine w5 (x:=x) (fun i ys τ H1=>Same H H1/\H1 D=some (.lst ys)/\ys=((x.cps.toList.take i).map fun c=>decide (97<=c)&&decide (c<=122)).map V.bl/\∃ o,τ=[o])
    ⟨Same.new hD,Ae,rfl,none,rfl⟩ ?_ ?_
   . rintro i c ys τ H1 hc ⟨s1,hD1,rfl,o,rfl⟩
     have hi:i<x.cps.size:=(Array.getElem?_eq_some_iff.mp hc).1
     have hx8:x.cps.size<=8:=p2
     have hcl:x.cps.toList[i]?=some c:=by rw [Array.getElem?_toList];exact hc
     have tk:(x.cps.toList.take (i+1)).map (fun c=>decide (97<=c)&&decide (c<=122))=(x.cps.toList.take i).map (fun c=>decide (97<=c)&&decide (c<=122))++[decide (97<=c)&&decide (c<=122)]:=by
      rw [List.take_add_one,hcl,List.map_append]
      rfl
     refine⟨_,rfl,_,_,rfl,rfl,_,rfl,?_⟩
     rw [Ap9]
     refine ite2 (fun h3=>?_) (fun h3=>?_)
     . refine⟨_,_,rfl,rfl,hD1,Dl (by simp;omega),s1.turn hD,Ae,?_,_,rfl⟩
       rw [tk,List.map_append,h3]
       show _++[V.bl (!decide ((Str.ofString "z").cps.toList<(⟨#[c]⟩:Str).cps.toList))]=_
       rw [Aq0]
       rfl
     . refine⟨hD1,Dl (by simp;omega),s1.turn hD,Ae,?_,_,rfl⟩
       rw [tk,List.map_append,show decide (97<=c)=false by simpa using h3]
       rfl
   . rintro ys τ H1 ⟨s1,hD1,rfl,_⟩
     rw [←Array.length_toList,List.take_length] at hD1
     refine⟨D,x.cps.toList.map fun c=>decide (97<=c)&&decide (c<=122),rfl,.of hD1,?_⟩
     rw [List.all_map]
     exact k H1 s1
abbrev Dz:Stmt:=top 26
theorem Xq:FnScope ["spots","name"] ["spots","name"] (Ak Dz):=⟨rfl,rfl,rfl,by decide +kernel,rfl,by decide +kernel,by decide +kernel⟩
theorem X3 {f:Addr}{fd:FuncData} (F:Fun K "spot_of" "spot_of" Dz f fd) (T:Txt K mg Aj Ad Ah Af Ac) :FnOk P w K mg base (CX1 P w) 1 f fd ["spots","name"] (O1 K Af):=by
 refine F.okX Xq (fun vs H Q E h=>?_) (fun B5 A outer s H vs Q E hr h=>?_)
 . obtain⟨d,names,w,rfl,hS,hw,k1,k2⟩:=h
   rfl
 . obtain⟨d,names,w,rfl,hS,hw,k1,k2⟩:=h
   have hu8:(A.deeper (PyProof.Rows.envOfC "spot_of" (Ak Dz) s.heap.objs.size f B5)).units+8<cLine:=by have:=hr.units;omega
   refine⟨_,(Ag (Bj (Av (Z9 (u1 hu8)) (pv 1) (pv 0) rfl) (Al (Il F1 (by rfl) (by rfl) T.m_NoName T.e_NoName (Ab (Vf (Fy A5 (Fy (Z7 (pv 1)) Z4))) Ai))) Au)
    (Al (Ay (Ac9 (u1 hu8) (pv 0) (pv 1) (fun _ _=>rfl))))),?_⟩
   obtain⟨A0,hd,hl,hv⟩:=hS
   have hvw:=hv w
   refine⟨_,rfl,_,rfl,d,A0,.inr w,rfl,hd,rfl,_,rfl,?_⟩
   by_cases hm:w∈names
   . rw [if_pos hm] at hvw
     refine ifN (by rw [hvw];simp) ?_
     exact ⟨_,rfl,_,rfl,d,_,rfl,.inl ⟨A0,.inr w,.inl hd,rfl,hvw.symm⟩,k1 hm⟩
   . rw [if_neg hm] at hvw
     refine ifP (by rw [hvw];rfl) ?_
     exact ⟨_,rfl,Qq,⟨_,rfl,.inr ⟨w,rfl,by omega,⟨_,rfl,by omega,fun z hz=>⟨At (by simp),k2 hm H (Same.refl H)⟩⟩⟩⟩⟩
abbrev Ep:Stmt:=top 28
theorem Xt:FnScope ["_law_found"] ["_law_found"] (Ak Ep):=⟨rfl,rfl,rfl,by decide +kernel,rfl,by decide +kernel,by decide +kernel⟩
theorem X6 {f:Addr}{fd:FuncData} (F:Fun K "_law_whole" "_law_whole" Ep f fd) (T:Txt K mg Aj Ad Ah Af Ac) :FnOk P w K mg base CX0 1 f fd ["_law_found"] (Gh K):=by
 refine F.ok Xt (fun vs H Q E h=>?_) (fun B5 A outer s H vs Q E hr h=>?_)
 . obtain⟨x,d,rfl,hx,k⟩:=h
   rfl
 . obtain⟨x,d,rfl,hx,k⟩:=h
   refine⟨_,(Al (Ay (Ip (Ap (Ca (K:=K)) (by rfl) T.n_isinstance Aq (Ab (pv 0) (Ab (D3 (v:=.ty "int") rfl T.n_int boot_intT rfl) Ai))) (Im (y0 (Ap (Ca (K:=K)) (by rfl) T.n_isinstance Aq (Ab (pv 0) (Ab (D3 (v:=.ty "bool") rfl T.n_bool Oh rfl) Ai)))))))),?_⟩
   refine⟨_,rfl,_,_,d,rfl,.inl rfl,hx,_,rfl,?_⟩
   refine ite2 (fun e=>?_) (fun e=>?_)
   . refine⟨_,rfl,_,_,d,rfl,.inr (.inl rfl),hx,_,rfl,?_⟩
     have e2:Ea d=!isD "bool" d:=by unfold Ea;rw [e];rfl
     rw [e2] at k
     exact k
   . have e2:Ea d=false:=by unfold Ea;simp [e]
     rw [e2] at k
     exact k
abbrev C6:Stmt:=top 30
theorem Q7:FnScope ["_law_number","_law_stem","_law_word","_law_size","_law_k"] ["_law_number","_law_stem"] (Ak C6):=⟨rfl,rfl,rfl,by decide +kernel,rfl,by decide +kernel,by decide +kernel⟩
theorem Cp:(["_law_number","_law_stem","_law_word","_law_size","_law_k"]:List Str).Nodup:=by decide +kernel
theorem Rx {f:Addr}{fd:FuncData} (F:Fun K "_law_name_by" "_law_name_by" C6 f fd) (T:Txt K mg Aj Ad Ah Af Ac) :FnOk P w K mg base CX0 1 f fd ["_law_number","_law_stem"] (Fv K):=by
 refine F.ok Q7 (fun vs H Q E h=>?_) (fun B5 A outer s H vs Q E hr h=>?_)
 . obtain⟨n,stem,rfl,h4,k⟩:=h
   rfl
 . obtain⟨n,stem,rfl,h4,k⟩:=h
   refine⟨_,(Ag (As (i:=2) Cp (by rfl) (by first | exact Or.inl rfl | exact Or.inr rfl) (A9 Ik A5 Bm (Bg (pv 1))))
    (Ag (As (i:=3) Cp (by rfl) (by first | exact Or.inl rfl | exact Or.inr rfl) (Az Cy Am (Az Bq (pv 0) Am)))
    (Ag (As (i:=0) Cp (by rfl) (by first | exact Or.inl rfl | exact Or.inr rfl) (Az D4 (pv 0) Am))
    (Ag (Bz PassesOwn.never rfl (B3 (by rfl) T.n_range (Ab (pv 3) Ai)) (A1 (i:=4) Cp (by rfl) (by first | exact Or.inl rfl | exact Or.inr rfl)) (Ag (As (i:=2) Cp (by rfl) (by first | exact Or.inl rfl | exact Or.inr rfl) (Az Bw (pv 2) (Ce y8 A5 (Az Bq (pv 0) Am) (fun _ _=>rfl))))
    (Al (As (i:=0) Cp (by rfl) (by first | exact Or.inl rfl | exact Or.inr rfl) (Az D4 (pv 0) Am)))))
    (Al (Ay (pv 2))))))),?_⟩
   refine Ao (fun σ' H'=>σ'=[some (.int n),some (.int stem),some (.str ⟨(Gn stem).toArray⟩),none,none]/\H=H') ?_ fun key=>?_
   rotate_left
   . refine⟨_,rfl,_,rfl,_,rfl,?_⟩
     rw [n6 h4]
     exact ⟨At (by show (Gn stem).toArray.size<=_;simp [Gn];omega),key _ _ ⟨rfl,rfl⟩⟩
   rintro _ _ ⟨rfl,rfl⟩
   refine Ao (fun σ' H'=>σ'=[some (.int n),some (.int stem),some (.str ⟨(Gn stem).toArray⟩),some (.int ((1+n%4:Nat):Int)),none]/\H=H') ?_ fun key=>?_
   rotate_left
   . refine⟨_,rfl,_,_,rfl,rfl,(by decide:(0:Int)<4),_,_,rfl,rfl,key _ _ ⟨?_,rfl⟩⟩
     rw [show ((1+n%4:Nat):Int)=1+(n:Int)%4 by omega]
     rfl
   rintro _ _ ⟨rfl,rfl⟩
   refine Ao (fun σ' H'=>σ'=[some (.int ((n / 4:Nat):Int)),some (.int stem),some (.str ⟨(Gn stem).toArray⟩),some (.int ((1+n%4:Nat):Int)),none]/\H=H') ?_ fun key=>?_
   rotate_left
   . refine⟨_,rfl,_,_,rfl,rfl,⟨by decide,by decide⟩,key _ _ ⟨?_,rfl⟩⟩
     rw [show ((n / 4:Nat):Int)=(n:Int) / 4 by omega]
     rfl
   rintro _ _ ⟨rfl,rfl⟩
   have hm:=Nat.mod_lt n (by decide:0<4)
   refine⟨_,rfl,_,rfl,by omega,by omega,?_⟩
   refine Bt (fun i σ G=>∃ o,σ=[some (.int ((n / 4 / 26 ^ i:Nat):Int)),some (.int stem),some (.str ⟨(Gn stem++lets i (n / 4)).toArray⟩),some (.int ((1+n%4:Nat):Int)),o]/\H=G)
    ⟨none,by simp [lets],rfl⟩ ?_ ?_
   . rintro i σ G hi ⟨o,rfl,rfl⟩
     have hi2:i<1+n%4:=by omega
     have hr:=Nat.mod_lt (n / 4 / 26 ^ i) (by decide:0<26)
     refine Ao (fun σ' H'=>∃ o,σ'=[some (.int ((n / 4 / 26 ^ i:Nat):Int)),some (.int stem),some (.str ⟨(Gn stem++lets (i+1) (n / 4)).toArray⟩),some (.int ((1+n%4:Nat):Int)),o]/\H=H') ?_ fun key=>?_
     rotate_left
     . refine⟨_,rfl,_,rfl,_,_,rfl,rfl,(by decide:(0:Int)<26),_,_,97+n / 4 / 26 ^ i%26,rfl,rfl,by decide +kernel,?_,_,_,rfl,rfl,?_,?_⟩
       . rw [show ((n / 4 / 26 ^ i:Nat):Int)%26=((n / 4 / 26 ^ i%26:Nat):Int) by omega]
         exact Cb (Am1 hr)
       . refine At ?_
         show (Gn stem++lets i (n / 4)).toArray.size+1<=_
         simp [Gn,Px]
         omega
       . rw [n5,List.append_assoc,←Sm]
         exact key _ _ ⟨_,rfl,rfl⟩
     rintro _ _ ⟨o,rfl,rfl⟩
     refine⟨_,rfl,_,_,rfl,rfl,⟨by decide,by decide⟩,o,?_,rfl⟩
     rw [show ((n / 4 / 26 ^ (i+1):Nat):Int)=((n / 4 / 26 ^ i:Nat):Int) / 26 by rw [Nat.pow_succ,←Nat.div_div_eq_div_mul];omega]
     rfl
   . rintro σ G ⟨o,rfl,rfl⟩
     exact ⟨_,rfl,k⟩
abbrev C3:Stmt:=top 32
theorem Q4:FnScope ["_law_shape","_law_names","_law_rows","_law_place","_law_row","_law_face"] ["_law_shape","_law_names"] (Ak C3):=⟨rfl,rfl,rfl,by decide +kernel,rfl,by decide +kernel,by decide +kernel⟩
theorem Dc:(["_law_shape","_law_names","_law_rows","_law_place","_law_row","_law_face"]:List Str).Nodup:=by decide +kernel
theorem Ru {f:Addr}{fd:FuncData} (F:Fun K "_law_text_by" "_law_text_by" C3 f fd) (T:Txt K mg Aj Ad Ah Af Ac) :FnOk P w K mg base CX0 1 f fd ["_law_shape","_law_names"] (Fu K):=by
 refine F.ok Q4 (fun vs H Q E h=>?_) (fun B5 A outer s H vs Q E hr h=>?_)
 . obtain⟨v,n,xs,names,rfl,hL,hq,hs,hx,hnl,hn,k⟩:=h
   rfl
 . obtain⟨v,n,xs,names,rfl,hL,hq,hs,hx,hnl,hn,k⟩:=h
   refine⟨_,(Ag (As (i:=2) Dc (by rfl) (by first | exact Or.inl rfl | exact Or.inr rfl) (Db Ai))
    (Ag (Bz PassesOwn.never rfl (B3 (by rfl) T.n_range (Ab (Ap (Ar (K:=K)) (by rfl) T.n_len PySem.boot_len (Ab (pv 0) Ai)) Ai)) (A1 (i:=3) Dc (by rfl) (by first | exact Or.inl rfl | exact Or.inr rfl)) (Ag (As (i:=4) Dc (by rfl) (by first | exact Or.inl rfl | exact Or.inr rfl) (Ce (Bs (K:=K)) (pv 1) (pv 3) (fun _ _=>rfl)))
    (Ag (Bz PassesOwn.never rfl (L4 (K:=K) (Ce (Bs (K:=K)) (pv 0) (pv 3) (fun _ _=>rfl))) (A1 (i:=5) Dc (by rfl) (by first | exact Or.inl rfl | exact Or.inr rfl)) (Al (As (i:=4) Dc (by rfl) (by first | exact Or.inl rfl | exact Or.inr rfl) (Az Bw (Az Bw (pv 4) A5) (Ce (Bs (K:=K)) (pv 1) (pv 5) (fun _ _=>rfl))))))
    (Al (Eg (Cz (K:=K) PySem.F.plainAttrs_list PySem.F.slot_list_append PySem.F.type_list_append B9 (pv 2) (Ab (pv 4) Ai)))))))
    (Al (Ay (Cz (K:=K) PySem.F.plainAttrs_str PySem.F.slot_str_join PySem.F.type_str_join (W3 (K:=K)) A5 (Ab (pv 2) Ai)))))),?_⟩
   obtain⟨a,us,rfl,ha,r⟩:=id hL
   have hl:us.length=xs.length:=by have:=r.length;simpa using this
   refine Ao (fun σ' H'=>∃ D:Addr,σ'=[some (.ref a),some (.ref n),some (.ref D),none,none,none]/\H D=none/\Same H H'/\H' D=some (.lst [])) ?_ fun key=>?_
   rotate_left
   . exact ⟨Nat.zero_le _,fun D hD=>key _ _ ⟨D,rfl,hD,Same.new hD,Ae⟩⟩
   rintro _ H1 ⟨D,rfl,hD,s1,h1⟩
   refine⟨_,rfl,a,_,rfl,.inl (s1.seq ha),_,rfl,by omega,by omega,?_⟩
   refine Bt (fun i σ G=>∃ o3 o4 o5,σ=[some (.ref a),some (.ref n),some (.ref D),o3,o4,o5]/\Same H G/\G D=some (.lst (((List.range i).map fun k=>rowT names k (xs.getD k [])).map V.str)))
    ⟨none,none,none,rfl,s1,h1⟩ ?_ ?_
   . rintro i σ G hi0 ⟨o3,o4,o5,rfl,s2,hD2⟩
     have hi:i<xs.length:=by omega
     obtain⟨fk,f4⟩:=P5 hs hi
     obtain⟨z1,z2,z3⟩:=Ph hn (k:=i) (by omega) (fun f hf=>⟨(fk f hf).1,by have:=(fk f hf).2;omega⟩) f4
     have e0:(0:Int)+(i:Int)=(i:Int):=by omega
     rw [e0]
     refine Ao (fun σ' H'=>σ'=[some (.ref a),some (.ref n),some (.ref D),some (.int i),some (.str (nmAt names i)),o5]/\G=H') ?_ fun key=>?_
     rotate_left
     . exact ⟨_,rfl,_,rfl,n,_,_,_,rfl,rfl,s2.seq hq,Ak6 (by omega) (by omega),key _ _ ⟨by rw [show ((i:Int)).toNat=i from Int.toNat_natCast i];rfl,rfl⟩⟩
     rintro _ _ ⟨rfl,rfl⟩
     have hg:us[i]?=some us[i]:=List.getElem?_eq_getElem (by omega)
     obtain⟨dv,hdv,rv⟩:=r.getV hg
     have edv:dv=tI (xs.getD i []):=by
      rw [List.getElem?_map,List.getElem?_eq_getElem hi] at hdv
      rw [List.getD_eq_getElem?_getD,List.getElem?_eq_getElem hi]
      simpa using hdv.symm
     subst edv
     obtain⟨b,ws,eb,hb,rb⟩:=rv
     cases (D1.mp rb)
     have lenj:∀ j,((((xs.getD i []).take j).map fun f=>nmAt names f.toNat).foldl (fun acc x=>acc++Str.ofString " "++x) (nmAt names i)).length<=50:=fun j=>by
      rw [Mc]
      exact (Ph hn (k:=i) (p:=(xs.getD i []).take j) (by omega) (fun f hf=>by have:=fk f (List.mem_of_mem_take hf);exact ⟨this.1,by have:=this.2;omega⟩) (by rw [List.length_take];omega)).2.2
     refine Ao (fun σ' H'=>∃ o,σ'=[some (.ref a),some (.ref n),some (.ref D),some (.int i),some (.str (rowT names i (xs.getD i []))),o]/\G=H') ?_ fun key=>?_
     rotate_left
     . refine⟨_,rfl,_,rfl,a,us,_,.ref b,rfl,rfl,s2.seq ha,Cb (by rw [hg,eb]),b,rfl,⟨_,s2.seqT hb⟩,?_⟩
       refine V5 (K:=K) (a:=b) (xs:=(xs.getD i []).map V.int) (fun j σ G1=>∃ o,σ=[some (.ref a),some (.ref n),some (.ref D),some (.int i),some (.str ((((xs.getD i []).take j).map fun f=>nmAt names f.toNat).foldl (fun acc x=>acc++Str.ofString " "++x) (nmAt names i))),o]/\G=G1)
        ⟨_,rfl,rfl⟩ (fun j σ G1 _ ⟨_,_,e⟩=>e▸s2.seqT hb) ?_ ?_
       . rintro j x σ G1 hx ⟨o,rfl,rfl⟩
         rw [List.getElem?_map] at hx
         obtain⟨f,hf,rfl⟩:=Option.map_eq_some_iff.mp hx
         have hj:j<(xs.getD i []).length:=(List.getElem?_eq_some_iff.mp hf).1
         obtain⟨f0,f1⟩:=fk f (List.mem_of_getElem? hf)
         have ln:=lenj j
         have ok8:=(t8 hn (k:=f.toNat) (by omega)).le
         have e1:(Str.ofString " ").length=1:=by decide +kernel
         refine⟨_,rfl,_,_,rfl,rfl,At (by rw [e1];omega),_,rfl,_,rfl,n,_,_,_,rfl,rfl,s2.seq hq,Ak6 f0 (by omega),_,_,rfl,rfl,At ?_,some (.int f),?_,rfl⟩
         . have e2:∀ A B:Str,(A++B).length=A.length+B.length:=fun A B=>by simp [Str.length,Str.cps_append]
           rw [e2,e1]
           omega
         . rw [List.take_add_one,hf,List.map_append,List.foldl_append]
           rfl
       . rintro σ G1 ⟨o,rfl,rfl⟩
         refine key _ _ ⟨o,?_,rfl⟩
         rw [List.length_map,List.take_length,Mc]
         rfl
     rintro _ _ ⟨o,rfl,rfl⟩
     refine⟨_,rfl,.inl ⟨rfl,_,.of hD2⟩,_,rfl,D,_,_,rfl,rfl,hD2,Dl (by simp;omega),_,_,_,rfl,s2.turn hD,?_⟩
     rw [Ae,List.range_succ,List.map_append,List.map_append]
     rfl
   . rintro σ G ⟨o3,o4,o5,rfl,s2,hD2⟩
     rw [show ((us.length:Int)).toNat=xs.length by omega] at hD2
     refine⟨rfl,_,rfl,Str.ofString "; ",D,_,rfl,rfl,.of hD2,?_,?_⟩
     . have e:(Str.ofString "; ").length=2:=by decide +kernel
       have h1:=Zt (ys:=(List.range xs.length).map fun k=>rowT names k (xs.getD k [])) (B:=50) fun y hy=>by
        obtain⟨k,hk,rfl⟩:=List.mem_map.mp hy
        have hk:=List.mem_range.mp hk
        obtain⟨fk,f4⟩:=P5 hs hk
        exact (Ph hn (by omega) (fun f hf=>⟨(fk f hf).1,by have:=(fk f hf).2;omega⟩) f4).2.2
       rw [e]
       rw [List.length_map,List.length_range] at h1 ⊢
       omega
     . rw [Ah2]
       have e2:Ox xs names=Str.join (Str.ofString "; ") ((List.range xs.length).map fun k=>rowT names k (xs.getD k [])):=by
        unfold Ox Pg
        rw [List.map_map]
        rfl
       rw [←e2]
       exact k G s2
abbrev C8:Stmt:=top 33
theorem Q9:FnScope ["_law_script","_law_k"] ["_law_script","_law_k"] (Ak C8):=⟨rfl,rfl,rfl,by decide +kernel,rfl,by decide +kernel,by decide +kernel⟩
theorem Rz {f:Addr}{fd:FuncData} (F:Fun K "_law_cell_at" "_law_cell_at" C8 f fd) (T:Txt K mg Aj Ad Ah Af Ac) :FnOk P w K mg base CX0 1 f fd ["_law_script","_law_k"] (Eb K):=by
 refine F.ok Q9 (fun vs H Q E h=>?_) (fun B5 A outer s H vs Q E hr h=>?_)
 . obtain⟨a,ns,k,rfl,hS,h0,hl,kq⟩:=h
   rfl
 . obtain⟨a,ns,k,rfl,hS,h0,hl,kq⟩:=h
   refine⟨_,(Ag (Bj (Av Rp (pv 1) (Ap (Ar (K:=K)) (by rfl) T.n_len PySem.boot_len (Ab (pv 0) Ai)) (A6 _)) (Al (Ay (Ce (Bs (K:=K)) (pv 0) (pv 1) (fun _ _=>rfl)))) Au)
    (Al (Ay Am))),?_⟩
   refine⟨_,rfl,_,rfl,a,_,rfl,.inl hS,_,_,rfl,rfl,_,rfl,?_⟩
   refine ite2 (fun h1=>?_) (fun h1=>?_)
   . have h2:k<(ns.length:Int):=by simpa using h1
     have e:atI (ns.map V.int) k=some (.int (Ee ns k)):=by
      obtain⟨j,rfl⟩:=Int.eq_ofNat_of_zero_le h0
      refine Cb ?_
      have hj:j<ns.length:=by omega
      rw [List.getElem?_map,List.getElem?_eq_getElem hj]
      simp [Ee,hj]
     exact ⟨_,rfl,_,rfl,a,_,k,_,rfl,rfl,hS,e,kq⟩
   . have h2:¬k<(ns.length:Int):=by simpa using h1
     have e:Ee ns k=0:=by
      unfold Ee
      have:ns.length<=k.toNat:=by omega
      simp [this]
     rw [e] at kq
     exact kq
abbrev Co:Stmt:=top 34
theorem Pe:FnScope ["_law_word","_law_family","_law_size","_law_faces","_law_i"] ["_law_word","_law_family"] (Ak Co):=⟨rfl,rfl,rfl,by decide +kernel,rfl,by decide +kernel,by decide +kernel⟩
theorem Fc:(["_law_word","_law_family","_law_size","_law_faces","_law_i"]:List Str).Nodup:=by decide +kernel
theorem Po {f:Addr}{fd:FuncData} (F:Fun K "_law_faces_by" "_law_faces_by" Co f fd) (T:Txt K mg Aj Ad Ah Af Ac) :FnOk P w K mg base CX0 1 f fd ["_law_word","_law_family"] (Dk K):=by
 refine F.ok Pe (fun vs H Q E h=>?_) (fun B5 A outer s H vs Q E hr h=>?_)
 . obtain⟨v,w,fam,rfl,hv,hw,k⟩:=h
   rfl
 . obtain⟨v,w,fam,rfl,hv,hw,k⟩:=h
   refine⟨_,(Ag (As (i:=2) Fc (by rfl) (by first | exact Or.inl rfl | exact Or.inr rfl) (Ap (Ar (K:=K)) (by rfl) T.n_len PySem.boot_len (Ab (pv 0) Ai)))
    (Ag (Bj (Av Fb (pv 1) Am (A6 _)) (Ag (Bj (Av Rp (pv 2) Am (A6 _)) (Al (Ay (Db Ai))) Au)
    (Al (Ay (Fa (N':=["_law_i","_law_word"]) (cap:=[none,some 0]) (by rfl) (by kernel_rfl) (B3 (by rfl) T.n_range (Ab (pv 2) Ai)) (fun _ _ _ _=>(A1 (i:=0) Ao8 (by rfl) (by first | exact Or.inl rfl | exact Or.inr rfl))) (fun _ _ _ _=>Dd) (fun _ _ _ _=>(Az (Le (K:=K)) (A9 (Gi (K:=K)) (pv 1) Bm (Bg (pv 0))) (A9 (Gi (K:=K)) (pv 1) (Bg (Az Cy (pv 0) Am)) Bm))))))) Au)
    (Ag (Bj (Av Fb (pv 2) Am (A6 _)) (Al (Ay (Db Ai))) Au)
    (Ag (Bj (Av Rp (pv 1) Am (A6 _)) (Ag (Bj (Av Fb (pv 2) Am (A6 _)) (Al (Ay (Db (Ab (B4 Ai) (Ab (B4 Ai) Ai))))) Au)
    (Al (Ay (Fa (N':=["_law_letter"]) (cap:=[none]) (by rfl) (by kernel_rfl) (L4 (K:=K) (pv 0)) (fun _ _ _ _=>(A1 (i:=0) Ao9 (by rfl) (by first | exact Or.inl rfl | exact Or.inr rfl))) (fun _ _ _ _=>Dd) (fun _ _ _ _=>(B4 (Ab (pv 0) Ai))))))) Au)
    (Ag (As (i:=3) Fc (by rfl) (by first | exact Or.inl rfl | exact Or.inr rfl) (Db (Ab (A9 (Gi (K:=K)) (pv 0) (Bg Am) Bm) Ai)))
    (Ag (Bz PassesOwn.never rfl (B3 (by rfl) T.n_range (Ab (Az Ls (pv 2) Am) Ai)) (A1 (i:=4) Fc (by rfl) (by first | exact Or.inl rfl | exact Or.inr rfl)) (Al (Eg (Cz (K:=K) PySem.F.plainAttrs_list PySem.F.slot_list_append PySem.F.type_list_append B9 (pv 3) (Ab (Az (Le (K:=K)) (Az (Le (K:=K)) (A9 (Gi (K:=K)) (pv 0) Bm (Bg (pv 4))) (B4 (Ab (Az Bq (Az Cy (Ce (Cl (K:=K)) (pv 0) (pv 4) (fun _ _=>rfl)) (Ce (Cl (K:=K)) (pv 0) (Az Cy (pv 4) Am) (fun _ _=>rfl))) (pv 1)) Ai))) (A9 (Gi (K:=K)) (pv 0) (Bg (Az Cy (pv 4) Am)) Bm)) Ai)))))
    (Ag (Eg (Cz (K:=K) PySem.F.plainAttrs_list PySem.F.slot_list_append PySem.F.type_list_append B9 (pv 3) (Ab (A9 (Gi (K:=K)) (pv 0) Bm (Bg (Az Ls (pv 2) Am))) Ai)))
    (Al (Ay (pv 3)))))))))),?_⟩
   obtain⟨aw,rfl,hq⟩:=hv.sq
   have hlen:(w.map V.int).length=w.length:=List.length_map ..
   have hl4:w.length<=4:=by rcases hw with z | z | z<;>omega
   refine⟨_,rfl,aw,_,rfl,.inr hq,?_⟩
   rw [hlen]
   refine⟨_,rfl,rfl,_,rfl,?_⟩
   refine ite2 (fun h1=>?_) (fun h1=>?_)
   . have hf:fam=0:=by simpa using h1
     subst hf
     refine⟨_,rfl,_,_,rfl,rfl,_,rfl,?_⟩
     refine ite2 (fun h2=>?_) (fun h2=>?_)
     . have h3:w.length<2:=by have:(w.length:Int)<2:=by simpa using h2
                              omega
       refine⟨Nat.zero_le _,fun p hp=>?_⟩
       refine k p [] _ hp (Same.new hp) Ae ?_
       have e:An w 0=[]:=by unfold An;rw [if_pos rfl,if_pos h3]
       rw [e]
       rfl
     . have h3:¬w.length<2:=by have:¬(w.length:Int)<2:=by simpa using h2
                               omega
       have e:An w 0=(List.range w.length).map fun i=>w.take i++w.drop (i+1):=by unfold An;rw [if_pos rfl,if_neg h3]
       rw [e] at k
       refine⟨_,rfl,_,rfl,by omega,by omega,fun D hD=>?_⟩
       refine Wi (fun i ys τ H1=>i<=w.length/\Same H H1/\H1 D=some (.lst ys)/\Reps K H1 ys (((List.range i).map fun i=>w.take i++w.drop (i+1)).map tI)/\∃ o,τ=[o,some (.ref aw)])
        ⟨Nat.zero_le _,Same.new hD,Ae,rfl,none,rfl⟩ ?_ ?_
       . rintro i ys τ H1 hi ⟨hi1,s1,hD1,r1,o,rfl⟩
         have hi2:i<w.length:=by simpa using hi
         have hq1:SqT K H1 aw (w.map V.int):=s1.seqT hq
         refine⟨_,rfl,_,rfl,_,rfl,aw,_,rfl,hq1,?_,fun p1 H2 s2 q2=>?_⟩
         . rw [hlen];rintro ⟨_,z⟩
           rw [show ((0:Int)+(i:Int))=((i:Nat):Int) by omega,HT.sIx_nat] at z
           omega
         refine⟨_,rfl,_,rfl,_,_,rfl,rfl,_,rfl,aw,_,rfl,s2.seqT hq1,?_,fun p2 H3 s3 q3=>?_⟩
         . rw [hlen];rintro ⟨z,_⟩
           rw [show ((0:Int)+(i:Int)+1)=((i+1:Nat):Int) by omega,HT.sIx_nat] at z
           omega
         rw [show ((0:Int)+(i:Int))=((i:Nat):Int) by omega,Fl] at q2
         rw [show ((0:Int)+(i:Int)+1)=((i+1:Nat):Int) by omega,Lh] at q3
         refine⟨p1,p2,_,_,rfl,rfl,s3.seqT q2,q3,?_,fun p H4 s4 q4=>?_⟩
         . refine At ?_
           simp only [List.length_take,List.length_drop,List.length_map]
           omega
         have s14:Same H1 H4:=(s2.trans s3).trans s4
         have hD4:H4 D=some (.lst ys):=s14 _ _ hD1
         have t4:TI K H4 (.ref p) (w.take i++w.drop (i+1)):=by
          refine TI.mk ?_
          rw [List.map_append,List.map_take,List.map_drop]
          exact q4
         have r4:Reps K H4 ys (((List.range i).map fun i=>w.take i++w.drop (i+1)).map tI):=Reps.same s14 r1
         have hyl:ys.length=i:=by have:=r1.length;simpa using this
         refine⟨hD4,Dl (by omega),by omega,(s1.trans s14).turn hD,Ae,?_,_,rfl⟩
         rw [List.range_succ,List.map_append]
         exact Hk hD4 r4 t4
       . rintro ys τ H1 ⟨_,s1,hD1,r1,_⟩
         rw [show ((w.length:Int)).toNat=w.length by omega] at r1
         exact k D ys H1 hD s1 hD1 r1
   . have hf:¬fam=0:=by simpa using h1
     refine⟨_,rfl,rfl,_,rfl,?_⟩
     refine ite2 (fun h2=>?_) (fun h2=>?_)
     . have h3:w.length=0:=by simpa using h2
       refine⟨Nat.zero_le _,fun p hp=>?_⟩
       refine k p [] _ hp (Same.new hp) Ae ?_
       have e:An w fam=[]:=by unfold An;rw [if_neg hf,if_pos h3]
       rw [e]
       rfl
     have h3:¬w.length=0:=by simpa using h2
     refine⟨_,rfl,_,_,rfl,rfl,_,rfl,?_⟩
     refine ite2 (fun h4=>?_) (fun h4=>?_)
     . have h5:fam<0:=by simpa using h4
       refine⟨_,rfl,rfl,_,rfl,?_⟩
       refine ite2 (fun h6=>?_) (fun h6=>?_)
       . have h7:w.length=1:=by
          have:(w.length:Int)=1:=by simpa using h6
          omega
         have e:An w fam=[[],[]]:=by unfold An;rw [if_neg hf,if_neg h3,if_pos h5,if_pos h7]
         rw [e] at k
         refine⟨Nat.zero_le _,fun p1 hp1=>⟨Nat.zero_le _,fun p2 hp2=>⟨At (by simp),fun p hp=>?_⟩⟩⟩
         have s1:Same H (upd H p1 (.tup [])):=Same.new hp1
         have s2:Same (upd H p1 (.tup [])) (upd (upd H p1 (.tup [])) p2 (.tup [])):=Same.new hp2
         have s3:Same (upd (upd H p1 (.tup [])) p2 (.tup [])) (upd (upd (upd H p1 (.tup [])) p2 (.tup [])) p (.lst [.ref p1,.ref p2])):=Same.new hp
         have hp0:H p=none:=(s1.trans s2).free hp
         refine k p _ _ hp0 ((s1.trans s2).trans s3) Ae ?_
         have t1:TI K _ (.ref p1) []:=TI.mk (.of (s3 _ _ (s2 _ _ Ae)))
         have t2:TI K _ (.ref p2) []:=TI.mk (.of (s3 _ _ Ae))
         exact ⟨_,_,rfl,t1,_,_,rfl,t2,rfl⟩
       . have h7:¬w.length=1:=by
          have:¬(w.length:Int)=1:=by simpa using h6
          omega
         have e:An w fam=w.map fun l=>[l]:=by unfold An;rw [if_neg hf,if_neg h3,if_pos h5,if_neg h7]
         rw [e] at k
         refine⟨_,rfl,aw,rfl,⟨_,hq⟩,fun D hD=>?_⟩
         refine Ty (xs:=w.map V.int) (fun i ys τ H1=>i<=w.length/\Same H H1/\H1 D=some (.lst ys)/\Reps K H1 ys (((w.take i).map fun l=>[l]).map tI)/\∃ o,τ=[o])
          ⟨Nat.zero_le _,Same.new hD,Ae,rfl,none,rfl⟩ (fun i ys τ H1 _ ⟨_,s1,_⟩=>s1.seqT hq) ?_ ?_
         . rintro i x ys τ H1 hx ⟨hi1,s1,hD1,r1,o,rfl⟩
           have hi2:i<w.length:=by have:=(List.getElem?_eq_some_iff.mp hx).1;simpa using this
           have hx2:x=.int w[i]:=by
            rw [List.getElem?_map,List.getElem?_eq_getElem hi2] at hx
            simpa using hx.symm
           subst hx2
           refine⟨_,rfl,At (by simp),fun p hp=>?_⟩
           have s2:Same H1 (upd H1 p (.tup [.int w[i]])):=Same.new hp
           have hD4:=s2 _ _ hD1
           have t4:TI K (upd H1 p (.tup [.int w[i]])) (.ref p) [w[i]]:=TI.mk (.of Ae)
           have r4:=Reps.same s2 r1
           have hyl:ys.length=i:=by have:=r1.length;simp at this;omega
           refine⟨hD4,Dl (by omega),by omega,(s1.trans s2).turn hD,Ae,?_,_,rfl⟩
           have e2:(w.take (i+1)).map (fun l=>[l])=(w.take i).map (fun l=>[l])++[[w[i]]]:=by
            rw [List.take_succ,List.getElem?_eq_getElem hi2,List.map_append]
            rfl
           rw [e2]
           exact Hk hD4 r4 t4
         . rintro ys τ H1 ⟨_,s1,hD1,r1,_⟩
           rw [hlen,List.take_length] at r1
           exact k D ys H1 hD s1 hD1 r1
     have h5:¬fam<0:=by simpa using h4
     have hpos:0<fam:=by omega
     have e:An w fam=w.drop 1::((List.range (w.length-1)).map fun i=>w.take i++[(w.getD i 0+w.getD (i+1) 0)%fam]++w.drop (i+2))++[w.take (w.length-1)]:=by
      unfold An;rw [if_neg hf,if_neg h3,if_neg h5]
     rw [e] at k
     refine⟨_,rfl,_,rfl,aw,_,rfl,hq,?_,fun p1 H1 s1 q1=>⟨At (by simp),fun D hD=>?_⟩⟩
     . rw [hlen];rintro ⟨z,_⟩
       rw [show (1:Int)=((1:Nat):Int) by omega,HT.sIx_nat] at z
       omega
     rw [show (1:Int)=((1:Nat):Int) by omega,Lh] at q1
     have hD0:H D=none:=s1.free hD
     have s2:Same H1 (upd H1 D (.lst [.ref p1])):=Same.new hD
     have t1:TI K (upd H1 D (.lst [.ref p1])) (.ref p1) (w.drop 1):=by
      refine TI.mk ?_
      rw [List.map_drop]
      exact s2.seqT q1
     have hn:((w.length:Int)-1).toNat=w.length-1:=by omega
     refine⟨_,rfl,_,_,rfl,rfl,_,rfl,by omega,by omega,Bt (lo:=0) (n:=((w.length:Int)-1).toNat)
      (fun i σ H2=>∃ (ys:List V) (o:Option V),σ=[some (.ref aw),some (.int fam),some (.int w.length),some (.ref D),o]/\Same H H2/\H2 D=some (.lst ys) ∧
        Reps K H2 ys ((w.drop 1::((List.range i).map fun i=>w.take i++[(w.getD i 0+w.getD (i+1) 0)%fam]++w.drop (i+2))).map tI))
      ⟨_,none,rfl,s1.trans s2,Ae,⟨_,_,rfl,t1,rfl⟩⟩ ?_ ?_⟩
     . rintro i σ H2 hi ⟨ys,o,rfl,sH,hD2,r2⟩
       rw [hn] at hi
       have hq2:SqT K H2 aw (w.map V.int):=sH.seqT hq
       have c0:((0:Int)+(i:Int))=((i:Nat):Int):=by omega
       have c1:((0:Int)+(i:Int)+1)=((i+1:Nat):Int):=by omega
       have c2:((0:Int)+(i:Int)+2)=((i+2:Nat):Int):=by omega
       have at0:atI (w.map V.int) ((0:Int)+(i:Int))=some (.int (w.getD i 0)):=by
        rw [c0]
        refine Cb ?_
        rw [List.getElem?_map,List.getElem?_eq_getElem (by omega)]
        simp [show i<w.length by omega]
       have at1:atI (w.map V.int) ((0:Int)+(i:Int)+1)=some (.int (w.getD (i+1) 0)):=by
        rw [c1]
        refine Cb ?_
        rw [List.getElem?_map,List.getElem?_eq_getElem (by omega)]
        simp [show i+1<w.length by omega]
       refine⟨_,rfl,.inl ⟨rfl,_,SqL.of hD2⟩,?_⟩
       refine⟨_,rfl,_,rfl,_,rfl,aw,_,rfl,hq2,?_,fun pa Ha sa qa=>?_⟩
       . rw [hlen];rintro ⟨_,z⟩
         rw [c0,HT.sIx_nat] at z
         omega
       rw [c0,Fl] at qa
       refine⟨_,rfl,_,rfl,aw,_,_,_,rfl,rfl,sa.seqT hq2,at0,_,rfl,_,rfl,_,_,rfl,rfl,aw,_,_,_,rfl,rfl,sa.seqT hq2,at1,_,_,rfl,rfl,_,rfl,_,_,rfl,rfl,hpos,At (by simp),fun pb hb=>?_⟩
       have sb:Same Ha (upd Ha pb (.tup [.int ((w.getD i 0+w.getD (i+1) 0)%fam)])):=Same.new hb
       refine⟨pa,pb,_,_,rfl,rfl,sb.seqT qa,.of Ae,At (by simp;omega),fun pc Hc sc qc=>?_⟩
       have sac:=(sa.trans sb).trans sc
       refine⟨_,rfl,_,rfl,_,_,rfl,rfl,_,rfl,aw,_,rfl,sac.seqT hq2,?_,fun pd Hd sd qd=>?_⟩
       . rw [hlen];rintro ⟨z,_⟩
         rw [c2,HT.sIx_nat] at z
         omega
       rw [c2,Lh] at qd
       refine⟨pc,pd,_,_,rfl,rfl,sd.seqT qc,qd,At (by simp;omega),fun pe He se qe=>?_⟩
       have sall:=(sac.trans sd).trans se
       have hDe:=sall _ _ hD2
       have te:TI K He (.ref pe) (w.take i++[(w.getD i 0+w.getD (i+1) 0)%fam]++w.drop (i+2)):=by
        refine TI.mk ?_
        simp only [List.map_append,List.map_take,List.map_drop,List.map_cons,List.map_nil]
        exact qe
       have hyl:ys.length=i+1:=by have:=r2.length;simpa using this
       refine⟨D,_,_,rfl,rfl,hDe,Dl (by omega),?_⟩
       refine⟨_,_,rfl,(sH.trans sall).turn hD0,Ae,?_⟩
       have e3:(w.drop 1::((List.range (i+1)).map fun i=>w.take i++[(w.getD i 0+w.getD (i+1) 0)%fam]++w.drop (i+2))) =
        (w.drop 1::((List.range i).map fun i=>w.take i++[(w.getD i 0+w.getD (i+1) 0)%fam]++w.drop (i+2)))++[w.take i++[(w.getD i 0+w.getD (i+1) 0)%fam]++w.drop (i+2)]:=by
        rw [List.range_succ,List.map_append]
        rfl
       rw [e3]
       exact Hk hDe (Reps.same sall r2) te
     . rintro σ H2 ⟨ys,o,rfl,sH,hD2,r2⟩
       rw [hn] at r2
       have hq2:SqT K H2 aw (w.map V.int):=sH.seqT hq
       have c1:((w.length:Int)-1)=((w.length-1:Nat):Int):=by omega
       refine⟨_,rfl,.inl ⟨rfl,_,SqL.of hD2⟩,_,rfl,_,rfl,_,_,rfl,rfl,_,rfl,aw,_,rfl,hq2,?_,fun pa Ha sa qa=>?_⟩
       . rw [hlen];rintro ⟨_,z⟩
         rw [c1,HT.sIx_nat] at z
         omega
       rw [c1,Fl] at qa
       have hDa:=sa _ _ hD2
       have ta:TI K Ha (.ref pa) (w.take (w.length-1)):=by
        refine TI.mk ?_
        rw [List.map_take]
        exact qa
       have hyl:ys.length=w.length:=by have:=r2.length;simp at this;omega
       refine⟨D,_,_,rfl,rfl,hDa,Dl (by omega),?_⟩
       refine⟨_,rfl,?_⟩
       exact k D _ _ hD0 ((sH.trans sa).turn hD0) Ae (Hk hDa (Reps.same sa r2) ta)
abbrev C1:Stmt:=top 35
theorem Q2:FnScope ["_law_cell","_law_family","_law_letters","_law_size","_law_base","_law_word","_law_k"] ["_law_cell","_law_family","_law_letters"] (Ak C1):=⟨rfl,rfl,rfl,by decide +kernel,rfl,by decide +kernel,by decide +kernel⟩
theorem Bc:(["_law_cell","_law_family","_law_letters","_law_size","_law_base","_law_word","_law_k"]:List Str).Nodup:=by decide +kernel
theorem Rs {f:Addr}{fd:FuncData} (F:Fun K "_law_word_by" "_law_word_by" C1 f fd) (T:Txt K mg Aj Ad Ah Af Ac) :FnOk P w K mg base CX0 1 f fd ["_law_cell","_law_family","_law_letters"] (Ft K):=by
 refine F.ok Q2 (fun vs H Q E h=>?_) (fun B5 A outer s H vs Q E hr h=>?_)
 . obtain⟨c,fam,letters,rfl,hl0,hl1,hf,k⟩:=h
   rfl
 . obtain⟨c,fam,letters,rfl,hl0,hl1,hf,k⟩:=h
   refine⟨_,(Ag (As (i:=0) Bc (by rfl) (by first | exact Or.inl rfl | exact Or.inr rfl) (Az Bq (pv 0) Am))
    (Ag (As (i:=3) Bc (by rfl) (by first | exact Or.inl rfl | exact Or.inr rfl) (Az Bq (pv 0) Am))
    (Ag (As (i:=4) Bc (by rfl) (by first | exact Or.inl rfl | exact Or.inr rfl) (pv 2))
    (Ag (Bj (Av Fb (pv 1) Am (A6 _)) (Al (As (i:=3) Bc (by rfl) (by first | exact Or.inl rfl | exact Or.inr rfl) (Az Cy (pv 3) Am))) Au)
    (Ag (Bj (PW.pt (Rf (Av Rp (pv 1) Am (A6 _)) (Lp (Av X2 (pv 3) Am (A6 _))))) (Al (As (i:=3) Bc (by rfl) (by first | exact Or.inl rfl | exact Or.inr rfl) Am)) Au)
    (Ag (Bj (Av r6 (pv 1) Am (A6 _)) (Al (As (i:=4) Bc (by rfl) (by first | exact Or.inl rfl | exact Or.inr rfl) (pv 1))) Au)
    (Ag (As (i:=0) Bc (by rfl) (by first | exact Or.inl rfl | exact Or.inr rfl) (Az D4 (pv 0) Am))
    (Ag (As (i:=5) Bc (by rfl) (by first | exact Or.inl rfl | exact Or.inr rfl) (B4 Ai))
    (Ag (Bz PassesOwn.never rfl (B3 (by rfl) T.n_range (Ab (pv 3) Ai)) (A1 (i:=6) Bc (by rfl) (by first | exact Or.inl rfl | exact Or.inr rfl)) (Ag (As (i:=5) Bc (by rfl) (by first | exact Or.inl rfl | exact Or.inr rfl) (Az (Le (K:=K)) (pv 5) (B4 (Ab (Az Bq (pv 0) (pv 4)) Ai))))
    (Al (As (i:=0) Bc (by rfl) (by first | exact Or.inl rfl | exact Or.inr rfl) (Az D4 (pv 0) (pv 4))))))
    (Al (Ay (pv 5)))))))))))),?_⟩
   have m1:0<=c%1000000%4:=Int.emod_nonneg _ (by decide)
   have m2:c%1000000%4<4:=Int.emod_lt_of_pos _ (by decide)
   refine⟨_,rfl,_,_,rfl,rfl,(by show (0:Int)<1000000;decide),?_⟩
   refine⟨_,rfl,_,_,rfl,rfl,(by show (0:Int)<4;decide),?_⟩
   refine⟨_,rfl,?_⟩
   have fork:(fam=0)\/(fam<0/\c%1000000%4=1)\/(fam<0/\¬c%1000000%4=1)\/0<fam:=by omega
   have nofam:¬fam=0->¬(decide (V.int fam=V.int 0)=true):=fun z q=>z (by simpa using q)
   have isfam:fam=0->decide (V.int fam=V.int 0)=true:=fun z=>by simp [z]
   have hb0:0<letters:=hl0
   have hb1:letters<1073741824:=by omega
   rcases fork with hz|⟨hz,h1⟩|⟨hz,h1⟩ | hz
   . refine⟨_,rfl,rfl,_,rfl,?_⟩
     refine ifP (isfam hz) ?_
     refine⟨_,rfl,_,_,rfl,rfl,?_⟩
     refine⟨_,rfl,_,_,rfl,rfl,_,rfl,?_⟩
     refine ifN (by simp;omega) ?_
     refine ifN (by simp) ?_
     refine⟨_,rfl,_,_,rfl,rfl,_,rfl,?_⟩
     refine ifN (by simp;omega) ?_
     have hW:∀ w:List Int,w.length=(c%1000000%4+1).toNat->Word fam w:=fun w e=>.inl ⟨hz,by omega,by omega⟩
     refine⟨_,rfl,_,_,rfl,rfl,⟨by decide,by decide⟩,Nat.zero_le _,fun p0 hp0=>?_⟩
     refine⟨_,rfl,_,rfl,by omega,by omega,?_⟩
     refine Bt (lo:=0) (n:=(c%1000000%4+1:Int).toNat)
      (fun i σ H2=>∃ (c':Int) (v:V) (o:Option V) (w:List Int),σ=[some (.int c'),some (.int fam),some (.int letters),some (.int (c%1000000%4+1)),some (.int letters),some v,o]/\Same H H2/\TI K H2 v w/\w.length=i)
      ⟨_,_,none,[],rfl,Same.new hp0,TI.mk (.of Ae),rfl⟩ ?_ ?_
     . rintro i σ H2 hi ⟨c',v,o,w,rfl,s2,tv,hwl⟩
       obtain⟨a,rfl,hqa⟩:=tv.sq
       refine⟨_,rfl,_,rfl,_,rfl,_,_,rfl,rfl,hb0,At (by simp),fun pt hpt=>?_⟩
       have s3:Same H2 (upd H2 pt (.tup [.int (c'%letters)])):=Same.new hpt
       refine⟨a,pt,_,_,rfl,rfl,s3.seqT hqa,.of Ae,At (by simp;omega),fun p3 H3 s4 q3=>?_⟩
       refine⟨_,rfl,_,rfl,_,_,rfl,rfl,⟨hb0,hb1⟩,?_⟩
       refine⟨_,_,_,w++[c'%letters],rfl,(s2.trans s3).trans s4,TI.mk ?_,by simp [hwl]⟩
       rw [List.map_append]
       exact q3
     . rintro σ H2 ⟨c',v,o,w,rfl,s2,tv,hwl⟩
       exact ⟨_,rfl,k v H2 w s2 tv (hW w hwl)⟩
   . refine⟨_,rfl,rfl,_,rfl,?_⟩
     refine ifN (nofam (by omega)) ?_
     refine⟨_,rfl,_,_,rfl,rfl,_,rfl,?_⟩
     refine ifP (by simp;omega) ?_
     refine⟨_,rfl,rfl,_,rfl,?_⟩
     refine ifN (eqI h1) ?_
     refine⟨_,rfl,_,_,rfl,rfl,_,rfl,?_⟩
     refine ifN (by simp;omega) ?_
     have hW:∀ w:List Int,w.length=(c%1000000%4).toNat->Word fam w:=fun w e=>.inr (.inl ⟨hz,by omega⟩)
     refine⟨_,rfl,_,_,rfl,rfl,⟨by decide,by decide⟩,Nat.zero_le _,fun p0 hp0=>?_⟩
     refine⟨_,rfl,_,rfl,by omega,by omega,?_⟩
     refine Bt (lo:=0) (n:=(c%1000000%4:Int).toNat)
      (fun i σ H2=>∃ (c':Int) (v:V) (o:Option V) (w:List Int),σ=[some (.int c'),some (.int fam),some (.int letters),some (.int (c%1000000%4)),some (.int letters),some v,o]/\Same H H2/\TI K H2 v w/\w.length=i)
      ⟨_,_,none,[],rfl,Same.new hp0,TI.mk (.of Ae),rfl⟩ ?_ ?_
     . rintro i σ H2 hi ⟨c',v,o,w,rfl,s2,tv,hwl⟩
       obtain⟨a,rfl,hqa⟩:=tv.sq
       refine⟨_,rfl,_,rfl,_,rfl,_,_,rfl,rfl,hb0,At (by simp),fun pt hpt=>?_⟩
       have s3:Same H2 (upd H2 pt (.tup [.int (c'%letters)])):=Same.new hpt
       refine⟨a,pt,_,_,rfl,rfl,s3.seqT hqa,.of Ae,At (by simp;omega),fun p3 H3 s4 q3=>?_⟩
       refine⟨_,rfl,_,rfl,_,_,rfl,rfl,⟨hb0,hb1⟩,?_⟩
       refine⟨_,_,_,w++[c'%letters],rfl,(s2.trans s3).trans s4,TI.mk ?_,by simp [hwl]⟩
       rw [List.map_append]
       exact q3
     . rintro σ H2 ⟨c',v,o,w,rfl,s2,tv,hwl⟩
       exact ⟨_,rfl,k v H2 w s2 tv (hW w hwl)⟩
   . refine⟨_,rfl,rfl,_,rfl,?_⟩
     refine ifN (nofam (by omega)) ?_
     refine⟨_,rfl,_,_,rfl,rfl,_,rfl,?_⟩
     refine ifP (by simp;omega) ?_
     refine⟨_,rfl,rfl,_,rfl,?_⟩
     refine ifP (neI h1) ?_
     refine⟨_,rfl,_,_,rfl,rfl,_,rfl,?_⟩
     refine ifN (by simp;omega) ?_
     have hW:∀ w:List Int,w.length=(3:Int).toNat->Word fam w:=fun w e=>.inr (.inl ⟨hz,.inr (.inr e)⟩)
     refine⟨_,rfl,_,_,rfl,rfl,⟨by decide,by decide⟩,Nat.zero_le _,fun p0 hp0=>?_⟩
     refine⟨_,rfl,_,rfl,by omega,by omega,?_⟩
     refine Bt (lo:=0) (n:=(3:Int).toNat)
      (fun i σ H2=>∃ (c':Int) (v:V) (o:Option V) (w:List Int),σ=[some (.int c'),some (.int fam),some (.int letters),some (.int (3)),some (.int letters),some v,o]/\Same H H2/\TI K H2 v w/\w.length=i)
      ⟨_,_,none,[],rfl,Same.new hp0,TI.mk (.of Ae),rfl⟩ ?_ ?_
     . rintro i σ H2 hi ⟨c',v,o,w,rfl,s2,tv,hwl⟩
       obtain⟨a,rfl,hqa⟩:=tv.sq
       refine⟨_,rfl,_,rfl,_,rfl,_,_,rfl,rfl,hb0,At (by simp),fun pt hpt=>?_⟩
       have s3:Same H2 (upd H2 pt (.tup [.int (c'%letters)])):=Same.new hpt
       refine⟨a,pt,_,_,rfl,rfl,s3.seqT hqa,.of Ae,At (by simp;omega),fun p3 H3 s4 q3=>?_⟩
       refine⟨_,rfl,_,rfl,_,_,rfl,rfl,⟨hb0,hb1⟩,?_⟩
       refine⟨_,_,_,w++[c'%letters],rfl,(s2.trans s3).trans s4,TI.mk ?_,by simp [hwl]⟩
       rw [List.map_append]
       exact q3
     . rintro σ H2 ⟨c',v,o,w,rfl,s2,tv,hwl⟩
       exact ⟨_,rfl,k v H2 w s2 tv (hW w hwl)⟩
   . refine⟨_,rfl,rfl,_,rfl,?_⟩
     refine ifN (nofam (by omega)) ?_
     refine⟨_,rfl,_,_,rfl,rfl,_,rfl,?_⟩
     refine ifN (by simp;omega) ?_
     refine ifN (by simp) ?_
     refine⟨_,rfl,_,_,rfl,rfl,_,rfl,?_⟩
     refine ifP (by simp;omega) ?_
     refine⟨_,rfl,?_⟩
     have hW:∀ w:List Int,w.length=(c%1000000%4).toNat->Word fam w:=fun w e=>.inr (.inr ⟨hz,by omega⟩)
     have hb0:0<fam:=hz
     have hb1:fam<1073741824:=by omega
     refine⟨_,rfl,_,_,rfl,rfl,⟨by decide,by decide⟩,Nat.zero_le _,fun p0 hp0=>?_⟩
     refine⟨_,rfl,_,rfl,by omega,by omega,?_⟩
     refine Bt (lo:=0) (n:=(c%1000000%4:Int).toNat)
      (fun i σ H2=>∃ (c':Int) (v:V) (o:Option V) (w:List Int),σ=[some (.int c'),some (.int fam),some (.int letters),some (.int (c%1000000%4)),some (.int fam),some v,o]/\Same H H2/\TI K H2 v w/\w.length=i)
      ⟨_,_,none,[],rfl,Same.new hp0,TI.mk (.of Ae),rfl⟩ ?_ ?_
     . rintro i σ H2 hi ⟨c',v,o,w,rfl,s2,tv,hwl⟩
       obtain⟨a,rfl,hqa⟩:=tv.sq
       refine⟨_,rfl,_,rfl,_,rfl,_,_,rfl,rfl,hb0,At (by simp),fun pt hpt=>?_⟩
       have s3:Same H2 (upd H2 pt (.tup [.int (c'%fam)])):=Same.new hpt
       refine⟨a,pt,_,_,rfl,rfl,s3.seqT hqa,.of Ae,At (by simp;omega),fun p3 H3 s4 q3=>?_⟩
       refine⟨_,rfl,_,rfl,_,_,rfl,rfl,⟨hb0,hb1⟩,?_⟩
       refine⟨_,_,_,w++[c'%fam],rfl,(s2.trans s3).trans s4,TI.mk ?_,by simp [hwl]⟩
       rw [List.map_append]
       exact q3
     . rintro σ H2 ⟨c',v,o,w,rfl,s2,tv,hwl⟩
       exact ⟨_,rfl,k v H2 w s2 tv (hW w hwl)⟩
abbrev C4:Stmt:=top 38
theorem Q5:FnScope ["_law_cell","_law_some"] ["_law_cell"] (Ak C4):=⟨rfl,rfl,rfl,by decide +kernel,rfl,by decide +kernel,by decide +kernel⟩
theorem Ku:(["_law_cell","_law_some"]:List Str).Nodup:=by decide +kernel
theorem Rv {f:Addr}{fd:FuncData} (F:Fun K "_law_sign_by" "_law_sign_by" C4 f fd) (T:Txt K mg Aj Ad Ah Af Ac) :FnOk P w K mg base CX0 1 f fd ["_law_cell"] (O2 K):=by
 refine F.ok Q5 (fun vs H Q E h=>?_) (fun B5 A outer s H vs Q E hr h=>?_)
 . obtain⟨c,rfl,k⟩:=h
   rfl
 . obtain⟨c,rfl,k⟩:=h
   refine⟨_,(Ag (As (i:=1) Ku (by rfl) (by first | exact Or.inl rfl | exact Or.inr rfl) A5)
    (Ag (As (i:=1) Ku (by rfl) (by first | exact Or.inl rfl | exact Or.inr rfl) (Az Bw (pv 1) A5))
    (Al (Ay (Ce y8 (pv 1) (Az Bq (pv 0) (Ap Cs (by rfl) T.n_len PySem.boot_len (Ab (pv 1) Ai))) (fun _ _=>rfl)))))),?_⟩
   refine⟨_,rfl,_,_,rfl,rfl,At (by decide +kernel),?_⟩
   obtain⟨z,h1,h2⟩:=Ab5 c
   have hp:(0:Int)<(signs.length:Int):=by decide +kernel
   exact ⟨_,rfl,_,rfl,_,rfl,signs,rfl,At (by decide +kernel),_,_,rfl,rfl,hp,signs,_,z,rfl,rfl,At (by decide +kernel),h1,k z h2⟩
abbrev C5:Stmt:=top 40
theorem Q6:FnScope ["_law_word","_law_sign"] ["_law_word"] (Ak C5):=⟨rfl,rfl,rfl,by decide +kernel,rfl,by decide +kernel,by decide +kernel⟩
theorem Sl:(["_law_word","_law_sign"]:List Str).Nodup:=by decide +kernel
theorem Rw {f:Addr}{fd:FuncData} (F:Fun K "_law_name_is" "_law_name_is" C5 f fd) (T:Txt K mg Aj Ad Ah Af Ac) :FnOk P w K mg base CX0 1 f fd ["_law_word"] (Jj K):=by
 refine F.ok Q6 (fun vs H Q E h=>?_) (fun B5 A outer s H vs Q E hr h=>?_)
 . obtain⟨x,rfl,hx,k⟩:=h
   rfl
 . obtain⟨x,rfl,hx,k⟩:=h
   refine⟨_,(Ag (Bj (PW.pt (Xv (Av Rp (Ap Cs (by rfl) T.n_len PySem.boot_len (Ab (pv 0) Ai)) Am (A6 _)) (Re (Av r6 (Ap Cs (by rfl) T.n_len PySem.boot_len (Ab (pv 0) Ai)) Am (A6 _))))) (Al (Ay Fr)) Au)
    (Ag (Bz PassesOwn.never rfl (x9 (pv 0)) (A1 (i:=1) Sl (by rfl) (by first | exact Or.inl rfl | exact Or.inr rfl)) (Al (Bj (Av Z8 (pv 1) A5 rfl) (Al (Ay Fr)) Au)))
    (Al (Ay Fr)))),?_⟩
   have hz:x.length<=sizeLine:=At (by have:=hx.2;omega)
   have no:∀ H',Same H H'->Dm x=false->Q (.bl false) H':=fun H' s e=>by
    have q:=k H' s
    rw [e] at q
    exact q
   refine Ao (t:=tIfS _ _ _) (fun σ' H'=>σ'=[some (.str x),none]/\H=H'/\1<=x.length/\x.length<=8) ?_ fun key=>?_
   rotate_left
   . refine⟨_,rfl,x,rfl,hz,_,_,rfl,rfl,_,rfl,?_⟩
     refine ite2 (fun h1=>?_) (fun h1=>?_)
     . refine ifP rfl ?_
       refine no _ (Same.refl H) ?_
       have h2:¬1<=x.length:=by
        have:(x.length:Int)<1:=by simpa using h1
        omega
       unfold Dm
       rw [decide_eq_false h2]
       rfl
     refine⟨_,rfl,x,rfl,hz,_,_,rfl,rfl,_,rfl,?_⟩
     refine ite2 (fun h2=>?_) (fun h2=>?_)
     . refine no _ (Same.refl H) ?_
       have h3:¬x.length<=8:=by
        have:(8:Int)<(x.length:Int):=by simpa using h2
        omega
       unfold Dm
       rw [decide_eq_false h3]
       simp
     have a1:¬(x.length:Int)<1:=by simpa using h1
     have a2:¬(8:Int)<(x.length:Int):=by simpa using h2
     exact key _ _ ⟨rfl,rfl,by omega,by omega⟩
   rintro _ _ ⟨rfl,rfl,p1,p2⟩
   have en:Dm x=x.cps.toList.all fun c=>decide (97<=c)&&decide (c<=122):=by
    unfold Dm
    rw [decide_eq_true p1,decide_eq_true p2]
    rfl
   refine Ao (fun σ' H'=>∃ o1,σ'=[some (.str x),o1]/\H=H'/\Dm x=true) ?_ fun key=>?_
   rotate_left
   . refine⟨_,rfl,x,rfl,hx.all,?_⟩
     refine Af4 (x:=x) (fun i σ G=>∃ o1,σ=[some (.str x),o1]/\H=G/\((x.cps.toList.take i).all fun c=>decide (97<=c)&&decide (c<=122))=true) ⟨none,rfl,rfl,rfl⟩ ?_ ?_
     . rintro i c σ G hc ⟨o1,rfl,rfl,hall⟩
       have hcl:x.cps.toList[i]?=some c:=by rw [Array.getElem?_toList];exact hc
       refine⟨_,rfl,c,_,rfl,rfl,_,rfl,?_⟩
       rw [Am0]
       cases hb:(decide (97<=c)&&decide (c<=122)) with
       | false =>
         refine ifP rfl ?_
         refine no _ (Same.refl H) ?_
         rw [en]
         exact List.all_eq_false.mpr ⟨c,List.mem_of_getElem? hcl,by rw [hb];decide⟩
       | true =>
         refine ifN (by decide) ?_
         refine⟨_,rfl,rfl,?_⟩
         rw [List.take_add_one,hcl,List.all_append,hall]
         show (true&&((decide (97<=c)&&decide (c<=122))&&true))=true
         rw [hb]
         rfl
     . rintro σ G ⟨o1,rfl,rfl,hall⟩
       rw [←Array.length_toList,List.take_length] at hall
       exact key _ _ ⟨o1,rfl,rfl,by rw [en];exact hall⟩
   rintro _ _ ⟨o1,rfl,rfl,e⟩
   have q:=k _ (Same.refl H)
   rw [e] at q
   exact q
abbrev Er:Stmt:=top 42
theorem Xu:FnScope ["_law_error","_law_many"] ["_law_error"] (Ak Er):=⟨rfl,rfl,rfl,by decide +kernel,rfl,by decide +kernel,by decide +kernel⟩
theorem N8:(["_law_error","_law_many"]:List Str).Nodup:=by decide +kernel
theorem X7 {f:Addr}{fd:FuncData} (F:Fun K "_law_alone" "_law_alone" Er f fd) (T:Txt K mg Aj Ad Ah Af Ac) :Ag9 P w K mg base 1 f fd ["_law_error"] (Lj K Ah Af Ad Ac):=by
 refine F.okN Xu (fun vs H Q E h=>?_) (fun B5 A outer s H vs Q E hr h=>?_)
 . obtain⟨e,C,o,rfl,he,hc,k⟩:=h
   rfl
 . obtain⟨e,C,o,rfl,he,hc,k⟩:=h
   refine⟨_,(Ag (As (i:=1) N8 (by rfl) (by first | exact Or.inl rfl | exact Or.inr rfl) (Az Cy (Az Cy (Cv Jb (by rfl) T.n_int boot_intT (Ab (Ap (Kn (Du (K:=K)) (Dv (K:=K))) (by rfl) T.n_isinstance Aq (Ab (pv 0) (Ab (E9 (v:=.ref Ah) (by rfl) T.m_NoText rfl) Ai))) Ai)) (Cv Jb (by rfl) T.n_int boot_intT (Ab (Ap (Kn (Du (K:=K)) (Dv (K:=K))) (by rfl) T.n_isinstance Aq (Ab (pv 0) (Ab (E9 (v:=.ref Af) (by rfl) T.m_NoName rfl) Ai))) Ai))) (Cv Jb (by rfl) T.n_int boot_intT (Ab (Ap (Kn (Du (K:=K)) (Dv (K:=K))) (by rfl) T.n_isinstance Aq (Ab (pv 0) (Ab (E9 (v:=.ref Ad) (by rfl) T.m_NoShape rfl) Ai))) Ai))))
    (Ag (As (i:=1) N8 (by rfl) (by first | exact Or.inl rfl | exact Or.inr rfl) (Az Cy (pv 1) (Cv Jb (by rfl) T.n_int boot_intT (Ab (Ap (Kn (Du (K:=K)) (Dv (K:=K))) (by rfl) T.n_isinstance Aq (Ab (pv 0) (Ab (E9 (v:=.ref Ac) (by rfl) T.m_NoPiece rfl) Ai))) Ai))))
    (Al (Ay (Ip (Ju Fb (pv 1) Am (A6 _)) (Ip (Ap (Kn (Du (K:=K)) (Dv (K:=K))) (by rfl) T.n_isinstance Aq (Ab (pv 0) (Ab (E9 (v:=.ref Aj) (by rfl) T.m_HoleError rfl) Ai))) (Im (Ap (Kn (Du (K:=K)) (Dv (K:=K))) (by rfl) T.n_isinstance Aq (Ab (pv 0) (Ab (D3 (v:=.ty "ValueError") rfl T.n_ValueError K9 rfl) Ai)))))))))),?_⟩
   rcases hc with ⟨rfl,rfl⟩|⟨rfl,rfl⟩|⟨rfl,rfl⟩|⟨rfl,d,rfl⟩
   . have step:True:=trivial
     refine Ao (fun σ' H'=>σ'=[some (.ref e),some (.int 1)]/\H=H') ?_ fun key=>?_
     rotate_left
     . exact ⟨_,rfl,.inl ⟨e,_,_,_,_,rfl,rfl,Be,he,T.x_NoText,T.i_NoText_NoText,.inr ⟨_,rfl,_,rfl,.inl ⟨e,_,_,_,_,rfl,rfl,Be,he,T.x_NoText,T.i_NoText_NoName,.inr ⟨_,rfl,_,_,rfl,rfl,_,rfl,.inl ⟨e,_,_,_,_,rfl,rfl,Be,he,T.x_NoText,T.i_NoText_NoShape,.inr ⟨_,rfl,_,_,rfl,rfl,key _ _ ⟨rfl,rfl⟩⟩⟩⟩⟩⟩⟩⟩
     rintro _ _ ⟨rfl,rfl⟩
     refine Ao (fun σ' H'=>σ'=[some (.ref e),some (.int 1)]/\H=H') ?_ fun key=>?_
     rotate_left
     . exact ⟨_,rfl,_,rfl,.inl ⟨e,_,_,_,_,rfl,rfl,Be,he,T.x_NoText,T.i_NoText_NoPiece,.inr ⟨_,rfl,_,_,rfl,rfl,key _ _ ⟨rfl,rfl⟩⟩⟩⟩
     rintro _ _ ⟨rfl,rfl⟩
     refine⟨_,rfl,rfl,_,rfl,?_⟩
     refine ifP (by simp) ?_
     refine⟨_,rfl,.inl ⟨e,_,_,_,_,rfl,rfl,Be,he,T.x_NoText,T.i_NoText_HoleError,_,rfl,?_⟩⟩
     refine ifP rfl ?_
     exact ⟨_,rfl,.inl ⟨e,_,_,_,_,rfl,rfl,Ov,he,T.x_NoText,T.iv_NoText,k⟩⟩
   . have step:True:=trivial
     refine Ao (fun σ' H'=>σ'=[some (.ref e),some (.int 1)]/\H=H') ?_ fun key=>?_
     rotate_left
     . exact ⟨_,rfl,.inl ⟨e,_,_,_,_,rfl,rfl,Be,he,T.x_NoName,T.i_NoName_NoText,.inr ⟨_,rfl,_,rfl,.inl ⟨e,_,_,_,_,rfl,rfl,Be,he,T.x_NoName,T.i_NoName_NoName,.inr ⟨_,rfl,_,_,rfl,rfl,_,rfl,.inl ⟨e,_,_,_,_,rfl,rfl,Be,he,T.x_NoName,T.i_NoName_NoShape,.inr ⟨_,rfl,_,_,rfl,rfl,key _ _ ⟨rfl,rfl⟩⟩⟩⟩⟩⟩⟩⟩
     rintro _ _ ⟨rfl,rfl⟩
     refine Ao (fun σ' H'=>σ'=[some (.ref e),some (.int 1)]/\H=H') ?_ fun key=>?_
     rotate_left
     . exact ⟨_,rfl,_,rfl,.inl ⟨e,_,_,_,_,rfl,rfl,Be,he,T.x_NoName,T.i_NoName_NoPiece,.inr ⟨_,rfl,_,_,rfl,rfl,key _ _ ⟨rfl,rfl⟩⟩⟩⟩
     rintro _ _ ⟨rfl,rfl⟩
     refine⟨_,rfl,rfl,_,rfl,?_⟩
     refine ifP (by simp) ?_
     refine⟨_,rfl,.inl ⟨e,_,_,_,_,rfl,rfl,Be,he,T.x_NoName,T.i_NoName_HoleError,_,rfl,?_⟩⟩
     refine ifP rfl ?_
     exact ⟨_,rfl,.inl ⟨e,_,_,_,_,rfl,rfl,Ov,he,T.x_NoName,T.iv_NoName,k⟩⟩
   . have step:True:=trivial
     refine Ao (fun σ' H'=>σ'=[some (.ref e),some (.int 1)]/\H=H') ?_ fun key=>?_
     rotate_left
     . exact ⟨_,rfl,.inl ⟨e,_,_,_,_,rfl,rfl,Be,he,T.x_NoShape,T.i_NoShape_NoText,.inr ⟨_,rfl,_,rfl,.inl ⟨e,_,_,_,_,rfl,rfl,Be,he,T.x_NoShape,T.i_NoShape_NoName,.inr ⟨_,rfl,_,_,rfl,rfl,_,rfl,.inl ⟨e,_,_,_,_,rfl,rfl,Be,he,T.x_NoShape,T.i_NoShape_NoShape,.inr ⟨_,rfl,_,_,rfl,rfl,key _ _ ⟨rfl,rfl⟩⟩⟩⟩⟩⟩⟩⟩
     rintro _ _ ⟨rfl,rfl⟩
     refine Ao (fun σ' H'=>σ'=[some (.ref e),some (.int 1)]/\H=H') ?_ fun key=>?_
     rotate_left
     . exact ⟨_,rfl,_,rfl,.inl ⟨e,_,_,_,_,rfl,rfl,Be,he,T.x_NoShape,T.i_NoShape_NoPiece,.inr ⟨_,rfl,_,_,rfl,rfl,key _ _ ⟨rfl,rfl⟩⟩⟩⟩
     rintro _ _ ⟨rfl,rfl⟩
     refine⟨_,rfl,rfl,_,rfl,?_⟩
     refine ifP (by simp) ?_
     refine⟨_,rfl,.inl ⟨e,_,_,_,_,rfl,rfl,Be,he,T.x_NoShape,T.i_NoShape_HoleError,_,rfl,?_⟩⟩
     refine ifP rfl ?_
     exact ⟨_,rfl,.inl ⟨e,_,_,_,_,rfl,rfl,Ov,he,T.x_NoShape,T.iv_NoShape,k⟩⟩
   . have step:True:=trivial
     refine Ao (fun σ' H'=>σ'=[some (.ref e),some (.int 0)]/\H=H') ?_ fun key=>?_
     rotate_left
     . exact ⟨_,rfl,.inr ⟨e,_,d,_,_,_,rfl,rfl,Be,he,T.x_NoPiece,T.i_NoPiece_NoText,.inr ⟨_,rfl,_,rfl,.inr ⟨e,_,d,_,_,_,rfl,rfl,Be,he,T.x_NoPiece,T.i_NoPiece_NoName,.inr ⟨_,rfl,_,_,rfl,rfl,_,rfl,.inr ⟨e,_,d,_,_,_,rfl,rfl,Be,he,T.x_NoPiece,T.i_NoPiece_NoShape,.inr ⟨_,rfl,_,_,rfl,rfl,key _ _ ⟨rfl,rfl⟩⟩⟩⟩⟩⟩⟩⟩
     rintro _ _ ⟨rfl,rfl⟩
     refine Ao (fun σ' H'=>σ'=[some (.ref e),some (.int 1)]/\H=H') ?_ fun key=>?_
     rotate_left
     . exact ⟨_,rfl,_,rfl,.inr ⟨e,_,d,_,_,_,rfl,rfl,Be,he,T.x_NoPiece,T.i_NoPiece_NoPiece,.inr ⟨_,rfl,_,_,rfl,rfl,key _ _ ⟨rfl,rfl⟩⟩⟩⟩
     rintro _ _ ⟨rfl,rfl⟩
     refine⟨_,rfl,rfl,_,rfl,?_⟩
     refine ifP (by simp) ?_
     refine⟨_,rfl,.inr ⟨e,_,d,_,_,_,rfl,rfl,Be,he,T.x_NoPiece,T.i_NoPiece_HoleError,_,rfl,?_⟩⟩
     refine ifP rfl ?_
     exact ⟨_,rfl,.inr ⟨e,_,d,_,_,_,rfl,rfl,Ov,he,T.x_NoPiece,T.iv_NoPiece,k⟩⟩
abbrev Bn:Stmt:=top 8
theorem Jo:FnScope ["thing","bound"] ["thing","bound"] (Ak Bn):=⟨rfl,rfl,rfl,by decide +kernel,rfl,by decide +kernel,by decide +kernel⟩
theorem Jv {f:Addr}{fd:FuncData} (F:Fun K "is_whole_below" "is_whole_below" Bn f fd) (T:Txt K mg Aj Ad Ah Af Ac) (Ka:Has P w K mg base "is_whole" ["thing"] 1 (E5 K)):FnOk P w K mg base CX0 2 f fd ["thing","bound"] (C0 K):=by
 refine F.ok Jo (fun vs H Q E h=>?_) (fun B5 A outer s H vs Q E hr h=>?_)
 . obtain⟨x,d,b,rfl,hx,k⟩:=h
   rfl
 . obtain⟨x,d,b,rfl,hx,k⟩:=h
   refine⟨_,(Al (Ay (Ip (Aw Ka hr (by rfl) (Ab (pv 0) Ai)) (Im (Pl a6 Rp Am (pv 0) (pv 1)))))),?_⟩
   refine⟨_,rfl,x,d,rfl,hx,_,rfl,?_⟩
   refine ite2 (fun e=>?_) (fun e=>?_)
   . obtain⟨i,rfl⟩:=N2 e
     cases (show x=.int i from hx)
     refine⟨_,rfl,_,_,rfl,rfl,_,rfl,?_⟩
     refine ite2 (fun e1=>?_) (fun e1=>?_)
     . refine⟨_,rfl,_,_,rfl,rfl,?_⟩
       have e2:T9 (.int i) b=decide (i<b):=by show (decide (0<=i)&&decide (i<b))=_;rw [e1];rfl
       rw [e2] at k
       exact k
     . have e2:T9 (.int i) b=false:=by show (decide (0<=i)&&decide (i<b))=_;simp at e1;simp;omega
       rw [e2] at k
       exact k
   . have e2:T9 d b=false:=by
      cases d<;>first | rfl | (exfalso;exact e rfl)
     rw [e2] at k
     exact k
abbrev En:Stmt:=top 23
theorem Xr:FnScope ["thing","rows","row"] ["thing"] (Ak En):=⟨rfl,rfl,rfl,by decide +kernel,rfl,by decide +kernel,by decide +kernel⟩
theorem N7:(["thing","rows","row"]:List Str).Nodup:=by decide +kernel
theorem X4 {f:Addr}{fd:FuncData} (F:Fun K "rows_of" "rows_of" En f fd) (T:Txt K mg Aj Ad Ah Af Ac) (Ma:Has P w K mg base "is_name" ["word"] 1 (O5 K)):FnOk P w K mg base (CX1 P w) 2 f fd ["thing"] (O3 K Ah):=by
 refine F.okX Xr (fun vs H Q E h=>?_) (fun B5 A outer s H vs Q E hr h=>?_)
 . obtain⟨v,e,rfl,hv,ha,k1,k2,k3⟩:=h
   rfl
 . obtain⟨v,e,rfl,hv,ha,k1,k2,k3⟩:=h
   refine⟨_,(Ag (Bj (Eu (Et (Ap (Ms (K:=K)) (by rfl) T.n_isinstance Aq (Ab (pv 0) (Ab (D3 (v:=.ty "str") rfl T.n_str T2 rfl) Ai))))) (Al (Il F1 (by rfl) (by rfl) T.m_NoText T.e_NoText (Ab A5 Ai))) Au)
    (Ag (Bj (Av Fb (Ap Cs (by rfl) T.n_len PySem.boot_len (Ab (pv 0) Ai)) Am (A6 _)) (Al (Ay (Db Ai))) Au)
    (Ag (Z0 (N':=["row"]) (cap:=[none]) (i:=1) N7 (by rfl) (by first | exact Or.inl rfl | exact Or.inr rfl) (by rfl) (by kernel_rfl) (Br (K:=K) (Cz (K:=K) PySem.F.plainAttrs_str PySem.F.slot_str_split PySem.F.type_str_split F3 (pv 0) (Ab A5 Ai))) (fun _ _ _ _=>(A1 (i:=0) Ak8 (by rfl) (by first | exact Or.inl rfl | exact Or.inr rfl))) (fun _ _ _ _=>Dd) (fun _ _ _ _=>(Cz (K:=K) PySem.F.plainAttrs_str PySem.F.slot_str_split PySem.F.type_str_split F3 (pv 0) (Ab A5 Ai))))
    (Ag (Bz PassesOwn.leaving rfl (Br (K:=K) (pv 1)) (A1 (i:=2) N7 (by rfl) (by first | exact Or.inl rfl | exact Or.inr rfl)) (Al (Bj (Eu (Et (Ap (J4 (K:=K) (by rfl)) (by rfl) T.n_all Mu (Ab (Fa (N':=["word"]) (cap:=[none]) (by rfl) (by kernel_rfl) (Br (K:=K) (pv 2)) (fun _ _ _ _=>(A1 (i:=0) Ap2 (by rfl) (by first | exact Or.inl rfl | exact Or.inr rfl))) (fun _ _ _ _=>Dd) (fun _ _ _ _=>(Aw Ma hr (by rfl) (Ab (pv 0) Ai)))) Ai)))) (Al (Il F1 (by rfl) (by rfl) T.m_NoText T.e_NoText (Ab A5 Ai))) Au)))
    (Al (Ay (pv 1))))))),?_⟩
   by_cases hi:isE "str" e=true
   rotate_left
   . refine⟨_,rfl,v,"str",.one e,rfl,.inr (.inr (.inl rfl)),hv,_,rfl,?_⟩
     refine ifP (by simpa [isT] using hi) ?_
     exact ⟨At (by simp),k1 (Ra hi) H (Same.refl H)⟩
   obtain⟨x,rfl⟩:=e7 hi
   have hx:=ha x rfl
   obtain rfl:v=.str x:=hv
   have rok:=U6 hx
   have hz:x.length<=sizeLine:=At (by have:=hx.2;omega)
   refine⟨_,rfl,.str x,"str",.one (.d (.str x)),rfl,.inr (.inr (.inl rfl)),rfl,_,rfl,?_⟩
   refine ifN (fun z=>nomatch (show false=true from z)) ?_
   refine⟨_,rfl,x,rfl,hz,rfl,_,rfl,?_⟩
   refine ite2 (fun h1=>?_) (fun h1=>?_)
   . have h2:x.length=0:=by
      have:(x.length:Int)=0:=by simpa using h1
      omega
     have er:Es x=[]:=by unfold Es;rw [if_pos h2]
     refine⟨Nat.zero_le _,fun l hl=>k3 (Es x) rfl (by rw [er];rfl) (.ref l) _ (Same.new hl) ?_⟩
     rw [er]
     exact ⟨l,[],rfl,.of Ae,rfl⟩
   have h2:¬x.length=0:=by
    intro z
    rw [z] at h1
    simp at h1
   have er:Es x=(Txt.split x (Str.ofString "; ")).map fun r=>Txt.split r (Str.ofString " "):=by unfold Es;rw [if_neg h2]
   obtain⟨sp1,sp2⟩:=Ij hx (y:=Str.ofString "; ") (by decide)
   refine Fs (fun σ' H'=>σ'=[some (.str x),none,none]/\H=H') ?_ fun key0=>key0 _ _ ⟨rfl,rfl⟩
   rintro _ _ ⟨rfl,rfl⟩
   refine Ao (fun σ' H'=>∃ (D:Addr),σ'=[some (.str x),some (.ref D),none]/\Same H H'/\Rep K H' (.ref D) (Tn (Es x))) ?_ fun key=>?_
   rotate_left
   . refine⟨_,rfl,rfl,_,_,rfl,rfl,by decide +kernel,At (by have:=hx.2;omega),fun l hl=>?_⟩
     have s1:Same H (upd H l (.lst ((Txt.split x (Str.ofString "; ")).map V.str))):=Same.new hl
     have el:upd H l (.lst ((Txt.split x (Str.ofString "; ")).map V.str)) l=some (.lst ((Txt.split x (Str.ofString "; ")).map V.str)):=Ae
     generalize upd H l (.lst ((Txt.split x (Str.ofString "; ")).map V.str))=H1 at s1 el ⊢
     refine⟨l,rfl,⟨_,.of el⟩,fun D hD=>?_⟩
     refine Cr (K:=K) (a:=l) (xs:=(Txt.split x (Str.ofString "; ")).map V.str) (fun i ys τ G=>Same H1 G/\G D=some (.lst ys)/\ON (fun r=>.lst (r.map V.str)) G (·=D) ys (((Txt.split x (Str.ofString "; ")).take i).map fun r=>Txt.split r (Str.ofString " "))/\∃ o,τ=[o])
      ⟨Same.new hD,Ae,ON.nil _ _ _,none,rfl⟩ (fun i ys τ G _ ⟨s2,_⟩=>.of (s2 _ _ el)) ?_ ?_
     . rintro i y ys τ G hy ⟨s2,hD2,hN,o,rfl⟩
       rw [List.getElem?_map] at hy
       obtain⟨t,ht,rfl⟩:=Option.map_eq_some_iff.mp hy
       have hta:=sp1 t (List.mem_of_getElem? ht)
       have hil:=(List.getElem?_eq_some_iff.mp ht).1
       refine⟨_,rfl,rfl,_,_,rfl,rfl,by decide +kernel,At (by have:=hta.2;omega),fun b hb2=>?_⟩
       have nbD:b≠D:=fun z=>by rw [z,hD2] at hb2;cases hb2
       have s3:=Same.new (o:=.lst ((Txt.split t (Str.ofString " ")).map V.str)) hb2
       refine⟨by rw [Ax nbD.symm];exact hD2,Dl (by rw [hN.1,List.length_map,List.length_take];omega),(s2.trans s3).turn hD,Ae,?_,_,rfl⟩
       rw [List.take_add_one,ht,List.map_append]
       refine ((hN.keep fun c u _ e=>s3 _ _ e).snoc Ae nbD).keep fun c u n e=>by rw [Ax n];exact e
     . rintro ys τ G ⟨s2,hD2,hN,_⟩
       rw [List.length_map,List.take_length,←er] at hN
       exact key _ _ ⟨D,rfl,s1.trans s2,hN.rows hD2⟩
   rintro _ H1 ⟨D,rfl,s1,rD⟩
   obtain⟨_,us,z,hq,hul,hrow⟩:=Pf rD
   cases z
   refine Ao (fun σ' H'=>∃ o2,σ'=[some (.str x),some (.ref D),o2]/\Same H1 H'/\Gw (Es x)=true) ?_ fun key=>?_
   rotate_left
   . refine⟨_,rfl,D,rfl,⟨_,hq⟩,?_⟩
     refine for_list (K:=K) (a:=D) (xs:=us) (fun i σ G=>∃ o2,σ=[some (.str x),some (.ref D),o2]/\Same H1 G/\Gw ((Es x).take i)=true) ⟨none,rfl,Same.refl H1,rfl⟩ (fun i σ G _ ⟨_,_,s2,_⟩=>s2.seq hq) ?_ ?_
     . rintro i u σ G hu ⟨o2,rfl,s2,hg⟩
       obtain⟨b,r,rfl,hr,hb⟩:=hrow i u hu
       have hrm:=List.mem_of_getElem? hr
       obtain⟨r1,r2,r3⟩:=rok.row r hrm
       have hbG:SqL K G b (r.map V.str):=s2.seq hb
       refine⟨_,rfl,b,rfl,⟨_,hbG⟩,fun E0 hE0=>?_⟩
       refine Cr (K:=K) (a:=b) (xs:=r.map V.str) (fun j ys τ G2=>Same G G2/\G2 E0=some (.lst ys)/\ys=((r.take j).map Dm).map V.bl/\∃ o,τ=[o])
        ⟨Same.new hE0,Ae,rfl,none,rfl⟩ (fun j ys τ G2 _ ⟨s3,_⟩=>s3.seq hbG) ?_ ?_
       . rintro j y ys τ G2 hy ⟨s3,hE3,rfl,o,rfl⟩
         rw [List.getElem?_map] at hy
         obtain⟨w,hw,rfl⟩:=Option.map_eq_some_iff.mp hy
         have hjl:=(List.getElem?_eq_some_iff.mp hw).1
         refine⟨_,rfl,w,rfl,r3 w (List.mem_of_getElem? hw),fun G3 s4=>?_⟩
         refine⟨s4 _ _ hE3,Dl (by simp;omega),(s3.trans s4).turn hE0,Ae,?_,_,rfl⟩
         rw [List.take_add_one,hw,List.map_append,List.map_append]
         rfl
       . rintro ys τ G2 ⟨s3,hE3,rfl,_⟩
         rw [List.length_map,List.take_length] at hE3
         refine⟨E0,r.map Dm,rfl,.of hE3,_,rfl,?_⟩
         rw [List.all_map]
         cases hall:r.all Dm with
         | false =>
           refine ifP (by show (!(r.all Dm))=true;rw [hall];rfl) ?_
           refine⟨At (by simp),k2 (Es x) rfl ?_ G2 (s1.trans (s2.trans s3))⟩
           exact List.all_eq_false.mpr ⟨r,hrm,by rw [hall];decide⟩
         | true =>
           refine ifN (by show ¬(!(r.all Dm))=true;rw [hall];decide) ?_
           refine⟨_,rfl,s2.trans s3,?_⟩
           unfold Gw at hg ⊢
           rw [List.take_add_one,hr,List.all_append,hg]
           show (true&&(r.all Dm&&true))=true
           rw [hall]
           rfl
     . rintro σ G ⟨o2,rfl,s2,hg⟩
       rw [hul,List.take_length] at hg
       exact key _ _ ⟨o2,rfl,s2,hg⟩
   rintro _ H2 ⟨o2,rfl,s2,hg⟩
   exact ⟨_,rfl,k3 (Es x) rfl hg (.ref D) H2 (s1.trans s2) (Rep.same s2 rD)⟩
abbrev Ci:Stmt:=top 25
theorem Q1:FnScope ["rows","spots","pieces","place","row"] ["rows"] (Ak Ci):=⟨rfl,rfl,rfl,by decide +kernel,rfl,by decide +kernel,by decide +kernel⟩
theorem Ec:(["rows","spots","pieces","place","row"]:List Str).Nodup:=by decide +kernel
theorem Rr {f:Addr}{fd:FuncData} (F:Fun K "pieces_of" "pieces_of" Ci f fd) (T:Txt K mg Aj Ad Ah Af Ac) (J8:HasX P w K mg base "spot_of" ["spots","name"] 1 (O1 K Af)):FnOk P w K mg base (CX1 P w) 2 f fd ["rows"] (Ji K Af):=by
 refine F.okX Q1 (fun vs H Q E h=>?_) (fun B5 A outer s H vs Q E hr h=>?_)
 . obtain⟨v,rs,rfl,hR,rok,k1,k2⟩:=h
   rfl
 . obtain⟨v,rs,rfl,hR,rok,k1,k2⟩:=h
   have hu8:(A.deeper (PyProof.Rows.envOfC "pieces_of" (Ak Ci) s.heap.objs.size f B5)).units+8<cLine:=by have:=hr.units;omega
   refine⟨_,(Ag (As (i:=1) Ec (by rfl) (by first | exact Or.inl rfl | exact Or.inr rfl) Wx)
    (Ag (As (i:=2) Ec (by rfl) (by first | exact Or.inl rfl | exact Or.inr rfl) (Db Ai))
    (Ag (Bz PassesOwn.leaving rfl (Z5 (K:=K) (by rfl) T.n_enumerate (Ab (pv 0) Ai)) (c6 (K:=K) (n:=2) (by rfl) (Lc (A1 (i:=3) Ec (by rfl) (by first | exact Or.inl rfl | exact Or.inr rfl)) (Lc (A1 (i:=4) Ec (by rfl) (by first | exact Or.inl rfl | exact Or.inr rfl)) Z6))) (Ag (Eg (Cz (K:=K) PySem.F.plainAttrs_list PySem.F.slot_list_append PySem.F.type_list_append B9 (pv 2) (Ab (Cv (Ei (K:=K)) (by rfl) T.n_tuple C9 (Ab (q9 (N':=["name","spots"]) (cap:=[none,some 1]) rfl rfl Yw (by rfl) (by kernel_rfl) (Br (K:=K) (A9 (Ed (K:=K)) (pv 4) (Bg Am) Bm)) (fun _ _ _ _=>(A1 (i:=0) Ap0 (by rfl) (by first | exact Or.inl rfl | exact Or.inr rfl))) (fun _ _ _ _=>Dd) (fun _ _ _ _=>(Io Yx J8 hr (by rfl) (Ab (pv 1) (Ab (pv 0) Ai))))) Ai)) Ai)))
    (Ag (Bj (Av (Aj7 (u1 hu8)) (Ce (Bs (K:=K)) (pv 4) Am (fun _ _=>rfl)) (pv 1) rfl) (Al (Il F1 (by rfl) (by rfl) T.m_NoName T.e_NoName (Ab A5 Ai))) Au)
    (Al (Ac2 (u1 hu8) (pv 1) (Ce (Bs (K:=K)) (pv 4) Am (fun _ _=>rfl)) (pv 3) (by rfl))))))
    (Al (Ay (pv 2)))))),?_⟩
   obtain⟨a,us,rfl,hq0,hul,hrow⟩:=Pf hR
   have rle:=rok.le
   refine Ao (fun σ' H'=>∃ (d:Addr),σ'=[some (.ref a),some (.ref d),none,none,none]/\H d=none/\Same H H'/\H' d=some (.dK [])) ?_ fun key=>?_
   rotate_left
   . intro d hdn
     exact key _ _ ⟨d,rfl,hdn,Same.new hdn,Ae⟩
   rintro _ H1 ⟨d,rfl,hdn,s1,h1d⟩
   refine Ao (fun σ' H'=>∃ (q:Addr),σ'=[some (.ref a),some (.ref d),some (.ref q),none,none]/\H1 q=none/\Same H1 H'/\H' q=some (.lst [])) ?_ fun key=>?_
   rotate_left
   . exact ⟨Nat.zero_le _,fun q hq=>key _ _ ⟨q,rfl,hq,Same.new hq,Ae⟩⟩
   rintro _ H2 ⟨q,rfl,hq,s2,h2q⟩
   have nqd:q≠d:=fun z=>by rw [z,h1d] at hq;cases hq
   have s02:=s1.trans s2
   have hqH:H q=none:=s1.free hq
   refine Ao (fun σ' H'=>∃ (o3 o4:Option V) (ts:List V) (ns:List Str) (ps:List (List Int)),σ'=[some (.ref a),some (.ref d),some (.ref q),o3,o4]/\Same H H'/\H' q=some (.lst ts)/\ON (fun p=>.tup (p.map V.int)) H' (fun c=>c=d\/c=q) ts ps/\D6 rs rs.length ns ps) ?_ fun key=>?_
   rotate_left
   . refine⟨_,rfl,a,rfl,⟨us,s02.seq hq0⟩,?_⟩
     refine W7 (K:=K) (a:=a) (xs:=us) (fun i σ G=>∃ (o3 o4:Option V) (ts:List V) (ns:List Str) (ps:List (List Int)),σ=[some (.ref a),some (.ref d),some (.ref q),o3,o4]/\Same H G/\G q=some (.lst ts)/\ON (fun p=>.tup (p.map V.int)) G (fun c=>c=d\/c=q) ts ps/\D6 rs i ns ps/\Fm G d ns)
      ⟨none,none,[],[],[],rfl,s02,h2q,ON.nil _ _ _,D6.zero rs,⟨[],s2 _ _ h1d,Nat.le_refl _,fun w=>by rw [if_neg (by simp)];rfl⟩⟩ (fun i σ G _ ⟨_,_,_,_,_,_,s3,_⟩=>s3.seq hq0) ?_ ?_
     . rintro i u σ G p hu ⟨o3,o4,ts,ns,ps,rfl,s3,hq3,hN,hW,hSp⟩ hp
       obtain⟨b,r,rfl,hr,hb⟩:=hrow i u hu
       obtain⟨r1,r2,r3⟩:=rok.row r (List.mem_of_getElem? hr)
       have hi:=(List.getElem?_eq_some_iff.mp hr).1
       have sp:Same G (upd G p (.tup [.int i,.ref b])):=Same.new hp
       refine⟨p,_,rfl,.of Ae,rfl,_,_,rfl,_,_,rfl,rfl,?_⟩
       generalize upd G p (.tup [.int i,.ref b])=G1 at sp ⊢
       have s31:=s3.trans sp
       have hq1:=sp _ _ hq3
       have hSp1:=hSp.same sp
       have hN1:=hN.keep fun c o _ e=>sp c o e
       have dsome:∃ A0,G1 d=some (.dK A0):=by obtain⟨A0,e,_⟩:=hSp1;exact ⟨A0,e⟩
       refine Ao (fun σ' H'=>∃ t:Addr,σ'=[some (.ref a),some (.ref d),some (.ref q),some (.int i),some (.ref b)]/\Same H H'/\H' q=some (.lst (ts++[.ref t]))/\ON (fun p=>.tup (p.map V.int)) H' (fun c=>c=d\/c=q) (ts++[.ref t]) (ps++[(r.drop 1).map fun w=>((ns.idxOf w:Nat):Int)])/\Fm H' d ns/\∀ w∈r.drop 1,w∈ns) ?_ fun key2=>?_
       rotate_left
       . refine⟨_,rfl,.inl ⟨rfl,_,.of hq1⟩,_,rfl,_,rfl,b,_,rfl,s31.seq hb,fun c hc=>?_⟩
         rw [cut1]
         have s4:Same G1 (upd G1 c (.lst ((r.map V.str).drop 1))):=Same.new hc
         have ec:upd G1 c (.lst ((r.map V.str).drop 1)) c=some (.lst ((r.drop 1).map V.str)):=by rw [Ae,List.map_drop]
         generalize upd G1 c (.lst ((r.map V.str).drop 1))=G2 at s4 ec ⊢
         have hSp2:=hSp1.same s4
         refine⟨c,rfl,⟨_,.of ec⟩,fun D hD=>?_⟩
         refine Cr (K:=K) (a:=c) (xs:=(r.drop 1).map V.str) (fun j ys τ G3=>Same G2 G3/\G3 D=some (.lst ys)/\ys=(((r.drop 1).take j).map fun w=>((ns.idxOf w:Nat):Int)).map V.int/\(∀ w∈(r.drop 1).take j,w∈ns)/\∃ o,τ=[o,some (.ref d)])
          ⟨Same.new hD,Ae,rfl,(fun w hw=>by simp at hw),none,rfl⟩ (fun j ys τ G3 _ ⟨s5,_⟩=>.of (s5 _ _ ec)) ?_ ?_
         . rintro j y ys τ G3 hy ⟨s5,hD5,rfl,hin,o,rfl⟩
           rw [List.getElem?_map] at hy
           obtain⟨w,hw,rfl⟩:=Option.map_eq_some_iff.mp hy
           have hwm:=List.mem_of_getElem? hw
           have hjl:=(List.getElem?_eq_some_iff.mp hw).1
           have hwr:w∈r:=List.mem_of_mem_drop hwm
           rw [List.length_drop] at hjl
           refine⟨_,rfl,_,rfl,d,ns,w,rfl,hSp2.same s5,(r3 w hwr).2,fun hm=>?_,fun hm H' s'=>?_⟩
           . refine⟨hD5,Dl (by simp;omega),s5.turn hD,Ae,?_,fun w' hw'=>?_,_,rfl⟩
             . rw [List.take_add_one,hw,List.map_append,List.map_append]
               rfl
             . rw [List.take_add_one,hw] at hw'
               rcases List.mem_append.mp hw' with z | z
               . exact hin w' z
               . rw [List.mem_singleton.mp z];exact hm
           . exact k1 (hW.bad hr (.inl ⟨w,hwm,hm⟩)) H' (((s31.trans s4).trans s5).trans s')
         . rintro ys τ G3 ⟨s5,hD5,rfl,hin,_⟩
           rw [List.length_map,List.take_length] at hD5 hin
           refine⟨D,_,rfl,.inl ⟨.of hD5,fun t ht=>?_⟩⟩
           have s6:=Same.new (o:=.tup (((r.drop 1).map fun w=>((ns.idxOf w:Nat):Int)).map V.int)) ht
           have et:upd G3 t (.tup (((r.drop 1).map fun w=>((ns.idxOf w:Nat):Int)).map V.int)) t=some (.tup (((r.drop 1).map fun w=>((ns.idxOf w:Nat):Int)).map V.int)):=Ae
           have s14:=(s4.trans s5).trans s6
           have hq4:=(s4.trans s5) _ _ hq1
           have ntq:t≠q:=fun z=>by rw [z,hq4] at ht;cases ht
           have ntd:t≠d:=fun z=>by
            obtain⟨A0,e⟩:=dsome
            rw [z,(s4.trans s5) _ _ e] at ht
            cases ht
           generalize upd G3 t (.tup (((r.drop 1).map fun w=>((ns.idxOf w:Nat):Int)).map V.int))=G4 at s6 et s14 ⊢
           refine⟨q,_,_,rfl,rfl,s14 _ _ hq1,Dl (by rw [hN.1,hW.2.2.1];omega),key2 _ _ ⟨t,rfl,(s31.trans s14).turn hqH,Ae,?_,?_,hin⟩⟩
           . exact ((hN1.keep fun c o _ e=>s14 c o e).snoc et (fun z=>by rcases z with z | z;exact ntd z;exact ntq z)).keep fun c o n e=>by rw [Ax (fun z=>n (.inr z))];exact e
           . obtain⟨A0,e1,e2⟩:=hSp1.same s14
             exact ⟨A0,by rw [Ax nqd.symm];exact e1,e2⟩
       rintro _ G5 ⟨t,rfl,s5,hq5,hN5,hSp5,hin⟩
       have hb5:SqL K G5 b (r.map V.str):=s5.seq hb
       have hat:atI (r.map V.str) 0=some (.str (hd r)):=by
        cases r with
        | nil=>exact absurd rfl r1
        | cons w r=>exact Cb (j:=0) rfl
       obtain⟨A0,hd5,hkl,hkv⟩:=id hSp5
       have hkh:=hkv (hd r)
       refine Ao (fun σ' H'=>σ'=[some (.ref a),some (.ref d),some (.ref q),some (.int i),some (.ref b)]/\G5=H'/\¬hd r∈ns) ?_ fun key2=>?_
       rotate_left
       . refine⟨_,rfl,b,_,_,_,rfl,rfl,hb5,hat,_,rfl,d,A0,.inr (hd r),rfl,hd5,rfl,_,rfl,?_⟩
         by_cases hm:hd r∈ns
         . rw [if_pos hm] at hkh
           refine ifP (by rw [hkh];rfl) ?_
           exact ⟨At (by simp),k1 (hW.bad hr (.inr hm)) G5 s5⟩
         . rw [if_neg hm] at hkh
           refine ifN (by rw [hkh];simp) ?_
           exact key2 _ _ ⟨rfl,rfl,hm⟩
       rintro _ _ ⟨rfl,rfl,hm⟩
       have hnl:=hW.2.1
       refine⟨_,rfl,_,rfl,_,rfl,b,_,_,_,rfl,rfl,hb5,hat,d,_,rfl,.k (k:=.inr (hd r)) hd5 (Dl (by omega)),?_⟩
       refine⟨_,_,_,ns++[hd r],_,rfl,s5.turn hdn,by rw [Ax nqd];exact hq5,hN5.keep fun c o n e=>by rw [Ax (fun z=>n (.inl z))];exact e,hW.next hr hin hm,?_⟩
       have:=Fm.put (H:=G5) (d:=d) hkl hkv hm
       rw [hnl] at this
       exact this
     . rintro σ G ⟨o3,o4,ts,ns,ps,rfl,s3,hq3,hN,hW,hSp⟩
       rw [hul] at hW
       exact key _ _ ⟨o3,o4,ts,ns,ps,rfl,s3,hq3,hN,hW⟩
   rintro _ G ⟨o3,o4,ts,ns,ps,rfl,s3,hq3,hN,hW⟩
   have e5:=hW.2.2.2.2
   rw [List.take_length] at e5
   exact ⟨_,rfl,k2 ns ps hW.done e5 hW.2.2.1 (.ref q) G s3 (hN.lt hq3)⟩
abbrev Cj:Stmt:=top 29
theorem Q8:FnScope ["_law_shape","_law_thing","_law_face","_law_j","_law_i"] ["_law_shape","_law_thing"] (Ak Cj):=⟨rfl,rfl,rfl,by decide +kernel,rfl,by decide +kernel,by decide +kernel⟩
theorem F0:(["_law_shape","_law_thing","_law_face","_law_j","_law_i"]:List Str).Nodup:=by decide +kernel
theorem Ry {f:Addr}{fd:FuncData} (F:Fun K "_law_fits_by" "_law_fits_by" Cj f fd) (T:Txt K mg Aj Ad Ah Af Ac) (Ev:Has P w K mg base "_law_whole" ["_law_found"] 1 (Gh K)):FnOk P w K mg base CX0 2 f fd ["_law_shape","_law_thing"] (Fw K):=by
 refine F.ok Q8 (fun vs H Q E h=>?_) (fun B5 A outer s H vs Q E hr h=>?_)
 . obtain⟨a,th,d,xs,rfl,hL,hd,k⟩:=h
   rfl
 . obtain⟨a,th,d,xs,rfl,hL,hd,k⟩:=h
   have hu8:(A.deeper (PyProof.Rows.envOfC "_law_fits_by" (Ak Cj) s.heap.objs.size f B5)).units+8<cLine:=by have:=hr.units;omega
   refine⟨_,(Ag (Bj (PW.pt (Xv (Eu (Et (Ap (Ca (K:=K)) (by rfl) T.n_isinstance Aq (Ab (pv 1) (Ab (D3 (v:=.ty "tuple") rfl T.n_tuple C9 rfl) Ai))))) (Re (Av (Dt (K:=K) hu8) (Ap (Ar (K:=K)) (by rfl) T.n_len PySem.boot_len (Ab (pv 1) Ai)) (B4 (Ab Am (Ab Am (Ab Am (Ab Am Ai))))) rfl)))) (Al (Ay Fr)) Au)
    (Ag (Bz PassesOwn.never rfl (L4 (K:=K) (pv 1)) (A1 (i:=2) F0 (by rfl) (by first | exact Or.inl rfl | exact Or.inr rfl)) (Ag (Bj (PW.pt (Xv (Eu (Et (Aw Ev hr (by rfl) (Ab (pv 2) Ai)))) (Xv (Av Rp (pv 2) Am (A6 _)) (Re (Av Ao4 (pv 2) (Ap (Ar (K:=K)) (by rfl) T.n_len PySem.boot_len (Ab (pv 0) Ai)) (A6 _)))))) (Al (Ay Fr)) Au)
    (Al (Bj (Av X2 (Ap (Tz (by rfl)) (by rfl) T.n_max T3 (Ab Am (Ab (Ap (Ar (K:=K)) (by rfl) T.n_len PySem.boot_len (Ab (Ce (Bs (K:=K)) (pv 0) (pv 2) (fun _ _=>rfl)) Ai)) Ai))) (Az Ls (Ap (Ar (K:=K)) (by rfl) T.n_len PySem.boot_len (Ab (pv 1) Ai)) Am) (A6 _)) (Al (Ay Fr)) Au))))
    (Ag (Bz PassesOwn.never rfl (B3 (by rfl) T.n_range (Ab (Ap (Ar (K:=K)) (by rfl) T.n_len PySem.boot_len (Ab (pv 1) Ai)) Ai)) (A1 (i:=3) F0 (by rfl) (by first | exact Or.inl rfl | exact Or.inr rfl)) (Al (Bz PassesOwn.never rfl (B3 (by rfl) T.n_range (Ab (pv 3) Ai)) (A1 (i:=4) F0 (by rfl) (by first | exact Or.inl rfl | exact Or.inr rfl)) (Al (Bj (PW.pt (Rf (Av r6 (Ap (Ar (K:=K)) (by rfl) T.n_len PySem.boot_len (Ab (pv 1) Ai)) Am (A6 _)) (Lp (Av X2 (Ce (Cl (K:=K)) (Ce (Bs (K:=K)) (pv 0) (Ce (Cl (K:=K)) (pv 1) (pv 3) (fun _ _=>rfl)) (fun _ _=>rfl)) (pv 4) (fun _ _=>rfl)) (Ce (Cl (K:=K)) (Ce (Bs (K:=K)) (pv 0) (Ce (Cl (K:=K)) (pv 1) (pv 4) (fun _ _=>rfl)) (fun _ _=>rfl)) (Az Ls (pv 3) Am) (fun _ _=>rfl)) (A6 _))))) (Al (Ay Fr)) Au)))))
    (Al (Ay Fr))))),?_⟩
   refine⟨_,rfl,_,_,d,rfl,.inr (.inr (.inr (.inl rfl))),hd,_,rfl,?_⟩
   cases d with
   | non=>exact k H (Same.refl H)
   | bl b=>exact k H (Same.refl H)
   | int i=>exact k H (Same.refl H)
   | str z=>exact k H (Same.refl H)
   | lst es=>exact k H (Same.refl H)
   | tup ds =>
     obtain⟨pa,us,rfl,hq0,r0⟩:=id hd
     have ul:us.length=ds.length:=r0.length
     refine ifN (by simp [isD]) ?_
     refine⟨_,rfl,pa,us,rfl,.inr hq0,At (by simp),fun C hC=>?_⟩
     have sC:Same H (upd H C (.tup [.int 0,.int 2,.int 3,.int 4])):=Same.new hC
     refine⟨.int (us.length:Int),nums [0,2,3,4],rfl,.inr ⟨C,_,rfl,.of Ae,D1.mpr rfl⟩,(by rw [Ix];decide),_,rfl,?_⟩
     rw [ul]
     have cnt:(!(nums [0,2,3,4]).any fun e=>eqD e (.int (ds.length:Int)))=!cntB ds.length:=by
      have:(nums [0,2,3,4]).any (fun e=>eqD e (.int (ds.length:Int)))=cntB ds.length:=by
       simp only [nums,List.map_cons,List.map_nil,List.any_cons,List.any_nil,eqD,cntB]
       rw [Bool.eq_iff_iff]
       simp only [Bool.or_eq_true,beq_iff_eq,Bool.or_false]
       omega
      rw [this]
     have k1:=k _ sC
     by_cases hc:cntB ds.length=true
     rotate_left
     . have hc':cntB ds.length=false:=by simpa using hc
       refine ifP (by rw [if_pos rfl,cnt,hc'];rfl) ?_
       have e2:Ht xs (.tup ds)=false:=by rw [D5];simp [hc']
       rw [e2] at k1
       exact k1
     refine ifN (by rw [if_pos rfl,cnt,hc];simp) ?_
     have hn4:ds.length<=4:=(Wk hc).1
     refine⟨_,rfl,pa,rfl,⟨_,sC.seqT hq0⟩,V5 (K:=K) (a:=pa) (xs:=us) (fun i σ H2=>Same H H2/\(∃ o2,σ=[some (.ref a),some (.ref pa),o2,none,none])/\((ds.take i).all fun e=>Bf xs e (levI ds.length-1))=true)
      ⟨sC,⟨none,rfl⟩,rfl⟩ (fun i σ H2 _ ⟨s2,_⟩=>s2.seqT hq0) ?_ ?_⟩
     . rintro i x σ H2 hx ⟨s2,⟨o2,rfl⟩,hall⟩
       have hq:SqT K H2 pa us:=s2.seqT hq0
       have r:Reps K H2 us ds:=Reps.same s2 r0
       have hL1:LT K H2 (.ref a) xs:=Rep.same s2 hL
       have k1:=k H2 s2
       obtain⟨xu,hxq,hxl⟩:=LT.len hL1
       obtain⟨e,he,re⟩:=r.getV hx
       have hne:1<=ds.length:=by have:=(List.getElem?_eq_some_iff.mp he).1;omega
       have hn2:2<=ds.length:=by have:=(Wk hc).2;omega
       have bad:Bf xs e (levI ds.length-1)=false->Ht xs (.tup ds)=false:=fun z=>by
        have:(ds.all fun e=>Bf xs e (levI ds.length-1))=false:=by
         rw [List.all_eq_false]
         exact ⟨e,List.mem_of_getElem? he,by simp [z]⟩
        rw [D5,this]
        simp
       refine⟨_,rfl,x,e,rfl,re,_,rfl,?_⟩
       by_cases hw:Ea e=true
       rotate_left
       . have hw':Ea e=false:=by simpa using hw
         refine ifP (by rw [hw'];rfl) ?_
         have e2:=bad (by cases e<;>first | rfl | (exfalso;exact hw rfl))
         rw [e2] at k1
         exact k1
       refine ifN (by rw [hw];simp) ?_
       obtain⟨f,rfl⟩:=N2 hw
       cases (show x=.int f from re)
       refine⟨_,rfl,_,_,rfl,rfl,_,rfl,?_⟩
       by_cases h0:0<=f
       rotate_left
       . refine ifP (by simp;omega) ?_
         have e2:=bad (by show (decide (0<=f)&&decide (f<(xs.length:Int))&&decide (levI (xs.getD f.toNat []).length=_))=false;simp [h0])
         rw [e2] at k1
         exact k1
       refine ifN (by simp;omega) ?_
       refine⟨_,rfl,_,rfl,a,xu,rfl,.inl hxq,_,_,rfl,rfl,_,rfl,?_⟩
       rw [hxl]
       by_cases h1:f<(xs.length:Int)
       rotate_left
       . refine ifP (by simp;omega) ?_
         have e2:=bad (by show (decide (0<=f)&&decide (f<(xs.length:Int))&&decide (levI (xs.getD f.toNat []).length=_))=false;simp [h1])
         rw [e2] at k1
         exact k1
       refine ifN (by simp;omega) ?_
       obtain⟨xu',v,hq',hv,tv⟩:=LT.get hL1 h0 h1
       obtain⟨b,rfl,hb⟩:=tv.sq
       refine⟨_,rfl,_,rfl,a,xu',f,_,rfl,rfl,hq',hv,b,_,rfl,.inr hb,_,_,rfl,_,rfl,pa,us,rfl,.inr hq,_,_,rfl,rfl,rfl,_,rfl,?_⟩
       rw [ul,List.length_map]
       have key:Bf xs (.int f) (levI ds.length-1)=decide ((if ((xs.getD f.toNat []).length:Int) > 1 then ((xs.getD f.toNat []).length:Int) else 1)=(ds.length:Int)-1):=by
        show (decide (0<=f)&&decide (f<(xs.length:Int))&&decide (levI (xs.getD f.toNat []).length=levI ds.length-1))=_
        rw [decide_eq_true h0,decide_eq_true h1,Fd,Fd]
        simp only [Bool.and_self,Bool.true_and]
        rw [Bool.eq_iff_iff]
        simp only [decide_eq_true_eq]
        split<;>omega
       by_cases hg:(if ((xs.getD f.toNat []).length:Int) > 1 then ((xs.getD f.toNat []).length:Int) else 1)=(ds.length:Int)-1
       rotate_left
       . refine ifP (neI hg) ?_
         have e2:=bad (by rw [key];exact decide_eq_false hg)
         rw [e2] at k1
         exact k1
       refine ifN (eqI hg) ?_
       refine⟨s2,⟨_,rfl⟩,?_⟩
       rw [List.take_succ,he,List.all_append,hall]
       show (true&&(Bf xs (.int f) (levI ds.length-1)&&true))=true
       rw [key,decide_eq_true hg]
       rfl
     . rintro σ H1 ⟨s1,⟨o2,rfl⟩,hall⟩
       have hq:SqT K H1 pa us:=s1.seqT hq0
       have hL1:LT K H1 (.ref a) xs:=Rep.same s1 hL
       have hd1:Rep K H1 (.ref pa) (.tup ds):=Rep.same s1 hd
       have k1:=k H1 s1
       rw [ul,List.take_length] at hall
       have hint:=Li hall
       have tv:TI K H1 (.ref pa) (ds.map toI):=by
        have:=hd1
        rw [hint] at this
        exact this
       generalize hp:ds.map toI=p at hint tv
       have hpn:p.length=ds.length:=by rw [←hp,List.length_map]
       have e2:Ht xs (.tup ds)=(decide (levI ds.length<2) || Dj xs p):=by rw [D5];rw [hall,hc,hp];rfl
       rw [e2] at k1
       have hf:2<ds.length->∀ f∈p,0<=f/\f<(xs.length:Int)/\(xs.getD f.toNat []).length+1=p.length:=by
        intro h3 f hf
        rw [List.all_eq_true] at hall
        have hm:L2.D.int f∈ds:=by
         rw [hint]
         exact List.mem_map.mpr ⟨f,hf,rfl⟩
        have:=hall _ hm
        simp only [Bf,Bool.and_eq_true,decide_eq_true_eq] at this
        obtain⟨⟨f0,f1⟩,f2⟩:=this
        refine⟨f0,f1,?_⟩
        rw [Fd,Fd] at f2
        omega
       refine⟨_,rfl,pa,us,rfl,.inr hq,_,rfl,by omega,by omega,?_⟩
       rw [ul]
       refine Bt (lo:=0) (n:=((ds.length:Nat):Int).toNat) (fun j σ H2=>H1=H2/\(∃ o2 o3 o4,σ=[some (.ref a),some (.ref pa),o2,o3,o4])/\(2<ds.length->∀ j' i',j'<j->i'<j'->Ig xs p j' i'=true))
        ⟨rfl,⟨_,none,none,rfl⟩,fun _ j' i' h=>absurd h (by omega)⟩ ?_ ?_
       . rintro j σ H2 hj ⟨rfl,⟨o2,o3,o4,rfl⟩,hall2⟩
         have hj':j<p.length:=by omega
         refine⟨_,rfl,_,rfl,by omega,by omega,?_⟩
         refine Bt (lo:=0) (n:=((0:Int)+(j:Int)).toNat) (fun i σ H2=>H1=H2/\(∃ o2 o4,σ=[some (.ref a),some (.ref pa),o2,some (.int (0+j)),o4])/\(2<ds.length->∀ i',i'<i->Ig xs p j i'=true))
          ⟨rfl,⟨_,_,rfl⟩,fun _ i' h=>absurd h (by omega)⟩ ?_ ?_
         . rintro i σ H2 hi ⟨rfl,⟨o2,o4,rfl⟩,hall3⟩
           have hij:i<j:=by omega
           refine⟨_,rfl,pa,us,rfl,.inr hq,_,_,rfl,rfl,_,rfl,?_⟩
           rw [ul]
           by_cases h3:2<ds.length
           rotate_left
           . refine ifN (by simp;omega) ?_
             refine ifN (by simp) ?_
             exact ⟨rfl,⟨_,_,rfl⟩,fun z=>absurd z h3⟩
           refine ifP (by simp;omega) ?_
           have hf3:=hf h3
           have mj:p.getD j 0∈p:=by rw [List.getD_eq_getElem?_getD,List.getElem?_eq_getElem hj'];exact List.getElem_mem _
           have mi:p.getD i 0∈p:=by rw [List.getD_eq_getElem?_getD,List.getElem?_eq_getElem (by omega)];exact List.getElem_mem _
           obtain⟨j0,j1,j2⟩:=hf3 _ mj
           obtain⟨i0,i1,i2⟩:=hf3 _ mi
           obtain⟨_,z,hq1,at1⟩:=TI.get (i:=(0:Int)+(j:Int)) tv (by omega) (by omega)
           cases z
           rw [show ((0:Int)+(j:Int)).toNat=j by omega] at at1
           obtain⟨_,z,hq2,at2⟩:=TI.get (i:=(0:Int)+(i:Int)) tv (by omega) (by omega)
           cases z
           rw [show ((0:Int)+(i:Int)).toNat=i by omega] at at2
           obtain⟨us1,v1,hu1,av1,tv1⟩:=LT.get hL1 j0 j1
           obtain⟨us2,v2,hu2,av2,tv2⟩:=LT.get hL1 i0 i1
           obtain⟨b1,e1,hb1,ab1⟩:=TI.get (i:=(0:Int)+(i:Int)) tv1 (by omega) (by omega)
           obtain⟨b2,e3,hb2,ab2⟩:=TI.get (i:=(0:Int)+(j:Int)-1) tv2 (by omega) (by omega)
           subst e1 e3
           rw [show ((0:Int)+(i:Int)).toNat=i by omega] at ab1
           rw [show ((0:Int)+(j:Int)-1).toNat=j-1 by omega] at ab2
           refine⟨_,rfl,_,rfl,_,rfl,pa,_,_,_,rfl,rfl,hq1,at1,a,us1,_,_,rfl,rfl,hu1,av1,_,rfl,b1,_,_,_,rfl,rfl,hb1,ab1,?_⟩
           refine⟨_,rfl,_,rfl,_,rfl,pa,_,_,_,rfl,rfl,hq2,at2,a,us2,_,_,rfl,rfl,hu2,av2,_,rfl,_,_,rfl,rfl,b2,_,_,_,rfl,rfl,hb2,ab2,?_⟩
           refine⟨rfl,_,rfl,?_⟩
           by_cases hag:(xs.getD (p.getD j 0).toNat []).getD i 0=(xs.getD (p.getD i 0).toNat []).getD (j-1) 0
           . refine ifN (eqI hag) ?_
             refine⟨rfl,⟨_,_,rfl⟩,fun z i' h=>?_⟩
             by_cases hz:i'=i
             . subst hz;unfold Ig;exact decide_eq_true hag
             . exact hall3 z i' (by omega)
           . refine ifP (neI hag) ?_
             have e2:Dj xs p=false:=by
              cases q:Dj xs p with
              | false=>rfl
              | true =>
                unfold Dj at q
                rw [List.all_eq_true] at q
                have q2:=q j (List.mem_range.mpr hj')
                rw [List.all_eq_true] at q2
                have q3:=q2 i (List.mem_range.mpr hij)
                exact absurd (of_decide_eq_true q3) hag
             have e4:decide (levI ds.length<2)=false:=by rw [Fd];exact decide_eq_false (by omega)
             rw [e2,e4] at k1
             exact k1
         . rintro σ H2 ⟨rfl,⟨o2,o4,rfl⟩,hall3⟩
           refine⟨rfl,⟨_,_,_,rfl⟩,fun z j' i' h1 h2=>?_⟩
           by_cases hz:j'=j
           . subst hz;exact hall3 z i' (by omega)
           . exact hall2 z j' i' (by omega) h2
       . rintro σ H2 ⟨rfl,⟨o2,o3,o4,rfl⟩,hall2⟩
         have e4:(decide (levI ds.length<2) || Dj xs p)=true:=by
          by_cases h3:2<ds.length
          . have:Dj xs p=true:=by
             unfold Dj
             rw [List.all_eq_true]
             intro j hj
             rw [List.all_eq_true]
             intro i hi
             have:=List.mem_range.mp hj
             exact hall2 h3 j i (by omega) (List.mem_range.mp hi)
            rw [this];simp
          . have:decide (levI ds.length<2)=true:=by rw [Fd];exact decide_eq_true (by omega)
            rw [this];rfl
         rw [e4] at k1
         exact k1
abbrev B8:Stmt:=top 31
theorem Pd:FnScope ["_law_cell","_law_many","_law_names","_law_k","_law_number","_law_word"] ["_law_cell","_law_many"] (Ak B8):=⟨rfl,rfl,rfl,by decide +kernel,rfl,by decide +kernel,by decide +kernel⟩
theorem Cf:(["_law_cell","_law_many","_law_names","_law_k","_law_number","_law_word"]:List Str).Nodup:=by decide +kernel
theorem Pn {f:Addr}{fd:FuncData} (F:Fun K "_law_names_by" "_law_names_by" B8 f fd) (T:Txt K mg Aj Ad Ah Af Ac) (Fi:Has P w K mg base "_law_name_by" ["_law_number","_law_stem"] 1 (Fv K)):FnOk P w K mg base CX0 2 f fd ["_law_cell","_law_many"] (E7 K):=by
 refine F.ok Pd (fun vs H Q E h=>?_) (fun B5 A outer s H vs Q E hr h=>?_)
 . obtain⟨c,many,rfl,hm,k⟩:=h
   rfl
 . obtain⟨c,many,rfl,hm,k⟩:=h
   have hu8:(A.deeper (PyProof.Rows.envOfC "_law_names_by" (Ak B8) s.heap.objs.size f B5)).units+8<cLine:=by have:=hr.units;omega
   refine⟨_,(Ag (As (i:=2) Cf (by rfl) (by first | exact Or.inl rfl | exact Or.inr rfl) (Db Ai))
    (Ag (Bz PassesOwn.never rfl (B3 (by rfl) T.n_range (Ab (pv 1) Ai)) (A1 (i:=3) Cf (by rfl) (by first | exact Or.inl rfl | exact Or.inr rfl)) (Ag (As (i:=4) Cf (by rfl) (by first | exact Or.inl rfl | exact Or.inr rfl) (Az Bq (Az Cy (Az Cy (Az Wz (Az Bq (pv 0) Am) Am) (Az Wz (Az Wz (pv 3) (pv 3)) Am)) (Az Wz (pv 3) Am)) Am))
    (Ag (As (i:=5) Cf (by rfl) (by first | exact Or.inl rfl | exact Or.inr rfl) (Aw Fi hr (by rfl) (Ab (pv 4) (Ab (Az Bq (pv 0) Am) Ai))))
    (Ag (p7 PassesOwn.never (Av (c7 (K:=K) hu8) (pv 5) (pv 2) rfl) (Ag (As (i:=4) Cf (by rfl) (by first | exact Or.inl rfl | exact Or.inr rfl) (Az Cy (pv 4) Am))
    (Al (As (i:=5) Cf (by rfl) (by first | exact Or.inl rfl | exact Or.inr rfl) (Aw Fi hr (by rfl) (Ab (pv 4) (Ab (Az Bq (pv 0) Am) Ai)))))))
    (Al (Eg (Cz (K:=K) PySem.F.plainAttrs_list PySem.F.slot_list_append PySem.F.type_list_append B9 (pv 2) (Ab (pv 5) Ai))))))))
    (Al (Ay (pv 2))))),?_⟩
   have h5a:=Int.emod_nonneg c (by decide:(5:Int)≠0)
   have h5b:=Int.emod_lt_of_pos c (by decide:(0:Int)<5)
   obtain⟨stem,est⟩:=Int.eq_ofNat_of_zero_le h5a
   have hst:stem<=4:=by omega
   refine Ao (fun σ' H'=>∃ D:Addr,σ'=[some (.int c),some (.int many),some (.ref D),none,none,none]/\H D=none/\Same H H'/\H' D=some (.lst [])) ?_ fun key=>?_
   rotate_left
   . exact ⟨Nat.zero_le _,fun D hD=>key _ _ ⟨D,rfl,hD,Same.new hD,Ae⟩⟩
   rintro _ H1 ⟨D,rfl,hD,s1,h1⟩
   refine⟨_,rfl,_,rfl,by omega,by omega,?_⟩
   refine Bt (fun i σ G=>∃ o3 o4 o5,∃ ns:List Str,σ=[some (.int c),some (.int many),some (.ref D),o3,o4,o5]/\Same H G/\G D=some (.lst (ns.map V.str))/\ns.length=i/\ns.Nodup/\∀ x∈ns,D7 x)
    ⟨none,none,none,[],rfl,s1,h1,rfl,List.nodup_nil,fun x hx=>by simp at hx⟩ ?_ ?_
   . rintro i σ G hi0 ⟨o3,o4,o5,ns,rfl,s2,hD2,hnl,hnd,hn⟩
     have hi:i<many:=by omega
     have e0:(0:Int)+(i:Int)=(i:Int):=by omega
     rw [e0]
     refine Ao (fun σ' H'=>∃ n0:Nat,σ'=[some (.int c),some (.int many),some (.ref D),some (.int i),some (.int n0),o5]/\G=H') ?_ fun key=>?_
     rotate_left
     . have ci:∀ z:Int,CMul (i:Int) z:=fun z=>.inl ⟨by omega,by omega⟩
       refine⟨_,rfl,_,_,rfl,rfl,(by decide:(0:Int)<1000003),_,_,rfl,rfl,.inr ⟨by decide,by decide⟩,_,rfl,_,rfl,_,_,rfl,rfl,ci _,_,_,rfl,rfl,.inr ⟨by decide,by decide⟩,_,_,rfl,rfl,_,rfl,_,_,rfl,rfl,ci _,_,_,rfl,rfl,_,_,rfl,rfl,(by decide:(0:Int)<400009),?_⟩
       obtain⟨n0,en⟩:=Int.eq_ofNat_of_zero_le (Int.emod_nonneg (c%1000003*48271+(i:Int)*(i:Int)*7907+(i:Int)*131) (by decide:(400009:Int)≠0))
       refine key _ _ ⟨n0,?_,rfl⟩
       rw [←en]
       rfl
     rintro _ _ ⟨n0,rfl,rfl⟩
     refine Ao (fun σ' H'=>σ'=[some (.int c),some (.int many),some (.ref D),some (.int i),some (.int n0),some (.str (nm stem n0))]/\G=H') ?_ fun key=>?_
     rotate_left
     . exact ⟨_,rfl,_,rfl,_,_,rfl,rfl,(by decide:(0:Int)<5),n0,stem,by rw [←est]<;>rfl,hst,key _ _ ⟨rfl,rfl⟩⟩
     rintro _ _ ⟨rfl,rfl⟩
     refine Ao (fun σ' H'=>∃ (o:Option V) (w:Str),σ'=[some (.int c),some (.int many),some (.ref D),some (.int i),o,some (.str w)]/\G=H'/\w ∉ ns/\D7 w) ?_ fun key=>?_
     rotate_left
     . refine⟨fun m σ G1=>∃ n:Nat,σ=[some (.int c),some (.int many),some (.ref D),some (.int i),some (.int n),some (.str (nm stem n))]/\G=G1/\n0<=n/\(∀ z,n0<=z->z<n->nm stem z∈ns)/\n<=n0+400/\m=n0+400-n,⟨400,n0,rfl,rfl,Nat.le_refl _,fun z h1 h2=>by omega,by omega,by omega⟩,?_⟩
       rintro m σ G1 ⟨n,rfl,rfl,hn0,hz,hle,rfl⟩
       refine⟨_,rfl,_,rfl,.str (nm stem n),ns.map L2.D.str,rfl,.inl ⟨D,_,rfl,.of hD2,Ch.mpr rfl⟩,by rw [deps_strs];decide,_,rfl,?_⟩
       rw [Qg]
       refine ite2 (fun hin=>?_) (fun hin=>?_)
       . have hin:nm stem n∈ns:=of_decide_eq_true hin
         have hlt:n<n0+400:=by
          by_cases h:n<n0+400
          . exact h
          . have:=Ak4 (stem:=stem) (n0:=n0) (ns:=ns) fun z h1 h2=>hz z h1 (by omega)
            omega
         refine⟨fun σ' G'=>∃ m',m'<n0+400-n/\∃ n':Nat,σ'=[some (.int c),some (.int many),some (.ref D),some (.int i),some (.int n'),some (.str (nm stem n'))]/\G=G'/\n0<=n'/\(∀ z,n0<=z->z<n'->nm stem z∈ns)/\n'<=n0+400/\m'=n0+400-n',fun σ' H' h=>h,?_⟩
         refine Ao (fun σ' H'=>σ'=[some (.int c),some (.int many),some (.ref D),some (.int i),some (.int ((n+1:Nat):Int)),some (.str (nm stem n))]/\G=H') ?_ fun key2=>?_
         rotate_left
         . exact ⟨_,rfl,_,_,rfl,rfl,key2 _ _ ⟨rfl,rfl⟩⟩
         rintro _ _ ⟨rfl,rfl⟩
         refine⟨_,rfl,_,rfl,_,_,rfl,rfl,(by decide:(0:Int)<5),n+1,stem,by rw [←est]<;>rfl,hst,n0+400-(n+1),by omega,n+1,rfl,rfl,by omega,fun z h1 h2=>?_,by omega,rfl⟩
         by_cases h:z<n
         . exact hz z h1 h
         . rw [show z=n by omega];exact hin
       . exact key _ _ ⟨_,_,rfl,rfl,by simpa using hin,Ae4 hst⟩
     rintro _ _ ⟨o,w,rfl,rfl,hw,hok⟩
     refine⟨_,rfl,.inl ⟨rfl,_,.of hD2⟩,_,rfl,D,_,_,rfl,rfl,hD2,Dl (by simp;omega),_,_,_,ns++[w],rfl,s2.turn hD,?_,by simp [hnl],?_,fun x hx=>?_⟩
     . rw [Ae,List.map_append];rfl
     . rw [List.nodup_append]
       refine⟨hnd,by simp,fun x hx y hy z=>?_⟩
       have:y=w:=by simpa using hy
       subst this z
       exact hw hx
     . rcases List.mem_append.mp hx with hx | hx
       . exact hn x hx
       . rw [List.mem_singleton.mp hx];exact hok
   . rintro σ G ⟨o3,o4,o5,ns,rfl,s2,hD2,hnl,hnd,hn⟩
     exact ⟨_,rfl,k D ns G hD s2 hD2 (by omega) hnd hn⟩
abbrev Bu:Stmt:=top 36
theorem Ln:FnScope ["_law_words","_law_word","_law_family","_law_layer","_law_rows","_law_k","_law_below","_law_one","_law_face","_law_more"] ["_law_words","_law_word","_law_family"] (Ak Bu):=⟨rfl,rfl,rfl,by decide +kernel,rfl,by decide +kernel,by decide +kernel⟩
theorem A7:(["_law_words","_law_word","_law_family","_law_layer","_law_rows","_law_k","_law_below","_law_one","_law_face","_law_more"]:List Str).Nodup:=by decide +kernel
theorem Lv {f:Addr}{fd:FuncData} (F:Fun K "_law_words_with" "_law_words_with" Bu f fd) (T:Txt K mg Aj Ad Ah Af Ac) (Cq:Has P w K mg base "_law_faces_by" ["_law_word","_law_family"] 1 (Dk K)):FnOk P w K mg base CX0 2 f fd ["_law_words","_law_word","_law_family"] (Dy K):=by
 refine F.ok Ln (fun vs H Q E h=>?_) (fun B5 A outer s H vs Q E hr h=>?_)
 . obtain⟨l,us,v,ws,w,fam,rfl,hl,hr0,hv,hw,hlen,k⟩:=h
   rfl
 . obtain⟨l,us,v,ws,w,fam,rfl,hl,hr0,hv,hw,hlen,k⟩:=h
   have hu8:(A.deeper (PyProof.Rows.envOfC "_law_words_with" (Ak Bu) s.heap.objs.size f B5)).units+8<cLine:=by have:=hr.units;omega
   refine⟨_,(Ag (As (i:=3) A7 (by rfl) (by first | exact Or.inl rfl | exact Or.inr rfl) (Db (Ab (pv 1) Ai)))
    (Ag (As (i:=4) A7 (by rfl) (by first | exact Or.inl rfl | exact Or.inr rfl) (Db Ai))
    (Ag (Bz PassesOwn.never rfl (B3 (by rfl) T.n_range (Ab Am Ai)) (A1 (i:=5) A7 (by rfl) (by first | exact Or.inl rfl | exact Or.inr rfl)) (Ag (As (i:=4) A7 (by rfl) (by first | exact Or.inl rfl | exact Or.inr rfl) (Az (L5 (K:=K)) (pv 3) (pv 4)))
    (Ag (As (i:=6) A7 (by rfl) (by first | exact Or.inl rfl | exact Or.inr rfl) (Db Ai))
    (Ag (Bz PassesOwn.never rfl (Br (K:=K) (pv 3)) (A1 (i:=7) A7 (by rfl) (by first | exact Or.inl rfl | exact Or.inr rfl)) (Al (Bz PassesOwn.never rfl (Br (K:=K) (Aw Cq hr (by rfl) (Ab (pv 7) (Ab (pv 2) Ai)))) (A1 (i:=8) A7 (by rfl) (by first | exact Or.inl rfl | exact Or.inr rfl)) (Al (Bj (PW.pt (Rf (Av (Dt (K:=K) hu8) (pv 8) (pv 0) rfl) (Lp (Av (Dt (K:=K) hu8) (pv 8) (pv 6) rfl)))) (Al (Eg (Cz (K:=K) PySem.F.plainAttrs_list PySem.F.slot_list_append PySem.F.type_list_append B9 (pv 6) (Ab (pv 8) Ai)))) Au)))))
    (Al (As (i:=3) A7 (by rfl) (by first | exact Or.inl rfl | exact Or.inr rfl) (pv 6)))))))
    (Ag (As (i:=9) A7 (by rfl) (by first | exact Or.inl rfl | exact Or.inr rfl) (Cv (Iu (K:=K)) (by rfl) T.n_list Ko (Ab (pv 0) Ai)))
    (Ag (Bz PassesOwn.never rfl (Br (K:=K) (pv 4)) (A1 (i:=7) A7 (by rfl) (by first | exact Or.inl rfl | exact Or.inr rfl)) (Al (Bj (Av (Dt (K:=K) hu8) (pv 7) (pv 9) rfl) (Al (Eg (Cz (K:=K) PySem.F.plainAttrs_list PySem.F.slot_list_append PySem.F.type_list_append B9 (pv 9) (Ab (pv 7) Ai)))) Au)))
    (Al (Ay (pv 9)))))))),?_⟩
   have s0w:∀ u∈[w],Word fam u:=fun u hu=>by
    have e:u=w:=by simpa using hu
    subst e
    exact hw
   refine⟨_,rfl,At (by simp),fun L0 hL0=>?_⟩
   have s1:Same H (upd H L0 (.lst [v])):=Same.new hL0
   refine⟨Nat.zero_le _,fun R0 hR0=>?_⟩
   have s2:Same (upd H L0 (.lst [v])) (upd (upd H L0 (.lst [v])) R0 (.lst [])):=Same.new hR0
   refine⟨_,rfl,by decide,by decide,Bt (lo:=0) (n:=(4:Int).toNat)
    (fun i σ H2=>∃ (L R:Addr) (lu ru:List V) (layer rows:List (List Int)) (o5 o6 o7 o8 o9:Option V),σ=[some (.ref l),some v,some (.int fam),some (.ref L),some (.ref R),o5,o6,o7,o8,o9]/\Same H H2 ∧
      H2 L=some (.lst lu)/\Reps K H2 lu (layer.map tI)/\H2 R=some (.lst ru)/\Reps K H2 ru (rows.map tI)/\(∀ u∈layer,Word fam u)/\Ir ws fam (4-i) layer rows=Ir ws fam 4 [w] []/\layer.length<=4 ^ i/\rows.length<=1000*i)
    ⟨L0,R0,[v],[],[w],[],none,none,none,none,none,rfl,s1.trans s2,s2 _ _ Ae,Reps.one (TI.same (s1.trans s2) hv),Ae,rfl,s0w,rfl,by simp,by simp⟩ ?_ ?_⟩
   . rintro i σ H2 hi ⟨L,R,lu,ru,layer,rows,o5,o6,o7,o8,o9,rfl,sH,hL,rL,hR,rR,hWl,hlay,hll,hrl⟩
     have hi4:i<4:=by simpa using hi
     have h4i:4 ^ i<=64:=by
      have:i=0\/i=1\/i=2\/i=3:=by omega
      rcases this with rfl | rfl | rfl | rfl<;>decide
     have lul:lu.length=layer.length:=by have:=rL.length;simpa using this
     have rul:ru.length=rows.length:=by have:=rR.length;simpa using this
     refine⟨_,rfl,_,rfl,L,R,_,_,rfl,rfl,.of hL,.of hR,At (by omega),fun R1 hR1=>?_⟩
     have sa:Same H2 (upd H2 R1 (.lst (lu++ru))):=Same.new hR1
     have hR1a:(upd H2 R1 (.lst (lu++ru))) R1=some (.lst (lu++ru)):=Ae
     have rRa:Reps K (upd H2 R1 (.lst (lu++ru))) (lu++ru) ((layer++rows).map tI):=by
      rw [List.map_append]
      exact (Reps.same sa rL).append (Reps.same sa rR)
     have hLa:=sa _ _ hL
     have rLa:Reps K (upd H2 R1 (.lst (lu++ru))) lu (layer.map tI):=Reps.same sa rL
     have sHa:Same H (upd H2 R1 (.lst (lu++ru))):=sH.trans sa
     refine⟨Nat.zero_le _,fun B hB=>?_⟩
     have sb:Same (upd H2 R1 (.lst (lu++ru))) (upd (upd H2 R1 (.lst (lu++ru))) B (.lst [])):=Same.new hB
     have hBH:H B=none:=sHa.free hB
     refine⟨_,rfl,L,rfl,⟨_,.of (sb _ _ hLa)⟩,for_list (K:=K) (a:=L) (xs:=lu)
      (fun j σ H3=>∃ (bu:List V) (o7 o8:Option V),σ=[some (.ref l),some v,some (.int fam),some (.ref L),some (.ref R1),some (.int (0+i)),some (.ref B),o7,o8,o9]/\Same (upd H2 R1 (.lst (lu++ru))) H3/\H3 B=some (.lst bu) ∧
        Reps K H3 bu ((Da ws fam [] (layer.take j)).map tI))
      ⟨[],_,_,rfl,sb,Ae,rfl⟩ (fun j σ H3 _ ⟨_,_,_,_,s3,_⟩=>.of (s3 _ _ hLa)) ?_ ?_⟩
     . rintro j x σ H3 hx ⟨bu,o7,o8,rfl,s3,hB3,rB⟩
       have hj:j<lu.length:=(List.getElem?_eq_some_iff.mp hx).1
       have hjl:j<layer.length:=by omega
       have hjx:(layer.map tI)[j]?=some (tI layer[j]):=by rw [List.getElem?_map,List.getElem?_eq_getElem hjl];rfl
       obtain⟨x',hx',tx⟩:=rLa.get hjx
       rw [hx] at hx'
       cases hx'
       have hwj:Word fam layer[j]:=hWl _ (List.getElem_mem _)
       refine⟨_,rfl,_,rfl,x,layer[j],fam,rfl,TI.same s3 tx,hwj,fun p fu H4 hp s4 hp4 r4=>?_⟩
       have fl:=Ew hwj
       have ful:fu.length=(An layer[j] fam).length:=by have:=r4.length;simpa using this
       have hpB:p≠B:=fun z=>by rw [z,hB3] at hp;cases hp
       have hB4:=s4 _ _ hB3
       refine⟨p,rfl,⟨_,.of hp4⟩,for_list (K:=K) (a:=p) (xs:=fu)
        (fun m σ H5=>∃ (bu:List V) (o8:Option V),σ=[some (.ref l),some v,some (.int fam),some (.ref L),some (.ref R1),some (.int (0+i)),some (.ref B),some x,o8,o9]/\M0 B H4 H5/\H5 B=some (.lst bu) ∧
          Reps K H5 bu ((Bx ws (Da ws fam [] (layer.take j)) ((An layer[j] fam).take m)).map tI)/\(Bx ws (Da ws fam [] (layer.take j)) ((An layer[j] fam).take m)).length<=1000)
        ⟨bu,_,rfl,M0.refl _ _,hB4,(by simpa [Bx] using Reps.same s4 rB),?_⟩ (fun m σ H5 _ ⟨_,_,_,s5,_⟩=>.of (s5 _ _ hpB hp4)) ?_ ?_⟩
       . have:=Gf (ws:=ws) (fam:=fam) (layer.take j) [] (fun u hu=>hWl u (List.mem_of_mem_take hu))
         simp only [List.take_zero,Bx,List.length_nil,List.length_take] at this ⊢
         omega
       . rintro m y σ H5 hy ⟨bu5,o8',rfl,s5,hB5,rB5,hbl5⟩
         have hm:m<fu.length:=(List.getElem?_eq_some_iff.mp hy).1
         have hmf:m<(An layer[j] fam).length:=by omega
         have hmy:((An layer[j] fam).map tI)[m]?=some (tI (An layer[j] fam)[m]):=by rw [List.getElem?_map,List.getElem?_eq_getElem hmf];rfl
         obtain⟨y',hy',ty⟩:=r4.get hmy
         rw [hy] at hy'
         cases hy'
         generalize hf:(An layer[j] fam)[m]=fc at ty
         have ty5:TI K H5 y fc:=TI.t (s5.t hB4) ty
         have hl5:H5 l=some (.lst us):=by
          refine s5 l _ (fun z=>?_) (s4 _ _ (s3 _ _ (sHa _ _ hl)))
          rw [z] at hl
          rw [hl] at hBH
          cases hBH
         have rl5:Rep K H5 (.ref l) (.lst (ws.map tI)):=⟨l,us,rfl,.of hl5,Reps.t (s5.t hB4) (P3 ws) (Reps.same ((sHa.trans s3).trans s4) hr0)⟩
         have rb5:Rep K H5 (.ref B) (.lst ((Bx ws (Da ws fam [] (layer.take j)) ((An layer[j] fam).take m)).map tI)):=⟨B,bu5,rfl,.of hB5,rB5⟩
         have e0:Bx ws (Da ws fam [] (layer.take j)) ((An layer[j] fam).take (m+1))=(if fc ∉ ws/\fc ∉ Bx ws (Da ws fam [] (layer.take j)) ((An layer[j] fam).take m) then Bx ws (Da ws fam [] (layer.take j)) ((An layer[j] fam).take m)++[fc] else Bx ws (Da ws fam [] (layer.take j)) ((An layer[j] fam).take m)):=by
          rw [List.take_succ,List.getElem?_eq_getElem hmf,hf]
          exact My _ _ _ _
         have hbu5:bu5.length=(Bx ws (Da ws fam [] (layer.take j)) ((An layer[j] fam).take m)).length:=by have:=rB5.length;simpa using this
         have hlen6:(Bx ws (Da ws fam [] (layer.take j)) ((An layer[j] fam).take (m+1))).length<=1000:=by
          have h1:=Ks (ws:=ws) ((An layer[j] fam).take (m+1)) (Da ws fam [] (layer.take j))
          have h2:=Gf (ws:=ws) (fam:=fam) (layer.take j) [] (fun u hu=>hWl u (List.mem_of_mem_take hu))
          simp only [List.length_nil,List.length_take] at h1 h2
          have h3:(An layer[j] fam).length<=4:=by have:=fl.1;have:=fl.2;split at*<;> omega
          omega
         generalize hacc:Bx ws (Da ws fam [] (layer.take j)) ((An layer[j] fam).take m)=acc at rB5 rb5 e0 hbu5 hbl5
         refine⟨_,rfl,_,rfl,tI fc,ws.map tI,ty5,.inl rl5,(by have:=Gm ws;omega),_,rfl,?_⟩
         by_cases h1:fc∈ws
         . refine ifN (by rw [if_pos rfl,Mv];simp [h1]) ?_
           refine ifN (by simp) ?_
           refine⟨bu5,_,rfl,s5,hB5,?_,hlen6⟩
           rw [e0,if_neg (by simp [h1])]
           exact rB5
         . refine ifP (by rw [if_pos rfl,Mv];simp [h1]) ?_
           refine⟨_,rfl,_,rfl,tI fc,acc.map tI,ty5,.inl rb5,(by have:=Gm acc;omega),_,rfl,?_⟩
           by_cases h2:fc∈acc
           . refine ifN (by rw [if_pos rfl,Mv];simp [h2]) ?_
             refine⟨bu5,_,rfl,s5,hB5,?_,hlen6⟩
             rw [e0,if_neg (by simp [h2])]
             exact rB5
           . refine ifP (by rw [if_pos rfl,Mv];simp [h2]) ?_
             refine⟨_,rfl,.inl ⟨rfl,_,.of hB5⟩,_,rfl,B,_,_,rfl,rfl,hB5,Dl (by omega),?_⟩
             refine⟨_,_,rfl,s5.upd,Ae,?_,hlen6⟩
             rw [e0,if_pos ⟨h1,h2⟩]
             exact Hk hB5 rB5 ty5
       . rintro σ H5 ⟨bu5,o8',rfl,s5,hB5,rB5,_⟩
         refine⟨bu5,_,_,rfl,?_,hB5,?_⟩
         . exact s5.same (s3.trans s4) hB
         . rw [ful,List.take_length] at rB5
           rw [List.take_succ,List.getElem?_eq_getElem hjl]
           have e1:Da ws fam [] (layer.take j++(some layer[j]).toList)=Bx ws (Da ws fam [] (layer.take j)) (An layer[j] fam):=Oi _ _ _ _ _
           rw [e1]
           exact rB5
     . rintro σ H3 ⟨bu,o7,o8,rfl,s3,hB3,rB⟩
       rw [lul,List.take_length] at rB
       refine⟨_,rfl,?_⟩
       refine⟨B,R1,bu,lu++ru,Da ws fam [] layer,layer++rows,_,_,_,_,_,rfl,sHa.trans s3,hB3,rB,s3 _ _ hR1a,Reps.same s3 rRa,?_,?_,?_,?_⟩
       . intro u hu
         rcases Jc _ _ hu with z|⟨t,ht,z⟩
         . exact nomatch z
         . exact (Gk (hWl t ht) z).1
       . rw [←hlay,show 4-i=(4-(i+1))+1 by omega]
         rfl
       . have:=Gf (ws:=ws) (fam:=fam) layer [] hWl
         simp only [List.length_nil] at this
         rw [Nat.pow_succ]
         omega
       . rw [List.length_append]
         omega
   . rintro σ H2 ⟨L,R,lu,ru,layer,rows,o5,o6,o7,o8,o9,rfl,sH,hL,rL,hR,rR,hWl,hlay,hll,hrl⟩
     have hrows:rows=Ir ws fam 4 [w] []:=hlay
     have hrl2:=Yn (ws:=ws) hw
     rw [←hrows] at hrl2
     have rul:ru.length=rows.length:=by have:=rR.length;simpa using this
     refine⟨_,rfl,l,_,rfl,.inl (.of (sH _ _ hl)),fun M hM=>?_⟩
     have sm:Same H2 (upd H2 M (.lst us)):=Same.new hM
     have hMH:H M=none:=sH.free hM
     have usl:us.length=ws.length:=by have:=hr0.length;simpa using this
     refine⟨_,rfl,R,rfl,⟨_,.of (sm _ _ hR)⟩,for_list (K:=K) (a:=R) (xs:=ru)
      (fun j σ H3=>∃ (mu:List V) (o7:Option V),σ=[some (.ref l),some v,some (.int fam),some (.ref L),some (.ref R),o5,o6,o7,o8,some (.ref M)]/\Same H2 H3/\H3 M=some (.lst mu)/\Reps K H3 mu ((Cw ws (rows.take j)).map tI))
      ⟨us,_,rfl,sm,Ae,(by simpa [Cw] using Reps.same (sH.trans sm) hr0)⟩ (fun j σ H3 _ ⟨_,_,_,s3,_⟩=>.of (s3 _ _ hR)) ?_ ?_⟩
     . rintro j x σ H3 hx ⟨mu,o7',rfl,s3,hM3,rM⟩
       have hj:j<ru.length:=(List.getElem?_eq_some_iff.mp hx).1
       have hjl:j<rows.length:=by omega
       have hjx:(rows.map tI)[j]?=some (tI rows[j]):=by rw [List.getElem?_map,List.getElem?_eq_getElem hjl];rfl
       obtain⟨x',hx',tx⟩:=rR.get hjx
       rw [hx] at hx'
       cases hx'
       generalize hf:rows[j]=fc at tx
       have tx3:TI K H3 x fc:=TI.same s3 tx
       have e0:Cw ws (rows.take (j+1))=(if fc∈Cw ws (rows.take j) then Cw ws (rows.take j) else Cw ws (rows.take j)++[fc]):=by
        rw [List.take_succ,List.getElem?_eq_getElem hjl,hf]
        exact Mz _ _ _
       have hal:=Oo (rows.take j) ws
       rw [List.length_take] at hal
       have mul:mu.length=(Cw ws (rows.take j)).length:=by have:=rM.length;simpa using this
       generalize hacc:Cw ws (rows.take j)=acc at rM e0 hal mul
       have rm3:Rep K H3 (.ref M) (.lst (acc.map tI)):=⟨M,mu,rfl,.of hM3,rM⟩
       refine⟨_,rfl,_,rfl,tI fc,acc.map tI,tx3,.inl rm3,(by have:=Gm acc;omega),_,rfl,?_⟩
       by_cases h1:fc∈acc
       . refine ifN (by rw [if_pos rfl,Mv];simp [h1]) ?_
         refine⟨mu,_,rfl,s3,hM3,?_⟩
         rw [e0,if_pos h1]
         exact rM
       . refine ifP (by rw [if_pos rfl,Mv];simp [h1]) ?_
         refine⟨_,rfl,.inl ⟨rfl,_,.of hM3⟩,_,rfl,M,_,_,rfl,rfl,hM3,Dl (by omega),?_⟩
         refine⟨_,_,rfl,s3.turn hM,Ae,?_⟩
         rw [e0,if_neg h1]
         exact Hk hM3 rM tx3
     . rintro σ H3 ⟨mu,o7',rfl,s3,hM3,rM⟩
       rw [rul,List.take_length,hrows] at rM
       exact ⟨_,rfl,k M mu H3 hMH (sH.trans s3) hM3 rM⟩
abbrev Cd:Stmt:=top 39
theorem Nf:FnScope ["_law_script","_law_text","_law_how","_law_at","_law_cell","_law_words","_law_spot","_law_other"] ["_law_script","_law_text"] (Ak Cd):=⟨rfl,rfl,rfl,by decide +kernel,rfl,by decide +kernel,by decide +kernel⟩
theorem Bk:(["_law_script","_law_text","_law_how","_law_at","_law_cell","_law_words","_law_spot","_law_other"]:List Str).Nodup:=by decide +kernel
theorem Nk {f:Addr}{fd:FuncData} (F:Fun K "_law_spoilt_by" "_law_spoilt_by" Cd f fd) (T:Txt K mg Aj Ad Ah Af Ac) (Bb:Has P w K mg base "_law_cell_at" ["_law_script","_law_k"] 1 (Eb K)) (Fh:Has P w K mg base "_law_sign_by" ["_law_cell"] 1 (O2 K)):FnOk P w K mg base CX0 2 f fd ["_law_script","_law_text"] (Jh K):=by
 refine F.ok Nf (fun vs H Q E h=>?_) (fun B5 A outer s H vs Q E hr h=>?_)
 . obtain⟨a,ns,x,rfl,hS,hl,hx,k⟩:=h
   rfl
 . obtain⟨a,ns,x,rfl,hS,hl,hx,k⟩:=h
   refine⟨_,(Ag (As (i:=2) Bk (by rfl) (by first | exact Or.inl rfl | exact Or.inr rfl) (Aw Bb hr (by rfl) (Ab (pv 0) (Ab Am Ai))))
    (Ag (As (i:=3) Bk (by rfl) (by first | exact Or.inl rfl | exact Or.inr rfl) (Az Bq (Aw Bb hr (by rfl) (Ab (pv 0) (Ab Am Ai))) (Az Cy (Ap Cs (by rfl) T.n_len PySem.boot_len (Ab (pv 1) Ai)) Am)))
    (Ag (As (i:=4) Bk (by rfl) (by first | exact Or.inl rfl | exact Or.inr rfl) (Aw Bb hr (by rfl) (Ab (pv 0) (Ab Am Ai))))
    (Ag (Bj (Av Fb (Az Bq (pv 2) Am) Am (A6 _)) (Al (Ay (Az Bw (Az Bw (A9 Ik (pv 1) Bm (Bg (pv 3))) (Aw Fh hr (by rfl) (Ab (pv 4) Ai))) (A9 Ik (pv 1) (Bg (pv 3)) Bm)))) Au)
    (Ag (Bj (Av Fb (Az Bq (pv 2) Am) Am (A6 _)) (Al (Ay (Az Bw (A9 Ik (pv 1) Bm (Bg (pv 3))) (A9 Ik (pv 1) (Bg (Az Cy (pv 3) Am)) Bm)))) Au)
    (Ag (Bj (Av Fb (Az Bq (pv 2) Am) Am (A6 _)) (Al (Ay (Az Bw (Az Bw (A9 Ik (pv 1) Bm (Bg (pv 3))) (Aw Fh hr (by rfl) (Ab (pv 4) Ai))) (A9 Ik (pv 1) (Bg (Az Cy (pv 3) Am)) Bm)))) Au)
    (Ag (As (i:=5) Bk (by rfl) (by first | exact Or.inl rfl | exact Or.inr rfl) (Cz (K:=K) PySem.F.plainAttrs_str PySem.F.slot_str_split PySem.F.type_str_split F3 (pv 1) (Ab A5 Ai)))
    (Ag (As (i:=6) Bk (by rfl) (by first | exact Or.inl rfl | exact Or.inr rfl) (Az Bq (pv 4) (Ap (Ar (K:=K)) (by rfl) T.n_len PySem.boot_len (Ab (pv 5) Ai))))
    (Ag (As (i:=7) Bk (by rfl) (by first | exact Or.inl rfl | exact Or.inr rfl) (Ce (Bs (K:=K)) (pv 5) (Az Bq (Az D4 (pv 4) Am) (Ap (Ar (K:=K)) (by rfl) T.n_len PySem.boot_len (Ab (pv 5) Ai))) (fun _ _=>rfl)))
    (Ag (Bj (PW.pt (Rf (Av Fb (Az Bq (Az D4 (pv 2) Am) Am) Am (A6 _)) (Lp (Av Fb (A9 Ik (pv 7) (Bg (Ac7 Zn Am)) Bm) A5 (A6 _))))) (Al (As (i:=7) Bk (by rfl) (by first | exact Or.inl rfl | exact Or.inr rfl) (A9 Ik (pv 7) Bm (Bg (Ac7 Zn Am))))) Au)
    (Ag (Bj (Av Fb (Az Bq (pv 2) Am) Am (A6 _)) (Al (Aj0 (pv 7) (Aj3 (pv 5) (pv 6) o0))) Au)
    (Ag (Bj (Av Fb (Az Bq (pv 2) Am) Am (A6 _)) (Al (As (i:=5) Bk (by rfl) (by first | exact Or.inl rfl | exact Or.inr rfl) (Az (L5 (K:=K)) (Az (L5 (K:=K)) (A9 (Ed (K:=K)) (pv 5) Bm (Bg (pv 6))) (Az Aj5 (Db (Ab (pv 7) Ai)) (Az Cy Am (Az Bq (Az D4 (pv 2) Am) Am)))) (A9 (Ed (K:=K)) (pv 5) (Bg (pv 6)) Bm)))) Au)
    (Al (Ay (Cz (K:=K) PySem.F.plainAttrs_str PySem.F.slot_str_join PySem.F.type_str_join (W3 (K:=K)) A5 (Ab (pv 5) Ai)))))))))))))))),?_⟩
   have h4:=hx.2
   have ln:x.length<=sizeLine:=At (by omega)
   refine Ao (fun σ' H'=>∃ (w:Int),σ'=[some (.ref a),some (.str x),some (.int w),none,none,none,none,none]/\H=H') ?_ fun key=>?_
   rotate_left
   . exact ⟨_,rfl,a,ns,1,rfl,hS,by decide,hl,key _ _ ⟨_,rfl,rfl⟩⟩
   rintro _ _ ⟨w,rfl,rfl⟩
   refine Ao (fun σ' H'=>∃ (p:Int),σ'=[some (.ref a),some (.str x),some (.int w),some (.int p),none,none,none,none]/\H=H') ?_ fun key=>?_
   rotate_left
   . exact ⟨_,rfl,a,ns,2,rfl,hS,by decide,hl,_,rfl,x,rfl,ln,_,_,rfl,rfl,_,_,rfl,rfl,(by show (0:Int)<(x.length:Int)+1;omega),key _ _ ⟨_,rfl,rfl⟩⟩
   rintro _ _ ⟨p,rfl,rfl⟩
   refine Ao (fun σ' H'=>∃ (c:Int),σ'=[some (.ref a),some (.str x),some (.int w),some (.int p),some (.int c),none,none,none]/\H=H') ?_ fun key=>?_
   rotate_left
   . exact ⟨_,rfl,a,ns,3,rfl,hS,by decide,hl,key _ _ ⟨_,rfl,rfl⟩⟩
   rintro _ _ ⟨c,rfl,rfl⟩
   have sl:∀ lo hi,Asc 4000 (slS x lo hi):=fun _ _=>Zv hx
   have sz:∀ lo hi,(slS x lo hi).length<=4000:=fun lo hi=>(sl lo hi).2
   have sy:∀ lo hi,(slS x lo hi).length<=sizeLine:=fun lo hi=>At (by have:=sz lo hi;omega)
   have d6:(0:Int)<6:=by decide
   refine⟨_,rfl,_,_,rfl,rfl,d6,rfl,_,rfl,?_⟩
   refine ite2 (fun h1=>?_) (fun _=>?_)
   . refine⟨_,rfl,_,rfl,_,rfl,x,rfl,sy _ _,_,rfl,c,rfl,fun z hz=>?_⟩
     have a1:=(sl none (some p)).app (asc1 hz)
     have a2:=a1.app (sl (some p) none)
     have b1:=a1.2
     have b2:=sz (some p) none
     refine⟨_,_,rfl,rfl,At (by have:=sz none (some p);show _+1<=_;omega),_,rfl,_,rfl,_,rfl,x,rfl,sy _ _,_,_,rfl,rfl,At (by omega),k _ _ (Same.refl H) (a2.mono (by omega))⟩
   refine Fs (fun σ' H'=>σ'=[some (.ref a),some (.str x),some (.int w),some (.int p),some (.int c),none,none,none]/\H=H') ?_ fun key0=>key0 _ _ ⟨rfl,rfl⟩
   rintro _ _ ⟨rfl,rfl⟩
   refine⟨_,rfl,_,_,rfl,rfl,d6,rfl,_,rfl,?_⟩
   refine ite2 (fun h1=>?_) (fun _=>?_)
   . have a1:=(sl none (some p)).app (sl (some (p+1)) none)
     have b1:=sz none (some p)
     have b2:=sz (some (p+1)) none
     exact ⟨_,rfl,_,rfl,_,rfl,x,rfl,sy _ _,_,rfl,_,rfl,_,_,rfl,rfl,_,rfl,x,rfl,sy _ _,_,_,rfl,rfl,At (by omega),k _ _ (Same.refl H) (a1.mono (by omega))⟩
   refine Fs (fun σ' H'=>σ'=[some (.ref a),some (.str x),some (.int w),some (.int p),some (.int c),none,none,none]/\H=H') ?_ fun key0=>key0 _ _ ⟨rfl,rfl⟩
   rintro _ _ ⟨rfl,rfl⟩
   refine⟨_,rfl,_,_,rfl,rfl,d6,rfl,_,rfl,?_⟩
   refine ite2 (fun h1=>?_) (fun _=>?_)
   . refine⟨_,rfl,_,rfl,_,rfl,x,rfl,sy _ _,_,rfl,c,rfl,fun z hz=>?_⟩
     have a1:=(sl none (some p)).app (asc1 hz)
     have a2:=a1.app (sl (some (p+1)) none)
     have b1:=a1.2
     have b2:=sz (some (p+1)) none
     refine⟨_,_,rfl,rfl,At (by have:=sz none (some p);show _+1<=_;omega),_,rfl,_,rfl,_,_,rfl,rfl,_,rfl,x,rfl,sy _ _,_,_,rfl,rfl,At (by omega),k _ _ (Same.refl H) (a2.mono (by omega))⟩
   refine Fs (fun σ' H'=>σ'=[some (.ref a),some (.str x),some (.int w),some (.int p),some (.int c),none,none,none]/\H=H') ?_ fun key0=>key0 _ _ ⟨rfl,rfl⟩
   rintro _ _ ⟨rfl,rfl⟩
   obtain⟨sp1,sp2⟩:=Ij hx (y:=Str.ofString " ") (by decide)
   have sp3:=Zq (x:=x) (y:=Str.ofString " ") (by decide)
   have sp4:=Wt x (Str.ofString " ")
   generalize ews:Txt.split x (Str.ofString " ")=ws at sp1 sp2 sp3 sp4
   have sp5:0<ws.length:=List.length_pos_iff.mpr sp4
   refine Ao (fun σ' H'=>∃ l:Addr,σ'=[some (.ref a),some (.str x),some (.int w),some (.int p),some (.int c),some (.ref l),none,none]/\H l=none/\Same H H'/\H' l=some (.lst (ws.map V.str))) ?_ fun key=>?_
   rotate_left
   . refine⟨_,rfl,rfl,_,_,rfl,rfl,by decide +kernel,At (by omega),fun l hl=>?_⟩
     rw [ews]
     exact key _ _ ⟨l,rfl,hl,Same.new hl,Ae⟩
   rintro _ H1 ⟨l,rfl,hl0,s1,h1l⟩
   have e1:((ws.map V.str).length:Int)=(ws.length:Int):=by rw [List.length_map]
   refine Ao (fun σ' H'=>∃ k6:Nat,σ'=[some (.ref a),some (.str x),some (.int w),some (.int p),some (.int c),some (.ref l),some (.int (k6:Int)),none]/\H1=H'/\k6<ws.length) ?_ fun key=>?_
   rotate_left
   . refine⟨_,rfl,_,rfl,l,_,rfl,.inl (.of h1l),_,_,rfl,rfl,(by show (0:Int)<((ws.map V.str).length:Int);omega),?_⟩
     have h0:=Int.emod_nonneg c (b:=((ws.map V.str).length:Int)) (by omega)
     have h1:=Int.emod_lt_of_pos c (b:=((ws.map V.str).length:Int)) (by omega)
     exact key _ _ ⟨(c%((ws.map V.str).length:Int)).toNat,by rw [Int.toNat_of_nonneg h0];rfl,rfl,by omega⟩
   rintro _ _ ⟨k6,rfl,rfl,hk6⟩
   refine Ao (fun σ' H'=>∃ o:Str,σ'=[some (.ref a),some (.str x),some (.int w),some (.int p),some (.int c),some (.ref l),some (.int (k6:Int)),some (.str o)]/\H1=H'/\Asc 4000 o) ?_ fun key=>?_
   rotate_left
   . refine⟨_,rfl,_,rfl,_,_,rfl,rfl,⟨by decide,by decide⟩,_,rfl,l,_,rfl,.inl (.of h1l),_,_,rfl,rfl,(by show (0:Int)<((ws.map V.str).length:Int);omega),?_⟩
     have h0:=Int.emod_nonneg (c / 7) (b:=((ws.map V.str).length:Int)) (by omega)
     have h1:=Int.emod_lt_of_pos (c / 7) (b:=((ws.map V.str).length:Int)) (by omega)
     have hj:(c / 7%((ws.map V.str).length:Int)).toNat<ws.length:=by omega
     refine⟨l,_,_,.str ws[(c / 7%((ws.map V.str).length:Int)).toNat],rfl,rfl,.of h1l,?_,key _ _ ⟨_,rfl,rfl,sp1 _ (List.getElem_mem hj)⟩⟩
     have e:=Int.toNat_of_nonneg h0
     have:=Cb (xs:=ws.map V.str) (j:=(c / 7%((ws.map V.str).length:Int)).toNat) (v:=.str ws[(c / 7%((ws.map V.str).length:Int)).toNat]) (by rw [List.getElem?_map,List.getElem?_eq_getElem hj];rfl)
     rw [e] at this
     exact this
   rintro _ _ ⟨o,rfl,rfl,ho⟩
   refine Ao (fun σ' H'=>∃ o:Str,σ'=[some (.ref a),some (.str x),some (.int w),some (.int p),some (.int c),some (.ref l),some (.int (k6:Int)),some (.str o)]/\H1=H'/\Asc 4000 o) ?_ fun key=>?_
   rotate_left
   . have oz:∀ lo hi,(slS o lo hi).length<=sizeLine:=fun lo hi=>At (by have:=(Zv (lo:=lo) (hi:=hi) ho).2;omega)
     refine⟨_,rfl,_,_,rfl,rfl,⟨by decide,by decide⟩,_,_,rfl,rfl,(by decide:(0:Int)<2),rfl,_,rfl,?_⟩
     refine ite2 (fun h1=>?_) (fun h1=>?_)
     rotate_left
     . exact ifN (by decide) (key _ _ ⟨o,rfl,rfl,ho⟩)
     refine⟨_,rfl,_,rfl,_,rfl,o,rfl,oz _ _,rfl,_,rfl,?_⟩
     refine ite2 (fun h2=>?_) (fun h2=>?_)
     . exact ⟨_,rfl,_,rfl,_,rfl,o,rfl,oz _ _,key _ _ ⟨_,rfl,rfl,Zv ho⟩⟩
     . exact key _ _ ⟨o,rfl,rfl,ho⟩
   clear ho o
   rintro _ _ ⟨o,rfl,rfl,ho⟩
   have oc:=ho.1
   have ol:=ho.2
   have wc:∀ v∈ws,∀ z∈v.cps.toList,z<128:=fun v hv=>(sp1 v hv).1
   refine Ao (fun σ' H'=>∃ ws':List Str,σ'=[some (.ref a),some (.str x),some (.int w),some (.int p),some (.int c),some (.ref l),some (.int (k6:Int)),some (.str o)]/\Same H H'/\H' l=some (.lst (ws'.map V.str))/\(∀ v∈ws',∀ z∈v.cps.toList,z<128)/\tot ws'<=8100/\ws'.length=ws.length) ?_ fun key=>?_
   rotate_left
   . refine⟨_,rfl,_,_,rfl,rfl,d6,rfl,_,rfl,?_⟩
     refine ite2 (fun h1=>?_) (fun _=>?_)
     rotate_left
     . exact key _ _ ⟨ws,rfl,s1,h1l,wc,by omega,rfl⟩
     refine⟨_,rfl,_,rfl,_,rfl,l,_,_,k6,rfl,rfl,h1l,Af0 (by rw [List.length_map];exact hk6),?_⟩
     refine key _ _ ⟨ws.set k6 o,rfl,s1.turn hl0,by rw [Ae,List.map_set],fun v hv=>?_,?_,List.length_set⟩
     . rcases List.mem_or_eq_of_mem_set hv with z | z
       . exact wc v z
       . rw [z];exact oc
     . have:=Zr o ws k6
       omega
   rintro _ H2 ⟨ws',rfl,s2,h2l,wc',wt',wl'⟩
   refine Ao (fun σ' H'=>∃ (m:Addr) (vs:List Str),σ'=[some (.ref a),some (.str x),some (.int w),some (.int p),some (.int c),some (.ref m),some (.int (k6:Int)),some (.str o)]/\Same H H'/\H' m=some (.lst (vs.map V.str))/\(∀ v∈vs,∀ z∈v.cps.toList,z<128)/\tot vs<=17000) ?_ fun key=>?_
   rotate_left
   . refine⟨_,rfl,_,_,rfl,rfl,d6,rfl,_,rfl,?_⟩
     refine ite2 (fun h1=>?_) (fun _=>?_)
     rotate_left
     . exact key _ _ ⟨l,ws',rfl,s2,h2l,wc',by omega⟩
     refine⟨_,rfl,_,rfl,_,rfl,l,_,rfl,.of h2l,fun b1 hb1=>?_⟩
     rw [Fl,←List.map_take]
     have t1:Same H2 (upd H2 b1 (.lst ((ws'.take k6).map V.str))):=Same.new hb1
     have g1:upd H2 b1 (.lst ((ws'.take k6).map V.str)) b1=some (.lst ((ws'.take k6).map V.str)):=Ae
     generalize upd H2 b1 (.lst ((ws'.take k6).map V.str))=G1 at t1 g1 ⊢
     refine⟨_,rfl,At (by simp),fun b2 hb2=>?_⟩
     have t2:Same G1 (upd G1 b2 (.lst [.str o])):=Same.new hb2
     have g2:upd G1 b2 (.lst [.str o]) b2=some (.lst [.str o]):=Ae
     generalize upd G1 b2 (.lst [.str o])=G2 at t2 g2 ⊢
     have m0:=Int.emod_nonneg (w / 12) (b:=2) (by decide)
     have m1:=Int.emod_lt_of_pos (w / 12) (b:=2) (by decide)
     refine⟨_,rfl,_,_,rfl,rfl,⟨by decide,by decide⟩,_,_,rfl,rfl,(by decide:(0:Int)<2),_,_,rfl,rfl,b2,1+w / 12%2,_,rfl,rfl,g2,by omega,by omega,At (by simp;omega),fun b3 hb3=>?_⟩
     have hk2:(1+w / 12%2).toNat<=2:=by omega
     generalize (1+w / 12%2).toNat=kk at hk2 hb3 ⊢
     rw [Ab9]
     have t3:Same G2 (upd G2 b3 (.lst (((List.replicate kk [o]).flatten).map V.str))):=Same.new hb3
     have g3:upd G2 b3 (.lst (((List.replicate kk [o]).flatten).map V.str)) b3=some (.lst (((List.replicate kk [o]).flatten).map V.str)):=Ae
     generalize upd G2 b3 (.lst (((List.replicate kk [o]).flatten).map V.str))=G3 at t3 g3 ⊢
     have wl2:ws'.length<=8100:=by unfold tot at wt';omega
     have rl:((List.replicate kk [o]).flatten).length<=2:=by rw [c5];simp;exact hk2
     refine⟨b1,b3,_,_,rfl,rfl,.of (t3 _ _ (t2 _ _ g1)),.of g3,At (by rw [List.length_map,List.length_map,List.length_take];omega),fun b4 hb4=>?_⟩
     rw [←List.map_append]
     have t4:Same G3 (upd G3 b4 (.lst ((ws'.take k6++(List.replicate kk [o]).flatten).map V.str))):=Same.new hb4
     have g4:upd G3 b4 (.lst ((ws'.take k6++(List.replicate kk [o]).flatten).map V.str)) b4=some (.lst ((ws'.take k6++(List.replicate kk [o]).flatten).map V.str)):=Ae
     generalize upd G3 b4 (.lst ((ws'.take k6++(List.replicate kk [o]).flatten).map V.str))=G4 at t4 g4 ⊢
     have s24:=((t1.trans t2).trans t3).trans t4
     refine⟨_,rfl,_,rfl,_,rfl,l,_,rfl,.of (s24 _ _ h2l),fun b5 hb5=>?_⟩
     rw [Lh,←List.map_drop]
     have t5:Same G4 (upd G4 b5 (.lst ((ws'.drop k6).map V.str))):=Same.new hb5
     have g5:upd G4 b5 (.lst ((ws'.drop k6).map V.str)) b5=some (.lst ((ws'.drop k6).map V.str)):=Ae
     generalize upd G4 b5 (.lst ((ws'.drop k6).map V.str))=G5 at t5 g5 ⊢
     refine⟨b4,b5,_,_,rfl,rfl,.of (t5 _ _ g4),.of g5,At (by rw [List.length_map,List.length_map,List.length_append,List.length_take,List.length_drop];omega),fun b6 hb6=>?_⟩
     rw [←List.map_append]
     refine key _ _ ⟨b6,_,rfl,((s2.trans s24).trans t5).trans (Same.new hb6),Ae,fun v hv=>?_,?_⟩
     . rcases List.mem_append.mp hv with z | z
       . rcases List.mem_append.mp z with z | z
         . exact wc' v (List.mem_of_mem_take z)
         . rw [Ae6 z];exact oc
       . exact wc' v (List.mem_of_mem_drop z)
     . have et:tot (ws'.take k6)+tot (ws'.drop k6)=tot ws':=by rw [←Ow,List.take_append_drop]
       rw [Ow,Ow,Aa6]
       have:kk*(o.length+1)<=2*4001:=Nat.mul_le_mul hk2 (by omega)
       omega
   rintro _ H3 ⟨m,vs,rfl,s3,h3m,vc,vt⟩
   have ja:=u6 vc vt
   refine⟨rfl,_,rfl,Str.ofString " ",m,_,rfl,rfl,.of h3m,?_,?_⟩
   . rw [show (Str.ofString " ").length=1 by decide +kernel]
     unfold tot at vt
     omega
   . rw [Ah2]
     exact k _ _ s3 (ja.mono (by decide))
abbrev Ba:Stmt:=top 13
theorem Gp:FnScope ["shape","thing","level"] ["shape","thing","level"] (Ak Ba):=⟨rfl,rfl,rfl,by decide +kernel,rfl,by decide +kernel,by decide +kernel⟩
theorem Gr {f:Addr}{fd:FuncData} (F:Fun K "is_place_of_level" "is_place_of_level" Ba f fd) (T:Txt K mg Aj Ad Ah Af Ac) (De:Has P w K mg base "is_whole_below" ["thing","bound"] 2 (C0 K)) (Dw:Has P w K mg base "level_of" ["piece"] 1 (E4 K)):FnOk P w K mg base CX0 3 f fd ["shape","thing","level"] (Cg K):=by
 refine F.ok Gp (fun vs H Q E h=>?_) (fun B5 A outer s H vs Q E hr h=>?_)
 . obtain⟨a,x,d,l,xs,rfl,hL,hx,k⟩:=h
   rfl
 . obtain⟨a,x,d,l,xs,rfl,hL,hx,k⟩:=h
   refine⟨_,(Al (Ay (Ip (Aw De hr (by rfl) (Ab (pv 1) (Ab (Ap (Ar (K:=K)) (by rfl) T.n_len PySem.boot_len (Ab (pv 0) Ai)) Ai))) (Im (Ju Fb (Aw Dw hr (by rfl) (Ab (Ce (Bs (K:=K)) (pv 0) (pv 1) (fun _ _=>rfl)) Ai)) (pv 2) (A6 _)))))),?_⟩
   obtain⟨us,hq,hul⟩:=LT.len hL
   refine⟨_,rfl,_,rfl,a,us,rfl,.inl hq,x,d,_,rfl,hx,_,rfl,?_⟩
   rw [hul]
   refine ite2 (fun e=>?_) (fun e=>?_)
   . obtain⟨i,rfl⟩:∃ i,d=.int i:=by cases d<;>first | exact ⟨_,rfl⟩ | (exfalso;simp [T9] at e)
     cases (show x=.int i from hx)
     have e':(decide (0<=i)&&decide (i<(xs.length:Int)))=true:=e
     have h0:0<=i/\i<(xs.length:Int):=by simpa using e'
     obtain⟨us',v,hq',hv,tv⟩:=LT.get hL h0.1 h0.2
     refine⟨_,rfl,_,rfl,a,us',i,v,rfl,rfl,hq',hv,v,_,rfl,.inr tv,_,rfl,rfl,?_⟩
     have e2:Bf xs (.int i) l=decide (levI (nums (xs.getD i.toNat [])).length=l):=by
      show (decide (0<=i)&&decide (i<(xs.length:Int))&&decide (levI (xs.getD i.toNat []).length=l))=_
      rw [e']
      simp [nums]
     rw [e2] at k
     have e3:decide (V.int (levI (nums (xs.getD i.toNat [])).length)=V.int l)=decide (levI (nums (xs.getD i.toNat [])).length=l):=by
      by_cases z:levI (nums (xs.getD i.toNat [])).length=l
      . simp [z]
      . simp [z]
     rw [e3]
     exact k
   . have e2:Bf xs d l=false:=by
      cases d with
      | int i =>
        have e':¬(decide (0<=i)&&decide (i<(xs.length:Int)))=true:=e
        show (decide (0<=i)&&decide (i<(xs.length:Int))&&decide (levI (xs.getD i.toNat []).length=l))=false
        rw [Bool.eq_false_iff.mpr e']
        rfl
      | _=>rfl
     rw [e2] at k
     exact k
abbrev B7:Stmt:=top 37
theorem Pc:FnScope ["_law_kind","_law_cells","_law_most","_law_family","_law_words","_law_cell","_law_more"] ["_law_kind","_law_cells","_law_most"] (Ak B7):=⟨rfl,rfl,rfl,by decide +kernel,rfl,by decide +kernel,by decide +kernel⟩
theorem B0:(["_law_kind","_law_cells","_law_most","_law_family","_law_words","_law_cell","_law_more"]:List Str).Nodup:=by decide +kernel
theorem Pm {f:Addr}{fd:FuncData} (F:Fun K "_law_shape_by" "_law_shape_by" B7 f fd) (T:Txt K mg Aj Ad Ah Af Ac) (Ek:Has P w K mg base "_law_words_with" ["_law_words","_law_word","_law_family"] 2 (Dy K)) (Ho:Has P w K mg base "_law_word_by" ["_law_cell","_law_family","_law_letters"] 1 (Ft K)) (Cq:Has P w K mg base "_law_faces_by" ["_law_word","_law_family"] 1 (Dk K)):FnOk P w K mg base CX0 3 f fd ["_law_kind","_law_cells","_law_most"] (E6 K):=by
 refine F.ok Pc (fun vs H Q E h=>?_) (fun B5 A outer s H vs Q E hr h=>?_)
 . obtain⟨a,ns,kind,most,rfl,hS,hl,hm0,hm1,k⟩:=h
   rfl
 . obtain⟨a,ns,kind,most,rfl,hS,hl,hm0,hm1,k⟩:=h
   have hu8:(A.deeper (PyProof.Rows.envOfC "_law_shape_by" (Ak B7) s.heap.objs.size f B5)).units+8<cLine:=by have:=hr.units;omega
   refine⟨_,(Ag (As (i:=3) B0 (by rfl) (by first | exact Or.inl rfl | exact Or.inr rfl) Am)
    (Ag (Bj (Av Fb (Az Bq (pv 0) Am) Am (A6 _)) (Al (As (i:=3) B0 (by rfl) (by first | exact Or.inl rfl | exact Or.inr rfl) (Ac7 Zn Am))) Au)
    (Ag (Bj (Av Fb (Az Bq (pv 0) Am) Am (A6 _)) (Al (As (i:=3) B0 (by rfl) (by first | exact Or.inl rfl | exact Or.inr rfl) (Az Cy Am (Az Bq (Az D4 (pv 0) Am) Am)))) Au)
    (Ag (As (i:=4) B0 (by rfl) (by first | exact Or.inl rfl | exact Or.inr rfl) (Db Ai))
    (Ag (Bz PassesOwn.never rfl (Br (K:=K) (pv 1)) (A1 (i:=5) B0 (by rfl) (by first | exact Or.inl rfl | exact Or.inr rfl)) (Ag (As (i:=6) B0 (by rfl) (by first | exact Or.inl rfl | exact Or.inr rfl) (Aw Ek hr (by rfl) (Ab (pv 4) (Ab (Aw Ho hr (by rfl) (Ab (pv 5) (Ab (pv 3) (Ab (Az Cy Am (Az Bq (Az D4 (pv 0) Am) Am)) Ai)))) (Ab (pv 3) Ai)))))
    (Al (Bj (Av a6 (Ap (Ar (K:=K)) (by rfl) T.n_len PySem.boot_len (Ab (pv 6) Ai)) (pv 2) (A6 _)) (Al (As (i:=4) B0 (by rfl) (by first | exact Or.inl rfl | exact Or.inr rfl) (pv 6))) Au))))
    (Al (Ay (Fa (N':=["_law_word","_law_family","_law_words"]) (cap:=[none,some 3,some 4]) (by rfl) (by kernel_rfl) (Br (K:=K) (pv 4)) (fun _ _ _ _=>(A1 (i:=0) Ao7 (by rfl) (by first | exact Or.inl rfl | exact Or.inr rfl))) (fun _ _ _ _=>Dd) (fun _ _ _ _=>(Cv (Ei (K:=K)) (by rfl) T.n_tuple C9 (Ab (Fa (N':=["_law_face","_law_words"]) (cap:=[none,some 2]) (by rfl) (by kernel_rfl) (Br (K:=K) (Aw Cq hr (by rfl) (Ab (pv 0) (Ab (pv 1) Ai)))) (fun _ _ _ _=>(A1 (i:=0) Ao6 (by rfl) (by first | exact Or.inl rfl | exact Or.inr rfl))) (fun _ _ _ _=>Dd) (fun _ _ _ _=>(Cz (K:=K) PySem.F.plainAttrs_list PySem.F.slot_list_index PySem.F.type_list_index (Sq (K:=K) hu8) (pv 1) (Ab (pv 0) Ai)))) Ai))))))))))),?_⟩
   refine Fs (fun σ' H'=>σ'=[some (.int kind),some (.ref a),some (.int most),some (.int 0),none,none,none]/\H=H') ?_ fun key0=>key0 _ _ ⟨rfl,rfl⟩
   rintro _ _ ⟨rfl,rfl⟩
   refine Ao (fun σ' H'=>∃ fam:Int,σ'=[some (.int kind),some (.ref a),some (.int most),some (.int fam),none,none,none]/\H=H'/\fam<100) ?_ fun key1=>?_
   rotate_left
   . refine⟨_,rfl,_,_,rfl,rfl,(by show (0:Int)<3;decide),rfl,_,rfl,?_⟩
     refine ite2 (fun _=>?_) (fun _=>?_)
     . exact ⟨_,rfl,key1 _ _ ⟨-1,rfl,rfl,by decide⟩⟩
     . exact key1 _ _ ⟨0,rfl,rfl,by decide⟩
   rintro _ _ ⟨fam0,rfl,rfl,hf0⟩
   refine Ao (fun σ' H'=>∃ fam:Int,σ'=[some (.int kind),some (.ref a),some (.int most),some (.int fam),none,none,none]/\H=H'/\fam<100) ?_ fun key2=>?_
   rotate_left
   . refine⟨_,rfl,_,_,rfl,rfl,(by show (0:Int)<3;decide),rfl,_,rfl,?_⟩
     refine ite2 (fun _=>?_) (fun _=>?_)
     . refine⟨_,rfl,_,_,rfl,rfl,⟨by decide,by decide⟩,_,_,rfl,rfl,(by show (0:Int)<19;decide),_,_,rfl,rfl,key2 _ _ ⟨_,rfl,rfl,?_⟩⟩
       have:kind / 18%19<19:=Int.emod_lt_of_pos _ (by decide)
       omega
     . exact key2 _ _ ⟨fam0,rfl,rfl,hf0⟩
   rintro _ _ ⟨fam,rfl,rfl,hf⟩
   have l1:0<=kind / 3%6:=Int.emod_nonneg _ (by decide)
   have l2:kind / 3%6<6:=Int.emod_lt_of_pos _ (by decide)
   refine⟨Nat.zero_le _,fun W0 hW0=>?_⟩
   have s0:Same H (upd H W0 (.lst [])):=Same.new hW0
   refine⟨_,rfl,a,rfl,⟨_,s0.seq hS⟩,for_list (K:=K) (a:=a) (xs:=ns.map V.int)
    (fun j σ H2=>∃ (W:Addr) (wu:List V) (ws:List (List Int)) (o5 o6:Option V),σ=[some (.int kind),some (.ref a),some (.int most),some (.int fam),some (.ref W),o5,o6]/\Same H H2/\H W=none/\H2 W=some (.lst wu) ∧
      Reps K H2 wu (ws.map tI)/\Ord fam ws/\(ws.length:Int)<=most)
    ⟨W0,[],[],none,none,rfl,s0,hW0,Ae,rfl,Ord.nil,by simpa using hm0⟩ (fun j σ H2 _ ⟨_,_,_,_,_,_,s2,_⟩=>s2.seq hS) ?_ ?_⟩
   . rintro j x σ H2 hx ⟨W,wu,ws,o5,o6,rfl,s2,hW,hW2,rW,hO,hwl⟩
     have hjn:j<ns.length:=by have:=(List.getElem?_eq_some_iff.mp hx).1;simpa using this
     have hxv:x=.int ns[j]:=by
      rw [List.getElem?_map,List.getElem?_eq_getElem hjn] at hx
      simpa using hx.symm
     subst hxv
     refine⟨_,rfl,_,rfl,_,rfl,_,rfl,_,_,rfl,rfl,⟨by decide,by decide⟩,_,_,rfl,rfl,(by show (0:Int)<6;decide),_,_,rfl,rfl,?_⟩
     refine⟨_,_,_,rfl,by omega,by omega,by omega,fun v H3 w s3 tv hw=>?_⟩
     refine⟨_,rfl,?_⟩
     refine⟨W,wu,v,ws,w,fam,rfl,s3 _ _ hW2,Reps.same s3 rW,tv,hw,by omega,fun M mu H4 hM s4 hM4 rM=>?_⟩
     have s24:=s3.trans s4
     have hMH:H M=none:=(s2.trans s3).free hM
     have mul:mu.length=(Ii ws w fam).length:=by have:=rM.length;simpa using this
     refine⟨_,rfl,M,_,rfl,.inl (.of hM4),_,rfl,_,_,rfl,rfl,_,rfl,?_⟩
     refine ite2 (fun h1=>?_) (fun h1=>?_)
     . have h2:(mu.length:Int)<=most:=by simpa using h1
       exact ⟨_,rfl,M,mu,Ii ws w fam,_,_,rfl,s2.trans s24,hMH,hM4,rM,Ou hO hw,by omega⟩
     . exact ⟨W,wu,ws,_,_,rfl,s2.trans s24,hW,s24 _ _ hW2,Reps.same s24 rW,hO,hwl⟩
   . rintro σ H2 ⟨W,wu,ws,o5,o6,rfl,s2,hW,hW2,rW,hO,hwl⟩
     have wul:wu.length=ws.length:=by have:=rW.length;simpa using this
     refine⟨_,rfl,W,rfl,⟨_,.of hW2⟩,fun D hD=>?_⟩
     have hDH:H D=none:=s2.free hD
     refine Cr (K:=K) (a:=W) (xs:=wu) (fun i ys τ H1=>Same H2 H1/\H1 D=some (.lst ys)/\Reps K H1 ys (((ws.take i).map fun w=>(An w fam).map fun f=>(idx ws f:Int)).map tI)/\∃ o,τ=[o,some (.int fam),some (.ref W)])
      ⟨Same.new hD,Ae,rfl,none,rfl⟩ (fun i ys τ H1 _ ⟨s1,_⟩=>.of (s1 _ _ hW2)) ?_ ?_
     . rintro i x ys τ H1 hx ⟨s1,hD1,r1,o,rfl⟩
       have hi:i<wu.length:=(List.getElem?_eq_some_iff.mp hx).1
       have hil:i<ws.length:=by omega
       have hix:(ws.map tI)[i]?=some (tI ws[i]):=by rw [List.getElem?_map,List.getElem?_eq_getElem hil];rfl
       obtain⟨x',hx',tx⟩:=rW.get hix
       rw [hx] at hx'
       cases hx'
       obtain⟨hwi,hfi⟩:=hO.mem (List.getElem_mem hil)
       generalize hwe:ws[i]=w at tx hwi hfi
       refine⟨_,rfl,_,rfl,x,w,fam,rfl,TI.same s1 tx,hwi,fun p fu H3 hp s3 hp3 r3=>?_⟩
       have ful:fu.length=(An w fam).length:=by have:=r3.length;simpa using this
       have s13:=s1.trans s3
       refine⟨p,rfl,⟨_,.of hp3⟩,fun D2 hD2=>?_⟩
       refine Cr (K:=K) (a:=p) (xs:=fu) (fun m zs τ H4=>Same H3 H4/\H4 D2=some (.lst zs)/\zs=((An w fam).take m).map (fun f=>V.int (idx ws f:Int))/\∃ o,τ=[o,some (.ref W)])
        ⟨Same.new hD2,Ae,rfl,none,rfl⟩ (fun m zs τ H4 _ ⟨s4,_⟩=>.of (s4 _ _ hp3)) ?_ ?_
       . rintro m y zs τ H4 hy ⟨s4,hD4,hzs,o,rfl⟩
         have hm:m<fu.length:=(List.getElem?_eq_some_iff.mp hy).1
         have hmf:m<(An w fam).length:=by omega
         have hmy:((An w fam).map tI)[m]?=some (tI (An w fam)[m]):=by rw [List.getElem?_map,List.getElem?_eq_getElem hmf];rfl
         obtain⟨y',hy',ty⟩:=r3.get hmy
         rw [hy] at hy'
         cases hy'
         have hfm:(An w fam)[m]∈ws:=hfi _ (List.getElem_mem _)
         have s14:=s13.trans s4
         have rw4:Rep K H4 (.ref W) (.lst (ws.map tI)):=⟨W,wu,rfl,.of (s14 _ _ hW2),Reps.same s14 rW⟩
         have hfl:=(Ew hwi)
         have hzl:zs.length<=4:=by
          rw [hzs,List.length_map,List.length_take]
          have:=hfl.2
          have:=hfl.1
          split at this<;>omega
         refine⟨_,rfl,.inl ⟨rfl,_,.of (s14 _ _ hW2)⟩,_,rfl,ws.map tI,y,tI (An w fam)[m],idx ws (An w fam)[m],rfl,rw4,TI.same s4 ty,(by have:=Gm ws;omega),Yy hfm,?_⟩
         refine⟨hD4,Dl (by omega),s4.turn hD2,Ae,?_,_,rfl⟩
         rw [List.take_succ,List.getElem?_eq_getElem hmf,List.map_append,hzs]
         rfl
       . rintro zs τ H4 ⟨s4,hD4,hzs,_⟩
         rw [ful,List.take_length] at hzs
         have s14:=s13.trans s4
         refine⟨D2,_,rfl,.inl ⟨.of hD4,fun T hT=>?_⟩⟩
         have s5:Same H4 (upd H4 T (.tup zs)):=Same.new hT
         have hD5:=(s3.trans (s4.trans s5)) _ _ hD1
         have t5:TI K (upd H4 T (.tup zs)) (.ref T) ((An w fam).map fun f=>(idx ws f:Int)):=by
          refine TI.mk (.of ?_)
          rw [List.map_map,Ae,hzs]
          rfl
         have hyl:ys.length=i:=by have:=r1.length;simp at this;omega
         refine⟨hD5,Dl (by omega),(s14.trans s5).turn hD,Ae,?_,_,rfl⟩
         have e2:(ws.take (i+1)).map (fun w=>(An w fam).map fun f=>(idx ws f:Int))=(ws.take i).map (fun w=>(An w fam).map fun f=>(idx ws f:Int))++[(An w fam).map fun f=>(idx ws f:Int)]:=by
          rw [List.take_succ,List.getElem?_eq_getElem hil,hwe,List.map_append]
          rfl
         rw [e2]
         exact Hk hD5 (Reps.same (s3.trans (s4.trans s5)) r1) t5
     . rintro ys τ H1 ⟨s1,hD1,r1,_⟩
       rw [wul,List.take_length] at r1
       exact k D ys H1 (Hj ws fam) hDH (s2.trans s1) hD1 r1 (Pb hO) (by unfold Hj;rw [List.length_map];exact hwl)
abbrev C7:Stmt:=top 41
theorem U5:FnScope ["_law_text","_law_rows","_law_row","_law_word","_law_names","_law_shape","_law_place"] ["_law_text"] (Ak C7):=⟨rfl,rfl,rfl,by decide +kernel,rfl,by decide +kernel,by decide +kernel⟩
theorem B1:(["_law_text","_law_rows","_law_row","_law_word","_law_names","_law_shape","_law_place"]:List Str).Nodup:=by decide +kernel
theorem Vj {f:Addr}{fd:FuncData} (F:Fun K "_law_due_of" "_law_due_of" C7 f fd) (T:Txt K mg Aj Ad Ah Af Ac) (Hs:Has P w K mg base "_law_fits_by" ["_law_shape","_law_thing"] 2 (Fw K)) (Hr:Has P w K mg base "_law_name_is" ["_law_word"] 1 (Jj K)):FnOk P w K mg base CX0 3 f fd ["_law_text"] (Ut K):=by
 refine F.ok U5 (fun vs H Q E h=>?_) (fun B5 A outer s H vs Q E hr h=>?_)
 . obtain⟨v,e,rfl,hv,ha,k⟩:=h
   rfl
 . obtain⟨v,e,rfl,hv,ha,k⟩:=h
   have hu8:(A.deeper (PyProof.Rows.envOfC "_law_due_of" (Ak C7) s.heap.objs.size f B5)).units+8<cLine:=by have:=hr.units;omega
   refine⟨_,(Ag (Bj (Eu (Et (Ap (Ms (K:=K)) (by rfl) T.n_isinstance Aq (Ab (pv 0) (Ab (D3 (v:=.ty "str") rfl T.n_str T2 rfl) Ai))))) (Al (Ay (B4 (Ab A5 (Ab Fr Ai))))) Au)
    (Ag (As (i:=1) B1 (by rfl) (by first | exact Or.inl rfl | exact Or.inr rfl) (Db Ai))
    (Ag (Bj (Av X2 (pv 0) A5 (A6 _)) (Al (Z0 (N':=["_law_row"]) (cap:=[none]) (i:=1) B1 (by rfl) (by first | exact Or.inl rfl | exact Or.inr rfl) (by rfl) (by kernel_rfl) (Br (K:=K) (Cz (K:=K) PySem.F.plainAttrs_str PySem.F.slot_str_split PySem.F.type_str_split F3 (pv 0) (Ab A5 Ai))) (fun _ _ _ _=>(A1 (i:=0) Ak7 (by rfl) (by first | exact Or.inl rfl | exact Or.inr rfl))) (fun _ _ _ _=>Dd) (fun _ _ _ _=>(Cz (K:=K) PySem.F.plainAttrs_str PySem.F.slot_str_split PySem.F.type_str_split F3 (pv 0) (Ab A5 Ai))))) Au)
    (Ag (Bz PassesOwn.never rfl (Br (K:=K) (pv 1)) (A1 (i:=2) B1 (by rfl) (by first | exact Or.inl rfl | exact Or.inr rfl)) (Al (Bz PassesOwn.never rfl (Br (K:=K) (pv 2)) (A1 (i:=3) B1 (by rfl) (by first | exact Or.inl rfl | exact Or.inr rfl)) (Al (Bj (Eu (Et (Aw Hr hr (by rfl) (Ab (pv 3) Ai)))) (Al (Ay (B4 (Ab A5 (Ab Fr Ai))))) Au)))))
    (Ag (As (i:=4) B1 (by rfl) (by first | exact Or.inl rfl | exact Or.inr rfl) (Db Ai))
    (Ag (As (i:=5) B1 (by rfl) (by first | exact Or.inl rfl | exact Or.inr rfl) (Db Ai))
    (Ag (Bz PassesOwn.never rfl (Br (K:=K) (pv 1)) (A1 (i:=2) B1 (by rfl) (by first | exact Or.inl rfl | exact Or.inr rfl)) (Ag (Bz PassesOwn.never rfl (Br (K:=K) (A9 (Ed (K:=K)) (pv 2) (Bg Am) Bm)) (A1 (i:=3) B1 (by rfl) (by first | exact Or.inl rfl | exact Or.inr rfl)) (Al (Bj (Av (Dt (K:=K) hu8) (pv 3) (pv 4) rfl) (Al (Ay (B4 (Ab A5 (Ab Fr Ai))))) Au)))
    (Ag (Bj (Av (c7 (K:=K) hu8) (Ce (Bs (K:=K)) (pv 2) Am (fun _ _=>rfl)) (pv 4) rfl) (Al (Ay (B4 (Ab A5 (Ab Fr Ai))))) Au)
    (Ag (Eg (Cz (K:=K) PySem.F.plainAttrs_list PySem.F.slot_list_append PySem.F.type_list_append B9 (pv 5) (Ab (Cv (Ei (K:=K)) (by rfl) T.n_tuple C9 (Ab (Fa (N':=["_law_word","_law_names"]) (cap:=[none,some 4]) (by rfl) (by kernel_rfl) (Br (K:=K) (A9 (Ed (K:=K)) (pv 2) (Bg Am) Bm)) (fun _ _ _ _=>(A1 (i:=0) Ao5 (by rfl) (by first | exact Or.inl rfl | exact Or.inr rfl))) (fun _ _ _ _=>Dd) (fun _ _ _ _=>(Cz (K:=K) PySem.F.plainAttrs_list PySem.F.slot_list_index PySem.F.type_list_index (Sq (K:=K) hu8) (pv 1) (Ab (pv 0) Ai)))) Ai)) Ai)))
    (Al (Eg (Cz (K:=K) PySem.F.plainAttrs_list PySem.F.slot_list_append PySem.F.type_list_append B9 (pv 4) (Ab (Ce (Bs (K:=K)) (pv 2) Am (fun _ _=>rfl)) Ai))))))))
    (Ag (Bj (Av r6 (Ap (Ar (K:=K)) (by rfl) T.n_len PySem.boot_len (Ab (pv 5) Ai)) Am (A6 _)) (Al (Ay (B4 (Ab A5 (Ab Fr Ai))))) Au)
    (Ag (Bz PassesOwn.never rfl (B3 (by rfl) T.n_range (Ab (Ap (Ar (K:=K)) (by rfl) T.n_len PySem.boot_len (Ab (pv 5) Ai)) Ai)) (A1 (i:=6) B1 (by rfl) (by first | exact Or.inl rfl | exact Or.inr rfl)) (Al (Bj (Eu (Et (Aw Hs hr (by rfl) (Ab (A9 (Ed (K:=K)) (pv 5) Bm (Bg (pv 6))) (Ab (Ce (Bs (K:=K)) (pv 5) (pv 6) (fun _ _=>rfl)) Ai))))) (Al (Ay (B4 (Ab A5 (Ab Fr (Ab (pv 6) Ai)))))) Au)))
    (Al (Ay (B4 (Ab A5 (Ab (pv 5) (Ab (pv 4) Ai))))))))))))))),?_⟩
   by_cases hi:isE "str" e=true
   rotate_left
   . refine⟨_,rfl,v,"str",.one e,rfl,.inr (.inr (.inl rfl)),hv,_,rfl,?_⟩
     refine ifP (by simpa [isT] using hi) ?_
     refine⟨At (by simp),fun p hp=>k _ _ (Same.new hp) ?_⟩
     unfold dueT
     rw [Ra hi]
     exact Fx Ae
   obtain⟨x,rfl⟩:=e7 hi
   have hx:=ha x rfl
   obtain rfl:v=.str x:=hv
   have rok:=U6 hx
   have k:∀ (u:V) (H':Hp),Same H H'->Rep K H' u (dueR (Es x))->Q u H':=k
   refine Ao (fun σ' H'=>σ'=[some (.str x),none,none,none,none,none,none]/\H=H') ?_ fun key=>?_
   rotate_left
   . refine⟨_,rfl,.str x,"str",.one (.d (.str x)),rfl,.inr (.inr (.inl rfl)),rfl,_,rfl,?_⟩
     refine ifN (fun z=>nomatch (show false=true from z)) ?_
     exact key _ _ ⟨rfl,rfl⟩
   rintro _ _ ⟨rfl,rfl⟩
   refine Ao (fun σ' H'=>∃ (D:Addr),σ'=[some (.str x),some (.ref D),none,none,none,none,none]/\Same H H'/\H' D=some (.lst [])) ?_ fun key=>?_
   rotate_left
   . exact ⟨Nat.zero_le _,fun D hD=>key _ _ ⟨D,rfl,Same.new hD,Ae⟩⟩
   rintro _ H0 ⟨D0,rfl,s0,h0⟩
   obtain⟨sp1,sp2⟩:=Ij hx (y:=Str.ofString "; ") (by decide)
   refine Ao (fun σ' H'=>∃ (D:Addr),σ'=[some (.str x),some (.ref D),none,none,none,none,none]/\Same H H'/\Rep K H' (.ref D) (Tn (Es x))) ?_ fun key=>?_
   rotate_left
   . refine⟨_,rfl,rfl,_,rfl,?_⟩
     by_cases h1:x=Str.ofString ""
     . refine ifN (by rw [h1];simp) ?_
       have er:Es x=[]:=by unfold Es;rw [if_pos (by rw [h1];decide)]
       refine key _ _ ⟨D0,rfl,s0,?_⟩
       rw [er]
       exact ⟨D0,[],rfl,.of h0,rfl⟩
     refine ifP (by simpa using h1) ?_
     have h2:¬x.length=0:=by
      intro z
      apply h1
      rw [E3] at z
      apply Str.ext'
      apply Array.ext'
      rw [List.length_eq_zero_iff.mp z]
      rfl
     have er:Es x=(Txt.split x (Str.ofString "; ")).map fun r=>Txt.split r (Str.ofString " "):=by unfold Es;rw [if_neg h2]
     refine⟨_,rfl,rfl,_,_,rfl,rfl,by decide +kernel,At (by have:=hx.2;omega),fun l hl=>?_⟩
     have s1:Same H0 (upd H0 l (.lst ((Txt.split x (Str.ofString "; ")).map V.str))):=Same.new hl
     have el:upd H0 l (.lst ((Txt.split x (Str.ofString "; ")).map V.str)) l=some (.lst ((Txt.split x (Str.ofString "; ")).map V.str)):=Ae
     generalize upd H0 l (.lst ((Txt.split x (Str.ofString "; ")).map V.str))=H1 at s1 el ⊢
     refine⟨l,rfl,⟨_,.of el⟩,fun D hD=>?_⟩
     refine Cr (K:=K) (a:=l) (xs:=(Txt.split x (Str.ofString "; ")).map V.str) (fun i ys τ G=>Same H1 G/\G D=some (.lst ys)/\ON (fun r=>.lst (r.map V.str)) G (·=D) ys (((Txt.split x (Str.ofString "; ")).take i).map fun r=>Txt.split r (Str.ofString " "))/\∃ o,τ=[o])
      ⟨Same.new hD,Ae,ON.nil _ _ _,none,rfl⟩ (fun i ys τ G _ ⟨s2,_⟩=>.of (s2 _ _ el)) ?_ ?_
     . rintro i y ys τ G hy ⟨s2,hD2,hN,o,rfl⟩
       rw [List.getElem?_map] at hy
       obtain⟨t,ht,rfl⟩:=Option.map_eq_some_iff.mp hy
       have hta:=sp1 t (List.mem_of_getElem? ht)
       have hil:=(List.getElem?_eq_some_iff.mp ht).1
       refine⟨_,rfl,rfl,_,_,rfl,rfl,by decide +kernel,At (by have:=hta.2;omega),fun b hb2=>?_⟩
       have nbD:b≠D:=fun z=>by rw [z,hD2] at hb2;cases hb2
       have s3:=Same.new (o:=.lst ((Txt.split t (Str.ofString " ")).map V.str)) hb2
       refine⟨by rw [Ax nbD.symm];exact hD2,Dl (by rw [hN.1,List.length_map,List.length_take];omega),(s2.trans s3).turn hD,Ae,?_,_,rfl⟩
       rw [List.take_add_one,ht,List.map_append]
       refine ((hN.keep fun c u _ e=>s3 _ _ e).snoc Ae nbD).keep fun c u n e=>by rw [Ax n];exact e
     . rintro ys τ G ⟨s2,hD2,hN,_⟩
       rw [List.length_map,List.take_length,←er] at hN
       exact key _ _ ⟨D,rfl,s0.trans (s1.trans s2),hN.rows hD2⟩
   clear h0 s0 H0
   rintro _ H1 ⟨D,rfl,s1,rD⟩
   obtain⟨_,us,z,hq,hul,hrow⟩:=Pf rD
   cases z
   generalize Es x=rs at rok k rD hul hrow
   have rle:=rok.le
   refine Ao (fun σ' H'=>∃ o2 o3,σ'=[some (.str x),some (.ref D),o2,o3,none,none,none]/\Same H1 H'/\Gw rs=true) ?_ fun key=>?_
   rotate_left
   . refine⟨_,rfl,D,rfl,⟨_,hq⟩,?_⟩
     refine for_list (K:=K) (a:=D) (xs:=us) (fun i σ G=>∃ o2 o3,σ=[some (.str x),some (.ref D),o2,o3,none,none,none]/\Same H1 G/\Gw (rs.take i)=true) ⟨none,none,rfl,Same.refl H1,rfl⟩ (fun i σ G _ ⟨_,_,_,s2,_⟩=>s2.seq hq) ?_ ?_
     . rintro i u σ G hu ⟨o2,o3,rfl,s2,hg⟩
       obtain⟨b,r,rfl,hr,hb⟩:=hrow i u hu
       have hrm:=List.mem_of_getElem? hr
       obtain⟨r1,r2,r3⟩:=rok.row r hrm
       have hbG:SqL K G b (r.map V.str):=s2.seq hb
       refine⟨_,rfl,b,rfl,⟨_,hbG⟩,?_⟩
       refine for_list (K:=K) (a:=b) (xs:=r.map V.str) (fun j σ G2=>∃ o3,σ=[some (.str x),some (.ref D),some (.ref b),o3,none,none,none]/\Same G G2/\(r.take j).all Dm=true) ⟨o3,rfl,Same.refl G,rfl⟩ (fun j σ G2 _ ⟨_,_,s3,_⟩=>s3.seq hbG) ?_ ?_
       . rintro j y σ G2 hy ⟨o3,rfl,s3,hall⟩
         rw [List.getElem?_map] at hy
         obtain⟨w,hw,rfl⟩:=Option.map_eq_some_iff.mp hy
         refine⟨_,rfl,w,rfl,r3 w (List.mem_of_getElem? hw),fun G3 s4=>⟨_,rfl,?_⟩⟩
         cases hb:Dm w with
         | false =>
           refine ifP (by rfl) ?_
           refine⟨At (by simp),fun p hp=>k _ _ ((((s1.trans s2).trans s3).trans s4).trans (Same.new hp)) ?_⟩
           rw [j3 (List.all_eq_false.mpr ⟨r,hrm,by rw [List.all_eq_false.mpr ⟨w,List.mem_of_getElem? hw,by rw [hb];decide⟩];decide⟩)]
           exact Fx Ae
         | true =>
           refine ifN (by decide) ?_
           refine⟨_,rfl,s3.trans s4,?_⟩
           rw [List.take_add_one,hw,List.all_append,hall]
           show (true&&(Dm w&&true))=true
           rw [hb]
           rfl
       . rintro σ G2 ⟨o3,rfl,s3,hall⟩
         rw [List.length_map,List.take_length] at hall
         refine⟨_,_,rfl,s2.trans s3,?_⟩
         unfold Gw at hg ⊢
         rw [List.take_add_one,hr,List.all_append,hg]
         show (true&&(r.all Dm&&true))=true
         rw [hall]
         rfl
     . rintro σ G ⟨o2,o3,rfl,s2,hg⟩
       rw [hul,List.take_length] at hg
       exact key _ _ ⟨o2,o3,rfl,s2,hg⟩
   rintro _ H2 ⟨o2,o3,rfl,s2,hgood⟩
   refine Ao (fun σ' H'=>∃ N:Addr,σ'=[some (.str x),some (.ref D),o2,o3,some (.ref N),none,none]/\H2 N=none/\Same H2 H'/\H' N=some (.lst [])) ?_ fun key=>?_
   rotate_left
   . exact ⟨Nat.zero_le _,fun N hN=>key _ _ ⟨N,rfl,hN,Same.new hN,Ae⟩⟩
   rintro _ H3 ⟨N,rfl,hN0,s3,h3N⟩
   refine Ao (fun σ' H'=>∃ S:Addr,σ'=[some (.str x),some (.ref D),o2,o3,some (.ref N),some (.ref S),none]/\H3 S=none/\Same H3 H'/\H' S=some (.lst [])) ?_ fun key=>?_
   rotate_left
   . exact ⟨Nat.zero_le _,fun S hS=>key _ _ ⟨S,rfl,hS,Same.new hS,Ae⟩⟩
   rintro _ H4 ⟨S,rfl,hS0,s4,h4S⟩
   have nNS:N≠S:=fun z=>by rw [←z,h3N] at hS0;cases hS0
   have hS2:H2 S=none:=s3.free hS0
   have h4N:=s4 _ _ h3N
   have s34:=s3.trans s4
   have s12:=s1.trans s2
   refine Ao (fun σ' H'=>∃ o2 o3 ts ns ps,σ'=[some (.str x),some (.ref D),o2,o3,some (.ref N),some (.ref S),none]/\Same H2 H'/\H' N=some (.lst ((ns:List Str).map V.str))/\H' S=some (.lst ts)/\ON (fun p=>.tup (p.map V.int)) H' (fun c=>c=N\/c=S) ts ps/\D6 rs rs.length ns ps) ?_ fun key=>?_
   rotate_left
   . refine⟨_,rfl,D,rfl,⟨_,((s2.trans s34).seq hq)⟩,?_⟩
     refine for_list (K:=K) (a:=D) (xs:=us) (fun i σ G=>∃ o2 o3 ts ns ps,σ=[some (.str x),some (.ref D),o2,o3,some (.ref N),some (.ref S),none]/\Same H2 G/\G N=some (.lst ((ns:List Str).map V.str))/\G S=some (.lst ts)/\ON (fun p=>.tup (p.map V.int)) G (fun c=>c=N\/c=S) ts ps/\D6 rs i ns ps)
      ⟨o2,o3,[],[],[],rfl,s34,h4N,h4S,ON.nil _ _ _,D6.zero rs⟩ (fun i σ G _ ⟨_,_,_,_,_,_,s5,_⟩=>(s2.trans s5).seq hq) ?_ ?_
     . rintro i u σ G hu ⟨o2,o3,ts,ns,ps,rfl,s5,hN,hS,hO,hW⟩
       obtain⟨b,r,rfl,hr,hb⟩:=hrow i u hu
       obtain⟨r1,r2,r3⟩:=rok.row r (List.mem_of_getElem? hr)
       have hi:=(List.getElem?_eq_some_iff.mp hr).1
       have hnl:=hW.2.1
       have hpl:=hW.2.2.1
       have hbG:SqL K G b (r.map V.str):=(s2.trans s5).seq hb
       have hat:atI (r.map V.str) 0=some (.str (hd r)):=by
        cases r with
        | nil=>exact absurd rfl r1
        | cons w r=>exact Cb (j:=0) rfl
       refine Ao (fun σ' H'=>∃ o3,σ'=[some (.str x),some (.ref D),some (.ref b),o3,some (.ref N),some (.ref S),none]/\Same G H'/\∀ w∈r.drop 1,w∈ns) ?_ fun key2=>?_
       rotate_left
       . refine⟨_,rfl,_,rfl,b,_,rfl,hbG,fun c hc=>?_⟩
         rw [cut1]
         have t1:Same G (upd G c (.lst ((r.map V.str).drop 1))):=Same.new hc
         have ec:upd G c (.lst ((r.map V.str).drop 1)) c=some (.lst ((r.drop 1).map V.str)):=by rw [Ae,List.map_drop]
         generalize upd G c (.lst ((r.map V.str).drop 1))=G1 at t1 ec ⊢
         refine⟨c,rfl,⟨_,.of ec⟩,?_⟩
         refine for_list (K:=K) (a:=c) (xs:=(r.drop 1).map V.str) (fun j σ G2=>∃ o3,σ=[some (.str x),some (.ref D),some (.ref b),o3,some (.ref N),some (.ref S),none]/\G1=G2/\∀ w∈(r.drop 1).take j,w∈ns)
          ⟨o3,rfl,rfl,fun w hw=>by simp at hw⟩ (fun j σ G2 _ ⟨_,_,e,_⟩=>e▸.of ec) ?_ ?_
         . rintro j y σ _ hy ⟨o3,rfl,rfl,hin⟩
           rw [List.getElem?_map] at hy
           obtain⟨w,hw,rfl⟩:=Option.map_eq_some_iff.mp hy
           have hwm:=List.mem_of_getElem? hw
           refine⟨_,rfl,_,rfl,.str w,ns.map L2.D.str,rfl,.inl ⟨N,_,rfl,.of (t1 _ _ hN),Ch.mpr rfl⟩,by rw [deps_strs];decide,_,rfl,?_⟩
           rw [Qg]
           by_cases hm:w∈ns
           . refine ifN (by rw [decide_eq_true hm];decide) ?_
             refine⟨_,rfl,rfl,fun w' hw'=>?_⟩
             rw [List.take_add_one,hw] at hw'
             rcases List.mem_append.mp hw' with z | z
             . exact hin w' z
             . rw [List.mem_singleton.mp z];exact hm
           . refine ifP (by rw [decide_eq_false hm];rfl) ?_
             refine⟨At (by simp),fun p hp=>k _ _ (((s12.trans s5).trans t1).trans (Same.new hp)) ?_⟩
             rw [Wd hgood (hW.bad hr (.inl ⟨w,hwm,hm⟩))]
             exact Fx Ae
         . rintro σ _ ⟨o3,rfl,rfl,hin⟩
           rw [List.length_map,List.take_length] at hin
           exact key2 _ _ ⟨o3,rfl,t1,hin⟩
       rintro _ G1 ⟨o3,rfl,t1,hin⟩
       have hN1:=t1 _ _ hN
       have hS1:=t1 _ _ hS
       have hb1:SqL K G1 b (r.map V.str):=t1.seq hbG
       refine Ao (fun σ' H'=>σ'=[some (.str x),some (.ref D),some (.ref b),o3,some (.ref N),some (.ref S),none]/\G1=H'/\¬hd r∈ns) ?_ fun key2=>?_
       rotate_left
       . refine⟨_,rfl,b,_,_,_,rfl,rfl,hb1,hat,_,rfl,.str (hd r),ns.map L2.D.str,rfl,.inl ⟨N,_,rfl,.of hN1,Ch.mpr rfl⟩,by rw [deps_strs];decide,_,rfl,?_⟩
         rw [Qg]
         by_cases hm:hd r∈ns
         . refine ifP (by rw [decide_eq_true hm];rfl) ?_
           refine⟨At (by simp),fun p hp=>k _ _ (((s12.trans s5).trans t1).trans (Same.new hp)) ?_⟩
           rw [Wd hgood (hW.bad hr (.inr hm))]
           exact Fx Ae
         . refine ifN (by rw [decide_eq_false hm];decide) ?_
           exact key2 _ _ ⟨rfl,rfl,hm⟩
       rintro _ _ ⟨rfl,rfl,hm⟩
       refine Ao (fun σ' H'=>∃ t:Addr,σ'=[some (.str x),some (.ref D),some (.ref b),o3,some (.ref N),some (.ref S),none]/\Same H2 H'/\H' N=some (.lst (ns.map V.str))/\H' S=some (.lst (ts++[.ref t]))/\ON (fun p=>.tup (p.map V.int)) H' (fun c=>c=N\/c=S) (ts++[.ref t]) (ps++[(r.drop 1).map fun w=>((ns.idxOf w:Nat):Int)])) ?_ fun key2=>?_
       rotate_left
       . refine⟨_,rfl,.inl ⟨rfl,_,.of hS1⟩,_,rfl,_,rfl,b,_,rfl,hb1,fun c hc=>?_⟩
         rw [cut1]
         have t2:Same G1 (upd G1 c (.lst ((r.map V.str).drop 1))):=Same.new hc
         have ec:upd G1 c (.lst ((r.map V.str).drop 1)) c=some (.lst ((r.drop 1).map V.str)):=by rw [Ae,List.map_drop]
         generalize upd G1 c (.lst ((r.map V.str).drop 1))=G2 at t2 ec ⊢
         refine⟨c,rfl,⟨_,.of ec⟩,fun E1 hE1=>?_⟩
         refine Cr (K:=K) (a:=c) (xs:=(r.drop 1).map V.str) (fun j ys τ G3=>Same G2 G3/\G3 E1=some (.lst ys)/\ys=(((r.drop 1).take j).map fun w=>((ns.idxOf w:Nat):Int)).map V.int/\∃ o,τ=[o,some (.ref N)])
          ⟨Same.new hE1,Ae,rfl,none,rfl⟩ (fun j ys τ G3 _ ⟨s5,_⟩=>.of (s5 _ _ ec)) ?_ ?_
         . rintro j y ys τ G3 hy ⟨t3,hD5,rfl,o,rfl⟩
           rw [List.getElem?_map] at hy
           obtain⟨w,hw,rfl⟩:=Option.map_eq_some_iff.mp hy
           have hwm:=List.mem_of_getElem? hw
           have hjl:=(List.getElem?_eq_some_iff.mp hw).1
           rw [List.length_drop] at hjl
           have hN3:=t3 _ _ (t2 _ _ hN1)
           refine⟨_,rfl,.inl ⟨rfl,_,.of hN3⟩,_,rfl,ns.map L2.D.str,_,.str w,_,rfl,⟨N,_,rfl,.of hN3,Ch.mpr rfl⟩,rfl,by rw [deps_strs];decide,W8 (hin w hwm),?_⟩
           refine⟨hD5,Dl (by simp;omega),t3.turn hE1,Ae,?_,_,rfl⟩
           rw [List.take_add_one,hw,List.map_append,List.map_append]
           rfl
         . rintro ys τ G3 ⟨t3,hD5,rfl,_⟩
           rw [List.length_map,List.take_length] at hD5
           refine⟨E1,_,rfl,.inl ⟨.of hD5,fun t ht=>?_⟩⟩
           have t4:=Same.new (o:=.tup (((r.drop 1).map fun w=>((ns.idxOf w:Nat):Int)).map V.int)) ht
           have et:upd G3 t (.tup (((r.drop 1).map fun w=>((ns.idxOf w:Nat):Int)).map V.int)) t=some (.tup (((r.drop 1).map fun w=>((ns.idxOf w:Nat):Int)).map V.int)):=Ae
           have t24:=(t2.trans t3).trans t4
           have ntS:t≠S:=fun z=>by rw [z,(t2.trans t3) _ _ hS1] at ht;cases ht
           have ntN:t≠N:=fun z=>by rw [z,(t2.trans t3) _ _ hN1] at ht;cases ht
           generalize upd G3 t (.tup (((r.drop 1).map fun w=>((ns.idxOf w:Nat):Int)).map V.int))=G4 at t4 et t24 ⊢
           refine⟨S,_,_,rfl,rfl,t24 _ _ hS1,Dl (by rw [hO.1];omega),key2 _ _ ⟨t,rfl,((s5.trans t1).trans t24).turn hS2,by rw [Ax nNS];exact t24 _ _ hN1,Ae,?_⟩⟩
           exact ((hO.keep fun c o _ e=>(t1.trans t24) c o e).snoc et (fun z=>by rcases z with z | z;exact ntN z;exact ntS z)).keep fun c o n e=>by rw [Ax (fun z=>n (.inr z))];exact e
       rintro _ G5 ⟨t,rfl,s6,hN5,hS5,hO5⟩
       have hb5:SqL K G5 b (r.map V.str):=(s2.trans s6).seq hb
       refine⟨_,rfl,.inl ⟨rfl,_,.of hN5⟩,_,rfl,b,_,_,_,rfl,rfl,hb5,hat,N,_,_,rfl,rfl,hN5,Dl (by simp;omega),?_⟩
       refine⟨_,_,_,ns++[hd r],_,rfl,s6.turn hN0,by rw [Ae,List.map_append];rfl,by rw [Ax nNS.symm];exact hS5,hO5.keep fun c o n e=>by rw [Ax (fun z=>n (.inl z))];exact e,hW.next hr hin hm⟩
     . rintro σ G ⟨o2,o3,ts,ns,ps,rfl,s5,hN,hS,hO,hW⟩
       rw [hul] at hW
       exact key _ _ ⟨o2,o3,ts,ns,ps,rfl,s5,hN,hS,hO,hW⟩
   clear o2 o3
   rintro _ H5 ⟨o2,o3,ts,ns,ps,rfl,s5,h5N,h5S,hO,hW⟩
   have hwk:=hW.done
   have hpl:=hW.2.2.1
   have hqS:SqL K H5 S ts:=.of h5S
   have rS:Reps K H5 ts (ps.map tI):=hO.reps
   have etl:ts.length=ps.length:=hO.1
   have s15:=s12.trans s5
   refine Ao (fun σ' H'=>σ'=[some (.str x),some (.ref D),o2,o3,some (.ref N),some (.ref S),none]/\H5=H'/\ps.length<=40) ?_ fun key=>?_
   rotate_left
   . refine⟨_,rfl,S,ts,rfl,.inl hqS,_,_,rfl,rfl,_,rfl,?_⟩
     by_cases hn:ps.length<=40
     . exact ifN (by simp;omega) (key _ _ ⟨rfl,rfl,hn⟩)
     . refine ifP (by simp;omega) ?_
       refine⟨At (by simp),fun p hp=>k _ _ (s15.trans (Same.new hp)) ?_⟩
       rw [W9 hgood hwk hn]
       exact Fx Ae
   rintro _ _ ⟨rfl,rfl,hn⟩
   refine Ao (fun σ' H'=>∃ o6,σ'=[some (.str x),some (.ref D),o2,o3,some (.ref N),some (.ref S),o6]/\Same H5 H'/\misD (ps.map tI)=none) ?_ fun key=>?_
   rotate_left
   . refine⟨_,rfl,S,ts,rfl,.inl hqS,_,rfl,by omega,by omega,?_⟩
     refine Bt (lo:=0) (n:=((ts.length:Nat):Int).toNat) (fun i σ G=>∃ o6,σ=[some (.str x),some (.ref D),o2,o3,some (.ref N),some (.ref S),o6]/\Same H5 G/\∃ xs,Kt (ps.map tI) i xs)
      ⟨none,rfl,Same.refl H5,[],Kt.zero _⟩ ?_ ?_
     . rintro i σ G hi' ⟨o6,rfl,g1,xs,sf⟩
       have hil:i<ts.length:=by omega
       obtain⟨dv,hdv,rv⟩:=rS.getV (List.getElem?_eq_getElem hil)
       refine⟨_,rfl,_,rfl,_,rfl,S,ts,rfl,g1.seq hqS,fun c hc=>?_⟩
       have g3:Same G (upd G c (.lst (cutV ts none (some (0+(i:Int)))))):=Same.new hc
       have ec:upd G c (.lst (cutV ts none (some (0+(i:Int))))) c=some (.lst (cutV ts none (some (0+(i:Int))))):=Ae
       generalize upd G c (.lst (cutV ts none (some (0+(i:Int)))))=G2 at g3 ec ⊢
       have g4:=g1.trans g3
       have hcut:LT K G2 (.ref c) xs:=by
        refine⟨c,_,rfl,.of ec,?_⟩
        rw [show (0+(i:Int))=(i:Int) by omega,Fl,←sf.1]
        exact (Reps.same g4 rS).take i
       refine⟨_,rfl,_,rfl,S,ts,_,_,rfl,rfl,g4.seq hqS,Al9 hil,?_⟩
       refine⟨c,_,dv,xs,rfl,hcut,Rep.same g4 rv,fun G3 g5=>⟨_,rfl,?_⟩⟩
       by_cases hfi:Ht xs dv=true
       . rw [hfi]
         refine ifN (by decide) ?_
         exact ⟨_,rfl,g4.trans g5,_,sf.next hdv hfi⟩
       . refine ifP (by simpa using hfi) ?_
         refine⟨_,rfl,At (by simp),fun p hp=>?_⟩
         refine k _ _ ((s15.trans (g4.trans g5)).trans (Same.new hp)) ?_
         rw [Xa hgood hwk hn (sf.bad hdv hfi),show (0+(i:Int))=(i:Int) by omega]
         exact Rb Ae
     . rintro σ G ⟨o6,rfl,g1,xs,sf⟩
       rw [Int.toNat_natCast,etl,show ps.length=(ps.map tI).length by rw [List.length_map]] at sf
       exact key _ _ ⟨o6,rfl,g1,sf.done⟩
   rintro _ H6 ⟨o6,rfl,s6,hmis⟩
   refine⟨_,rfl,_,rfl,At (by simp),fun p hp=>?_⟩
   have s7:Same H6 (upd H6 p (.tup [.str "good",.ref S,.ref N])):=Same.new hp
   refine k _ _ ((s15.trans s6).trans s7) ?_
   rw [j4 hgood hwk hn hmis]
   exact ⟨p,_,rfl,.of Ae,⟨_,_,rfl,rfl,⟨_,_,rfl,Rep.same (s6.trans s7) ⟨S,ts,rfl,hqS,rS⟩,⟨_,_,rfl,⟨N,_,rfl,.of ((s6.trans s7) _ _ h5N),Ch.mpr rfl⟩,rfl⟩⟩⟩⟩
abbrev Lo:Stmt:=top 12
theorem Ab7:FnScope ["shape","thing","level"] ["shape","thing"] (Ak Lo):=⟨rfl,rfl,rfl,by decide +kernel,rfl,by decide +kernel,by decide +kernel⟩
theorem Ae5:(["shape","thing","level"]:List Str).Nodup:=by decide +kernel
theorem Ad8 {f:Addr}{fd:FuncData} (F:Fun K "fits" "fits" Lo f fd) (T:Txt K mg Aj Ad Ah Af Ac) (Dw:Has P w K mg base "level_of" ["piece"] 1 (E4 K)) (Fe:Has P w K mg base "faces_agree" ["shape","faces"] 1 (Ef K)) (Cm:Has P w K mg base "is_place_of_level" ["shape","thing","level"] 3 (Cg K)):FnOk P w K mg base CX0 4 f fd ["shape","thing"] (O6 K):=by
 refine F.ok Ab7 (fun vs H Q E h=>?_) (fun B5 A outer s H vs Q E hr h=>?_)
 . obtain⟨a,th,d,xs,rfl,hL,hd,k⟩:=h
   rfl
 . obtain⟨a,th,d,xs,rfl,hL,hd,k⟩:=h
   obtain⟨a_FACE_COUNTS,c_FACE_COUNTS,q_FACE_COUNTS⟩:=T.x_FACE_COUNTS
   have hu8:(A.deeper (PyProof.Rows.envOfC "fits" (Ak Lo) s.heap.objs.size f B5)).units+8<cLine:=by have:=hr.units;omega
   refine⟨_,(Ag (Bj (PW.pt (Xv (Eu (Et (Ap (Ca (K:=K)) (by rfl) T.n_isinstance Aq (Ab (pv 1) (Ab (D3 (v:=.ty "tuple") rfl T.n_tuple C9 rfl) Ai))))) (Re (Av (Dt (K:=K) hu8) (Ap (Ar (K:=K)) (by rfl) T.n_len PySem.boot_len (Ab (pv 1) Ai)) (E9 (v:=.ref a_FACE_COUNTS) (by rfl) c_FACE_COUNTS rfl) rfl)))) (Al (Ay Fr)) Au)
    (Ag (As (i:=2) Ae5 (by rfl) (by first | exact Or.inl rfl | exact Or.inr rfl) (Aw Dw hr (by rfl) (Ab (pv 1) Ai)))
    (Ag (Bj (Eu (Et (Ap (J4 (K:=K) (by rfl)) (by rfl) T.n_all Mu (Ab (Fa (N':=["face","shape","level"]) (cap:=[none,some 0,some 2]) (by rfl) (by kernel_rfl) (L4 (K:=K) (pv 1)) (fun _ _ _ _=>(A1 (i:=0) Ap3 (by rfl) (by first | exact Or.inl rfl | exact Or.inr rfl))) (fun _ _ _ _=>Dd) (fun _ _ _ _=>(Aw Cm hr (by rfl) (Ab (pv 1) (Ab (pv 0) (Ab (Az Ls (pv 2) Am) Ai)))))) Ai)))) (Al (Ay Fr)) Au)
    (Al (Ay (Ao1 (Ju Rp (pv 2) Am (A6 _)) (Im (Aw Fe hr (by rfl) (Ab (pv 0) (Ab (pv 1) Ai)))))))))),?_⟩
   refine⟨_,rfl,_,_,d,rfl,.inr (.inr (.inr (.inl rfl))),hd,_,rfl,?_⟩
   cases d with
   | non=>exact k H (Same.refl H)
   | bl b=>exact k H (Same.refl H)
   | int i=>exact k H (Same.refl H)
   | str z=>exact k H (Same.refl H)
   | lst es=>exact k H (Same.refl H)
   | tup ds =>
     obtain⟨pa,us,rfl,hq,r⟩:=id hd
     have ul:us.length=ds.length:=r.length
     refine ifN (by simp [isD]) ?_
     refine⟨_,rfl,pa,us,rfl,.inr hq,.int (us.length:Int),nums [0,2,3,4],rfl,.inr ⟨_,_,rfl,q_FACE_COUNTS H,D1.mpr rfl⟩,(by rw [Ix];decide),_,rfl,?_⟩
     rw [ul]
     have cnt:(!(nums [0,2,3,4]).any fun e=>eqD e (.int (ds.length:Int)))=!cntB ds.length:=by
      have:(nums [0,2,3,4]).any (fun e=>eqD e (.int (ds.length:Int)))=cntB ds.length:=by
       simp only [nums,List.map_cons,List.map_nil,List.any_cons,List.any_nil,eqD,cntB]
       rw [Bool.eq_iff_iff]
       simp only [Bool.or_eq_true,beq_iff_eq,Bool.or_false]
       omega
      rw [this]
     by_cases hc:cntB ds.length=true
     rotate_left
     . have hc':cntB ds.length=false:=by simpa using hc
       refine ifP (by rw [if_pos rfl,cnt,hc'];rfl) ?_
       have e2:Ht xs (.tup ds)=false:=by rw [D5];simp [hc']
       rw [e2] at k
       exact k H (Same.refl H)
     refine ifN (by rw [if_pos rfl,cnt,hc];simp) ?_
     have hn4:ds.length<=4:=(Wk hc).1
     refine⟨_,rfl,_,ds,rfl,.inr hd,?_⟩
     refine⟨_,rfl,pa,rfl,⟨_,hq⟩,fun D hD=>?_⟩
     refine Ty (K:=K) (a:=pa) (xs:=us) (fun i ys τ H1=>Same H H1/\H1 D=some (.lst ys)/\ys=((ds.take i).map fun e=>V.bl (Bf xs e (levI ds.length-1)))/\∃ o,τ=[o,some (.ref a),some (.int (levI ds.length))])
      ⟨Same.new hD,Ae,rfl,none,rfl⟩ (fun i ys τ H1 _ ⟨s1,_⟩=>s1.seqT hq) ?_ ?_
     . rintro i x ys τ H1 hx ⟨s1,hD1,hys,o,rfl⟩
       have hi:i<us.length:=(List.getElem?_eq_some_iff.mp hx).1
       obtain⟨e,he,re⟩:=r.getV hx
       refine⟨_,rfl,_,rfl,_,rfl,_,_,rfl,rfl,a,x,e,_,xs,rfl,Rep.same s1 hL,Rep.same s1 re,?_⟩
       refine⟨hD1,Dl (by rw [hys,List.length_map,List.length_take];omega),s1.turn hD,Ae,?_,_,rfl⟩
       rw [List.take_succ,he,List.map_append,hys]
       rfl
     . rintro ys τ H1 ⟨s1,hD1,hys,_⟩
       rw [ul,List.take_length] at hys
       have hys2:ys=(ds.map fun e=>Bf xs e (levI ds.length-1)).map V.bl:=by rw [hys,List.map_map];rfl
       rw [hys2] at hD1
       refine⟨D,_,rfl,.of hD1,_,rfl,?_⟩
       have eall:(ds.map fun e=>Bf xs e (levI ds.length-1)).all id=ds.all fun e=>Bf xs e (levI ds.length-1):=by rw [List.all_map];rfl
       by_cases ha:(ds.all fun e=>Bf xs e (levI ds.length-1))=true
       rotate_left
       . have ha':(ds.all fun e=>Bf xs e (levI ds.length-1))=false:=by simpa using ha
         refine ifP (by rw [eall,ha'];rfl) ?_
         have e2:Ht xs (.tup ds)=false:=by rw [D5];rw [ha',hc];rfl
         rw [e2] at k
         exact k H1 s1
       refine ifN (by rw [eall,ha];simp) ?_
       have e2:Ht xs (.tup ds)=(decide (levI ds.length<2) || Dj xs (ds.map toI)):=by rw [D5];rw [ha,hc];rfl
       rw [e2] at k
       refine⟨_,rfl,_,_,rfl,rfl,_,rfl,?_⟩
       refine ite2 (fun h1=>?_) (fun h1=>?_)
       . have h2:(decide (levI ds.length<2))=true:=h1
         rw [h2] at k
         exact k H1 s1
       . have h2:(decide (levI ds.length<2))=false:=by simpa using h1
         rw [h2] at k
         have hint:=Li ha
         have tv:TI K H1 (.ref pa) (ds.map toI):=by
          have:=Rep.same s1 hd
          rw [hint] at this
          exact this
         refine⟨_,rfl,_,rfl,a,_,xs,ds.map toI,rfl,Rep.same s1 hL,tv,by simpa using hn4,?_,k H1 s1⟩
         intro f hf
         rw [List.all_eq_true] at ha
         have hm:L2.D.int f∈ds:=by
          rw [hint]
          exact List.mem_map.mpr ⟨f,hf,rfl⟩
         have:=ha _ hm
         simp only [Bf,Bool.and_eq_true,decide_eq_true_eq] at this
         obtain⟨⟨f0,f1⟩,f2⟩:=this
         refine⟨f0,f1,?_⟩
         rw [List.length_map]
         rw [Fd,Fd] at f2
         have h3:¬levI ds.length<2:=by simpa using h2
         rw [Fd] at h3
         omega
abbrev B6:Stmt:=top 19
theorem Lm:FnScope ["pieces","place","piece"] ["pieces"] (Ak B6):=⟨rfl,rfl,rfl,by decide +kernel,rfl,by decide +kernel,by decide +kernel⟩
theorem Fz:(["pieces","place","piece"]:List Str).Nodup:=by decide +kernel
theorem Lu {f:Addr}{fd:FuncData} (F:Fun K "first_misfit" "first_misfit" B6 f fd) (T:Txt K mg Aj Ad Ah Af Ac) (f9:Has P w K mg base "fits" ["shape","thing"] 4 (O6 K)):FnOk P w K mg base CX0 5 f fd ["pieces"] (Jk K):=by
 refine F.ok Lm (fun vs H Q E h=>?_) (fun B5 A outer s H vs Q E hr h=>?_)
 . obtain⟨v,ds,rfl,hL,hx,k⟩:=h
   rfl
 . obtain⟨v,ds,rfl,hL,hx,k⟩:=h
   refine⟨_,(Ag (Bz PassesOwn.never rfl (Z5 (K:=K) (by rfl) T.n_enumerate (Ab (pv 0) Ai)) (c6 (K:=K) (n:=2) (by rfl) (Lc (A1 (i:=1) Fz (by rfl) (by first | exact Or.inl rfl | exact Or.inr rfl)) (Lc (A1 (i:=2) Fz (by rfl) (by first | exact Or.inl rfl | exact Or.inr rfl)) Z6))) (Al (Bj (Eu (Et (Aw f9 hr (by rfl) (Ab (A9 (Ed (K:=K)) (pv 0) Bm (Bg (pv 1))) (Ab (pv 2) Ai))))) (Al (Ay (pv 1))) Au)))
    (Al (Ay N6))),?_⟩
   obtain⟨a,us,rfl,hq,r⟩:=id hL
   have hl:us.length=ds.length:=r.length
   refine⟨_,rfl,a,rfl,⟨us,hq⟩,?_⟩
   refine W7 (K:=K) (a:=a) (xs:=us) (fun i σ G=>∃ o1 o2,σ=[some (.ref a),o1,o2]/\Same H G/\∃ xs,Kt ds i xs)
    ⟨none,none,rfl,Same.refl H,[],Kt.zero ds⟩ (fun i σ G _ ⟨_,_,_,s1,_⟩=>s1.seq hq) ?_ ?_
   . rintro i v σ G p hv ⟨o1,o2,rfl,s1,xs,sf⟩ hp
     obtain⟨dv,hdv,rv⟩:=r.getV hv
     have sp:Same G (upd G p (.tup [.int i,v])):=Same.new hp
     refine⟨p,_,rfl,.of Ae,rfl,_,_,rfl,_,_,rfl,rfl,?_⟩
     generalize upd G p (.tup [.int i,v])=G1 at sp
     have s2:=s1.trans sp
     refine⟨_,rfl,_,rfl,_,rfl,a,us,rfl,s2.seq hq,fun c hc=>?_⟩
     have s3:Same G1 (upd G1 c (.lst (cutV us none (some (i:Int))))):=Same.new hc
     have ec:upd G1 c (.lst (cutV us none (some (i:Int)))) c=some (.lst (cutV us none (some (i:Int)))):=Ae
     generalize upd G1 c (.lst (cutV us none (some (i:Int))))=G2 at s3 ec
     have s4:=s2.trans s3
     have hcut:LT K G2 (.ref c) xs:=by
      refine⟨c,_,rfl,.of ec,?_⟩
      rw [Fl,←sf.1]
      exact (Reps.same s4 r).take i
     refine⟨_,rfl,c,v,dv,xs,rfl,hcut,Rep.same s4 rv,fun G3 s5=>⟨_,rfl,?_⟩⟩
     by_cases hf:Ht xs dv=true
     . rw [hf]
       refine ifN (by decide) ?_
       exact ⟨_,_,rfl,s4.trans s5,_,sf.next hdv hf⟩
     . refine ifP (by simpa using hf) ?_
       refine⟨_,rfl,?_⟩
       have:=k G3 (s4.trans s5)
       unfold misV at this
       rw [sf.bad hdv hf] at this
       exact this
   . rintro σ G ⟨o1,o2,rfl,s1,xs,sf⟩
     have:=k G s1
     unfold misV at this
     rw [hl] at sf
     rw [sf.done] at this
     exact this
abbrev Dp:Stmt:=top 17
theorem U2:FnScope ["thing","misfit"] ["thing"] (Ak Dp):=⟨rfl,rfl,rfl,by decide +kernel,rfl,by decide +kernel,by decide +kernel⟩
theorem Vs:(["thing","misfit"]:List Str).Nodup:=by decide +kernel
theorem Vg {f:Addr}{fd:FuncData} (F:Fun K "shape_of" "shape_of" Dp f fd) (T:Txt K mg Aj Ad Ah Af Ac) (Ej:Has P w K mg base "first_misfit" ["pieces"] 5 (Jk K)) (Df:Has P w K mg base "is_list_of_few" ["thing"] 1 (Uv K)) (he_NoPiece:HasE P w K mg base Ac Aj ["self","place"] 1 (Dx K Ac)):FnOk P w K mg base (CX1 P w) 6 f fd ["thing"] (Hi K Ad Ac):=by
 refine F.okX U2 (fun vs H Q E h=>?_) (fun B5 A outer s H vs Q E hr h=>?_)
 . obtain⟨v,e,rfl,hv,k1,k2,k3⟩:=h
   rfl
 . obtain⟨v,e,rfl,hv,k1,k2,k3⟩:=h
   obtain⟨t_MOST_PIECES,c_MOST_PIECES⟩:=T.x_MOST_PIECES
   refine⟨_,(Ag (Bj (Eu (Et (Aw Df hr (by rfl) (Ab (pv 0) Ai)))) (Al (Il F1 (by rfl) (by rfl) T.m_NoShape T.e_NoShape (Ab (Vf (Fy A5 (Fy (Z7 (E9 (v:=.int 40) (by rfl) c_MOST_PIECES ⟨_,rfl⟩)) (Fy A5 Z4)))) Ai))) Au)
    (Ag (As (i:=1) Vs (by rfl) (by first | exact Or.inl rfl | exact Or.inr rfl) (Aw Ej hr (by rfl) (Ab (pv 0) Ai)))
    (Ag (Bj (Av Ad4 (pv 1) N6 (A6 _)) (Al (Z2 Yj (by rfl) he_NoPiece hr (by rfl) T.m_NoPiece (Ab (pv 1) Ai))) Au)
    (Al (Ay (Cv (Iu (K:=K)) (by rfl) T.n_list Ko (Ab (pv 0) Ai))))))),?_⟩
   refine⟨_,rfl,v,e,rfl,hv,_,rfl,?_⟩
   by_cases h1:fewE e=true
   rotate_left
   . refine ifP (by simpa using h1) ?_
     exact ⟨_,rfl,Qq,.inl ⟨40,rfl,by decide,fun z hz=>⟨_,rfl,hz,⟨_,rfl,Qq,fun x hx=>⟨At (by simp),k1 h1 H (Same.refl H)⟩⟩⟩⟩⟩
   refine ifN (by rw [h1];decide) ?_
   obtain⟨ee,hn⟩:=Af6 h1
   have hv':=hv
   rw [ee] at hv'
   refine⟨_,rfl,v,Iv e,rfl,hv',hn,fun H1 s1=>?_⟩
   unfold misV
   cases hm:misD (Iv e) with
   | some i =>
     have hi:i<40:=by have:=y4 (show Eh [] (Iv e) 0=some i from hm);omega
     refine⟨_,rfl,rfl,_,rfl,?_⟩
     refine ifP (by simp) ?_
     refine⟨_,rfl,At (by simp),fun x hx=>?_⟩
     refine⟨x,(i:Int),rfl,Ae,c3 (by omega),fun d hd=>⟨rfl,d,Ae,?_⟩⟩
     obtain⟨z1,z2⟩:=Va (fs:=[("place",.int (i:Int))]) s1 hx hd
     exact k2 i h1 hm d _ z1 z2
   | none =>
     refine⟨_,rfl,rfl,_,rfl,?_⟩
     refine ifN (by decide) ?_
     obtain⟨a,us,rfl,hq,r⟩:=hv'
     refine⟨_,rfl,a,us,rfl,.inl (s1.seq hq),fun l hl=>?_⟩
     exact k3 (by unfold Wv;rw [h1,hm];rfl) l us _ (s1.free hl) (s1.trans (Same.new hl)) Ae (Reps.same (s1.trans (Same.new hl)) r)
abbrev N4:Stmt:=top 22
theorem Ab6:FnScope ["thing","rows","pieces"] ["thing"] (Ak N4):=⟨rfl,rfl,rfl,by decide +kernel,rfl,by decide +kernel,by decide +kernel⟩
theorem b9:(["thing","rows","pieces"]:List Str).Nodup:=by decide +kernel
theorem Ad7 {f:Addr}{fd:FuncData} (F:Fun K "read" "read" N4 f fd) (T:Txt K mg Aj Ad Ah Af Ac) (J9:HasX P w K mg base "rows_of" ["thing"] 2 (O3 K Ah)) (F7:HasX P w K mg base "pieces_of" ["rows"] 2 (Ji K Af)) (Hn:HasX P w K mg base "shape_of" ["thing"] 6 (Hi K Ad Ac)):FnOk P w K mg base (CX1 P w) 7 f fd ["thing"] (O4 K Ah Af Ad Ac):=by
 refine F.okX Ab6 (fun vs H Q E h=>?_) (fun B5 A outer s H vs Q E hr h=>?_)
 . obtain⟨v,e,rfl,hv,ha,k1,k2,k3,k4,k5⟩:=h
   rfl
 . obtain⟨v,e,rfl,hv,ha,k1,k2,k3,k4,k5⟩:=h
   refine⟨_,(Ag (As (i:=1) b9 (by rfl) (by first | exact Or.inl rfl | exact Or.inr rfl) (Io Md J9 hr (by rfl) (Ab (pv 0) Ai)))
    (Ag (As (i:=2) b9 (by rfl) (by first | exact Or.inl rfl | exact Or.inr rfl) (Io Md F7 hr (by rfl) (Ab (pv 1) Ai)))
    (Al (Ay (B4 (Ab (Io Md Hn hr (by rfl) (Ab (pv 2) Ai)) (Ab (Fa (N':=["row"]) (cap:=[none]) (by rfl) (by kernel_rfl) (Br (K:=K) (pv 1)) (fun _ _ _ _=>(A1 (i:=0) Ak8 (by rfl) (by first | exact Or.inl rfl | exact Or.inr rfl))) (fun _ _ _ _=>Dd) (fun _ _ _ _=>(Ce (Bs (K:=K)) (pv 0) Am (fun _ _=>rfl)))) Ai))))))),?_⟩
   refine Ao (fun σ' H'=>∃ (u:V) (rs:List (List Str)),σ'=[some v,some u,none]/\Same H H'/\Rep K H' u (Tn rs)/\U7 e=some rs/\Gw rs=true) ?_ fun key=>?_
   rotate_left
   . refine⟨_,rfl,v,e,rfl,hv,ha,fun h1 H' s'=>k1 ?_ H' s',fun rs h1 h2 H' s'=>k1 ?_ H' s',fun rs h1 h2 u H' s' hR=>key _ _ ⟨u,rs,rfl,s',hR,h1,h2⟩⟩
     . unfold dueT;rw [h1]
     . unfold dueT;rw [h1]
       show dueR rs=_
       unfold dueR
       rw [if_neg (by rw [h2];decide)]
   rintro _ H1 ⟨u,rs,rfl,s1,hR,hrs,hg⟩
   have rok:l0 rs:=by
    match e,hrs with
    | .d (.str x),h=>cases h;exact U6 (ha x rfl)
   have due:dueT e=(match Hh rs [] [] with
    | none=>.tup [.str "name",.bl true]
    | some (ns,ps)=>if ps.length<=40 then (match misD (ps.map tI) with
       | some i=>.tup [.str "piece",.bl true,.int (i:Int)]
       | none=>.tup [.str "good",.lst (ps.map tI),.lst (ns.map L2.D.str)])
      else .tup [.str "shape",.bl true]):=by
    unfold dueT
    rw [hrs]
    show dueR rs=_
    unfold dueR
    exact (if_pos hg).trans rfl
   refine Ao (fun σ' H'=>∃ (w:V) (ps:List (List Int)),σ'=[some v,some u,some w]/\Same H H'/\Rep K H' u (Tn rs)/\LT K H' w ps/\Hh rs [] []=some (rs.map hd,ps)/\ps.length=rs.length) ?_ fun key=>?_
   rotate_left
   . refine⟨_,rfl,u,rs,rfl,hR,rok,fun h1 H' s'=>k2 ?_ H' (s1.trans s'),fun ns ps h1 h2 h3 w H' s' hL=>key _ _ ⟨w,ps,rfl,s1.trans s',Rep.same s' hR,hL,?_,h3⟩⟩
     . rw [due,h1]
     . rw [h1,h2]
   rintro _ H2 ⟨w,ps,rfl,s2,hR2,hL,hwk,hpl⟩
   rw [hwk] at due
   have few:fewE (.d (.lst (ps.map tI)))=decide (ps.length<=40):=by
    show decide ((ps.map tI).length<=40)=_
    rw [List.length_map]
   refine⟨_,rfl,w,.d (.lst (ps.map tI)),rfl,hL,fun h1 H' s'=>k3 ?_ H' (s2.trans s'),fun i h1 h2 d H' s' hd=>k4 i ?_ d H' (s2.trans s') hd,fun h1 l1 us H3 hl1 s3 h3 r3=>?_⟩
   . rw [few] at h1
     rw [due]
     show (if ps.length<=40 then _ else _)=_
     rw [if_neg (by simpa using h1)]
   . rw [few] at h1
     rw [due]
     show (if ps.length<=40 then _ else _)=_
     rw [if_pos (by simpa using h1),show misD (ps.map tI)=some i from h2]
   obtain⟨g1,g2⟩:=Xp h1
   rw [few] at g1
   obtain⟨a,ws,rfl,hq,hul,hrow⟩:=Pf (Rep.same s3 hR2)
   refine⟨_,rfl,a,rfl,⟨ws,hq⟩,fun D hD=>?_⟩
   refine Cr (K:=K) (a:=a) (xs:=ws) (fun i ys τ G=>Same H3 G/\G D=some (.lst ys)/\ys=((rs.take i).map hd).map V.str/\∃ o,τ=[o])
    ⟨Same.new hD,Ae,rfl,none,rfl⟩ (fun i ys τ G _ ⟨s4,_⟩=>s4.seq hq) ?_ ?_
   . rintro i x ys τ G hx ⟨s4,hD4,rfl,o,rfl⟩
     obtain⟨b,r,rfl,hr,hb⟩:=hrow i x hx
     have hi:=(List.getElem?_eq_some_iff.mp hr).1
     obtain⟨r1,r2,r3⟩:=rok.row r (List.mem_of_getElem? hr)
     have hat:atI (r.map V.str) 0=some (.str (hd r)):=by
      cases r with
      | nil=>exact absurd rfl r1
      | cons w r=>exact Cb (j:=0) rfl
     have rle:=rok.le
     refine⟨_,rfl,b,_,_,_,rfl,rfl,s4.seq hb,hat,hD4,Dl (by simp;omega),s4.turn hD,Ae,?_,_,rfl⟩
     rw [List.take_add_one,hr,List.map_append,List.map_append]
     rfl
   . rintro ys τ G ⟨s4,hD4,rfl,_⟩
     rw [hul,List.take_length] at hD4
     refine⟨At (by simp),fun t ht=>?_⟩
     have s5:Same G (upd G t (.tup [.ref l1,.ref D])):=Same.new ht
     refine k5 (rs.map hd) ps ?_ t l1 D _ (((s2.trans s3).trans s4).trans s5) Ae ⟨l1,us,rfl,.of (s5 _ _ (s4 _ _ h3)),Reps.same (s4.trans s5) r3⟩ ⟨D,_,rfl,.of (s5 _ _ hD4),Ch.mpr rfl⟩
     rw [due]
     show (if ps.length<=40 then _ else _)=_
     rw [if_pos (by simpa using g1),show misD (ps.map tI)=none from g2]
abbrev C2:Stmt:=top 43
theorem Q3:FnScope ["_law_text","_law_found","_law_told","_law_error"] ["_law_text"] (Ak C2):=⟨rfl,rfl,rfl,by decide +kernel,rfl,by decide +kernel,by decide +kernel⟩
theorem Bd:(["_law_text","_law_found","_law_told","_law_error"]:List Str).Nodup:=by decide +kernel
theorem Rt {f:Addr}{fd:FuncData} (F:Fun K "_law_told_by" "_law_told_by" C2 f fd) (T:Txt K mg Aj Ad Ah Af Ac) (V3:HasX P w K mg base "read" ["thing"] 7 (O4 K Ah Af Ad Ac)) (Ev:Has P w K mg base "_law_whole" ["_law_found"] 1 (Gh K)) (hn_L_alone:HasN P w K mg base "_law_alone" ["_law_error"] 1 (Lj K Ah Af Ad Ac)):FnOk P w K mg base CX0 8 f fd ["_law_text"] (O0 K):=by
 refine F.ok Q3 (fun vs H Q E h=>?_) (fun B5 A outer s H vs Q E hr h=>?_)
 . obtain⟨v,e,rfl,hv,ha,k⟩:=h
   rfl
 . obtain⟨v,e,rfl,hv,ha,k⟩:=h
   refine⟨_,(Ag (As (i:=1) Bd (by rfl) (by first | exact Or.inl rfl | exact Or.inr rfl) N6)
    (Ag (As (i:=2) Bd (by rfl) (by first | exact Or.inl rfl | exact Or.inr rfl) N6)
    (Ag (Ai8 (fun _ _=>(Al (As (i:=1) Bd (by rfl) (by first | exact Or.inl rfl | exact Or.inr rfl) (Io V6 V3 hr (by rfl) (Ab (pv 0) Ai)))))
    (p9 (i:=3) Bd (by rfl) (by rfl) (by rfl) T.m_NoText T.k_NoText (fun _=>(Al (As (i:=2) Bd (by rfl) (by first | exact Or.inl rfl | exact Or.inr rfl) (B4 (Ab A5 (Ab (Ld hn_L_alone hr.n (by rfl) (Ab (pv 3) Ai)) Ai))))))
    (p9 (i:=3) Bd (by rfl) (by rfl) (by rfl) T.m_NoName T.k_NoName (fun _=>(Al (As (i:=2) Bd (by rfl) (by first | exact Or.inl rfl | exact Or.inr rfl) (B4 (Ab A5 (Ab (Ld hn_L_alone hr.n (by rfl) (Ab (pv 3) Ai)) Ai))))))
    (p9 (i:=3) Bd (by rfl) (by rfl) (by rfl) T.m_NoShape T.k_NoShape (fun _=>(Al (As (i:=2) Bd (by rfl) (by first | exact Or.inl rfl | exact Or.inr rfl) (B4 (Ab A5 (Ab (Ld hn_L_alone hr.n (by rfl) (Ab (pv 3) Ai)) Ai))))))
    (p9 (i:=3) Bd (by rfl) (by rfl) (by rfl) T.m_NoPiece T.k_NoPiece (fun _=>(Al (As (i:=2) Bd (by rfl) (by first | exact Or.inl rfl | exact Or.inr rfl) (B4 (Ab A5 (Ab (Ld hn_L_alone hr.n (by rfl) (Ab (pv 3) Ai)) (Ab (q0 (K:=K) (pv 3)) Ai)))))))
    Ac6)))))
    (Ag (Bj (Av Aj6 (pv 2) N6 (A6 _)) (Ag (Bj (PW.pt (Xv (Eu (Et (Ap (Ca (K:=K)) (by rfl) T.n_isinstance Aq (Ab (pv 1) (Ab (D3 (v:=.ty "tuple") rfl T.n_tuple C9 rfl) Ai))))) (Re (Av X2 (Ap (Ar (K:=K)) (by rfl) T.n_len PySem.boot_len (Ab (pv 1) Ai)) Am (A6 _))))) (Al (Ay (B4 (Ab A5 Ai)))) Au)
    (Al (Ay (B4 (Ab A5 (Ab (Ce (Cl (K:=K)) (pv 1) Am (fun _ _=>rfl)) (Ab (Ce (Cl (K:=K)) (pv 1) Am (fun _ _=>rfl)) Ai))))))) Au)
    (Ag (Bj (PW.pt (Rf (Av Fb (Ce (Cl (K:=K)) (pv 2) Am (fun _ _=>rfl)) A5 (A6 _)) (Lp (Eu (Et (Aw Ev hr (by rfl) (Ab (Ce (Cl (K:=K)) (pv 2) Am (fun _ _=>rfl)) Ai))))))) (Al (Ay (B4 (Ab A5 Ai)))) Au)
    (Al (Ay (pv 2)))))))),?_⟩
   refine⟨_,rfl,v,e,rfl,hv,ha,fun h1 H1 s1=>?_,fun h1 H1 s1=>?_,fun h1 H1 s1=>?_,fun i h1 d H1 s1 hd=>?_,fun ns ps h1 t l n H1 s1 ht rl rn=>?_⟩
   . -- NoText
     refine⟨Ah,true,rfl,T.s_NoText_NoText,?_⟩
     refine ifP rfl fun x hx=>?_
     have s2:Same H1 (upd H1 x (excX x (.ref Ah) none)):=Same.new hx
     have hxx:upd H1 x (excX x (.ref Ah) none) x=some (excX x (.ref Ah) none):=Ae
     generalize upd H1 x (excX x (.ref Ah) none)=H2 at s2 hxx ⊢
     refine⟨_,rfl,x,Ah,none,rfl,hxx,.inl ⟨rfl,rfl⟩,At (by simp),fun p hp=>?_⟩
     have s3:Same H2 (upd H2 p (.tup [.str "text",.bl true])):=Same.new hp
     have hp3:upd H2 p (.tup [.str "text",.bl true]) p=some (.tup [.str "text",.bl true]):=Ae
     have s4:=(s1.trans s2).trans s3
     generalize upd H2 p (.tup [.str "text",.bl true])=H3 at s3 hp3 s4 ⊢
     refine⟨_,rfl,rfl,_,rfl,?_⟩
     refine ifN (by simp) ?_
     refine⟨_,rfl,p,_,_,_,rfl,rfl,.of hp3,at0 _ _,rfl,_,rfl,?_⟩
     refine ifN (by decide) ?_
     refine ifN (by decide) ?_
     refine⟨_,rfl,k _ _ s4 ?_⟩
     rw [h1]
     exact Fx hp3
   . -- NoName
     refine⟨Af,false,rfl,T.s_NoName_NoText,?_⟩
     refine ifN (by decide) ?_
     refine⟨Af,true,rfl,T.s_NoName_NoName,?_⟩
     refine ifP rfl fun x hx=>?_
     have s2:Same H1 (upd H1 x (excX x (.ref Af) none)):=Same.new hx
     have hxx:upd H1 x (excX x (.ref Af) none) x=some (excX x (.ref Af) none):=Ae
     generalize upd H1 x (excX x (.ref Af) none)=H2 at s2 hxx ⊢
     refine⟨_,rfl,x,Af,none,rfl,hxx,.inr (.inl ⟨rfl,rfl⟩),At (by simp),fun p hp=>?_⟩
     have s3:Same H2 (upd H2 p (.tup [.str "name",.bl true])):=Same.new hp
     have hp3:upd H2 p (.tup [.str "name",.bl true]) p=some (.tup [.str "name",.bl true]):=Ae
     have s4:=(s1.trans s2).trans s3
     generalize upd H2 p (.tup [.str "name",.bl true])=H3 at s3 hp3 s4 ⊢
     refine⟨_,rfl,rfl,_,rfl,?_⟩
     refine ifN (by simp) ?_
     refine⟨_,rfl,p,_,_,_,rfl,rfl,.of hp3,at0 _ _,rfl,_,rfl,?_⟩
     refine ifN (by decide) ?_
     refine ifN (by decide) ?_
     refine⟨_,rfl,k _ _ s4 ?_⟩
     rw [h1]
     exact Fx hp3
   . -- NoShape
     refine⟨Ad,false,rfl,T.s_NoShape_NoText,?_⟩
     refine ifN (by decide) ?_
     refine⟨Ad,false,rfl,T.s_NoShape_NoName,?_⟩
     refine ifN (by decide) ?_
     refine⟨Ad,true,rfl,T.s_NoShape_NoShape,?_⟩
     refine ifP rfl fun x hx=>?_
     have s2:Same H1 (upd H1 x (excX x (.ref Ad) none)):=Same.new hx
     have hxx:upd H1 x (excX x (.ref Ad) none) x=some (excX x (.ref Ad) none):=Ae
     generalize upd H1 x (excX x (.ref Ad) none)=H2 at s2 hxx ⊢
     refine⟨_,rfl,x,Ad,none,rfl,hxx,.inr (.inr (.inl ⟨rfl,rfl⟩)),At (by simp),fun p hp=>?_⟩
     have s3:Same H2 (upd H2 p (.tup [.str "shape",.bl true])):=Same.new hp
     have hp3:upd H2 p (.tup [.str "shape",.bl true]) p=some (.tup [.str "shape",.bl true]):=Ae
     have s4:=(s1.trans s2).trans s3
     generalize upd H2 p (.tup [.str "shape",.bl true])=H3 at s3 hp3 s4 ⊢
     refine⟨_,rfl,rfl,_,rfl,?_⟩
     refine ifN (by simp) ?_
     refine⟨_,rfl,p,_,_,_,rfl,rfl,.of hp3,at0 _ _,rfl,_,rfl,?_⟩
     refine ifN (by decide) ?_
     refine ifN (by decide) ?_
     refine⟨_,rfl,k _ _ s4 ?_⟩
     rw [h1]
     exact Fx hp3
   . -- NoPiece
     refine⟨Ac,false,rfl,T.s_NoPiece_NoText,?_⟩
     refine ifN (by decide) ?_
     refine⟨Ac,false,rfl,T.s_NoPiece_NoName,?_⟩
     refine ifN (by decide) ?_
     refine⟨Ac,false,rfl,T.s_NoPiece_NoShape,?_⟩
     refine ifN (by decide) ?_
     refine⟨Ac,true,rfl,T.s_NoPiece_NoPiece,?_⟩
     refine ifP rfl fun x hx=>?_
     have s2:Same H1 (upd H1 x (excX x (.ref Ac) (some d))):=Same.new hx
     have hxx:upd H1 x (excX x (.ref Ac) (some d)) x=some (excX x (.ref Ac) (some d)):=Ae
     have hdd:=s2 _ _ hd
     generalize upd H1 x (excX x (.ref Ac) (some d))=H2 at s2 hxx hdd ⊢
     refine⟨_,rfl,x,Ac,some d,rfl,hxx,.inr (.inr (.inr ⟨rfl,d,rfl⟩)),_,rfl,x,Ac,d,_,_,rfl,hxx,T.x_NoPiece,T.ea_NoPiece_place,hdd,rfl,At (by simp),fun p hp=>?_⟩
     have s3:Same H2 (upd H2 p (.tup [.str "piece",.bl true,.int (i:Int)])):=Same.new hp
     have hp3:upd H2 p (.tup [.str "piece",.bl true,.int (i:Int)]) p=some (.tup [.str "piece",.bl true,.int (i:Int)]):=Ae
     have s4:=(s1.trans s2).trans s3
     generalize upd H2 p (.tup [.str "piece",.bl true,.int (i:Int)])=H3 at s3 hp3 s4 ⊢
     refine⟨_,rfl,rfl,_,rfl,?_⟩
     refine ifN (by simp) ?_
     refine⟨_,rfl,p,_,_,_,rfl,rfl,.of hp3,at0 _ _,rfl,_,rfl,?_⟩
     refine ifP (by decide) ?_
     refine⟨_,rfl,p,_,_,_,rfl,rfl,.of hp3,at2 _ _ _ _,_,.int (i:Int),rfl,rfl,_,rfl,?_⟩
     refine ifN (by simp [Ea,isD]) ?_
     refine⟨_,rfl,k _ _ s4 ?_⟩
     rw [h1]
     exact Rb hp3
   . refine⟨_,rfl,rfl,_,rfl,?_⟩
     refine ifP (by decide) ?_
     refine⟨_,rfl,_,"tuple",.tup [.lst (ps.map tI),.lst (ns.map L2.D.str)],rfl,.inr (.inr (.inr (.inl rfl))),⟨t,_,rfl,.of ht,⟨_,_,rfl,rl,⟨_,_,rfl,rn,rfl⟩⟩⟩,_,rfl,?_⟩
     refine ifN (by simp [isD]) ?_
     refine⟨_,rfl,t,_,rfl,.inr (.of ht),rfl,_,rfl,?_⟩
     refine ifN (by simp) ?_
     refine⟨_,rfl,t,_,_,_,rfl,rfl,.of ht,at0 _ _,_,rfl,t,_,_,_,rfl,rfl,.of ht,at1 _ _ _,At (by simp),fun p hp=>?_⟩
     have s3:Same H1 (upd H1 p (.tup [.str "good",.ref l,.ref n])):=Same.new hp
     have hp3:upd H1 p (.tup [.str "good",.ref l,.ref n]) p=some (.tup [.str "good",.ref l,.ref n]):=Ae
     generalize upd H1 p (.tup [.str "good",.ref l,.ref n])=H2 at s3 hp3 ⊢
     refine k _ _ (s1.trans s3) ?_
     rw [h1]
     exact ⟨p,_,rfl,.of hp3,⟨_,_,rfl,rfl,⟨_,_,rfl,Rep.same s3 rl,⟨_,_,rfl,Rep.same s3 rn,rfl⟩⟩⟩⟩
abbrev Ng:Stmt:=top 44
theorem Ai0:FnScope ["_law_script","_law_shape","_law_names","_law_text","_law_name","_law_due"] ["_law_script"] (Ak Ng):=⟨rfl,rfl,rfl,by decide +kernel,rfl,by decide +kernel,by decide +kernel⟩
theorem L3:(["_law_script","_law_shape","_law_names","_law_text","_law_name","_law_due"]:List Str).Nodup:=by decide +kernel
theorem Ak0 {f:Addr}{fd:FuncData} (F:Fun K "law" "law" Ng f fd) (T:Txt K mg Aj Ad Ah Af Ac) (F8:Has P w K mg base "_law_shape_by" ["_law_kind","_law_cells","_law_most"] 3 (E6 K)) (F9:Has P w K mg base "_law_names_by" ["_law_cell","_law_many"] 2 (E7 K)) (Fg:Has P w K mg base "_law_spoilt_by" ["_law_script","_law_text"] 2 (Jh K)) (Kb:Has P w K mg base "_law_due_of" ["_law_text"] 3 (Ut K)) (Bb:Has P w K mg base "_law_cell_at" ["_law_script","_law_k"] 1 (Eb K)) (Hq:Has P w K mg base "_law_text_by" ["_law_shape","_law_names"] 1 (Fu K)) (Ff:Has P w K mg base "_law_told_by" ["_law_text"] 8 (O0 K)):FnOk P w K mg base CX0 9 f fd ["_law_script"] (Wu K):=by
 refine F.ok Ai0 (fun vs H Q E h=>?_) (fun B5 A outer s H vs Q E hr h=>?_)
 . obtain⟨a,ns,rfl,hS,hl,k⟩:=h
   rfl
 . obtain⟨a,ns,rfl,hS,hl,k⟩:=h
   have hu8:(A.deeper (PyProof.Rows.envOfC "law" (Ak Ng) s.heap.objs.size f B5)).units+8<cLine:=by have:=hr.units;omega
   refine⟨_,(Ag (As (i:=1) L3 (by rfl) (by first | exact Or.inl rfl | exact Or.inr rfl) (Aw F8 hr (by rfl) (Ab (Aw Bb hr (by rfl) (Ab (pv 0) (Ab Am Ai))) (Ab (A9 (Ed (K:=K)) (pv 0) (Bg Am) (Bg Am)) (Ab Am Ai)))))
    (Ag (As (i:=2) L3 (by rfl) (by first | exact Or.inl rfl | exact Or.inr rfl) (Aw F9 hr (by rfl) (Ab (Aw Bb hr (by rfl) (Ab (pv 0) (Ab Am Ai))) (Ab (Ap (Ar (K:=K)) (by rfl) T.n_len PySem.boot_len (Ab (pv 1) Ai)) Ai))))
    (Ag (As (i:=3) L3 (by rfl) (by first | exact Or.inl rfl | exact Or.inr rfl) (Aw Fg hr (by rfl) (Ab (pv 0) (Ab (Aw Hq hr (by rfl) (Ab (pv 1) (Ab (pv 2) Ai))) Ai))))
    (Ag (Bj (Av Fb (Az Bq (Az D4 (Aw Bb hr (by rfl) (Ab (pv 0) (Ab Am Ai))) Am) Am) Am (A6 _)) (Al (Bz PassesOwn.never rfl (L4 (K:=K) (A9 (u5 (K:=K)) (B4 (Ab A5 (Ab A5 (Ab A5 (Ab A5 Ai))))) Bm (Bg (Az Bq (Aw Bb hr (by rfl) (Ab (pv 0) (Ab Am Ai))) Am)))) (A1 (i:=4) L3 (by rfl) (by first | exact Or.inl rfl | exact Or.inr rfl)) (Al (As (i:=3) L3 (by rfl) (by first | exact Or.inl rfl | exact Or.inr rfl) (Az Bw (Az Bw (pv 3) A5) (pv 4)))))) Au)
    (Ag (Bj (Av Fb (Az Bq (Az D4 (Aw Bb hr (by rfl) (Ab (pv 0) (Ab Am Ai))) Am) Am) Am (A6 _)) (Al (As (i:=3) L3 (by rfl) (by first | exact Or.inl rfl | exact Or.inr rfl) (PEw.h (Ac8 (K:=K) (Iq N6 (Iq Am (Iq (Db (Ab A5 Ai)) (Iq (B4 (Ab A5 Ai)) (Iq Wx Ad2))))) (Az Bq (Aw Bb hr (by rfl) (Ab (pv 0) (Ab Am Ai))) Am) (fun _ _=>rfl))))) Au)
    (Ag (As (i:=5) L3 (by rfl) (by first | exact Or.inl rfl | exact Or.inr rfl) (Aw Kb hr (by rfl) (Ab (pv 3) Ai)))
    (Al (Ay (Ip (Ju (c8 (K:=K) hu8) (Aw Ff hr (by rfl) (Ab (pv 3) Ai)) (pv 5) (A6 _)) (Im (Ju (c8 (K:=K) hu8) (Aw Ff hr (by rfl) (Ab (pv 3) Ai)) (pv 5) (A6 _)))))))))))),?_⟩
   refine Ao (fun σ' H'=>∃ (p:Addr) (us:List V) (xs:List (List Int)),σ'=[some (.ref a),some (.ref p),none,none,none,none]/\Same H H'/\H' p=some (.lst us)/\Reps K H' us (xs.map tI)/\Gg xs/\xs.length<=40) ?_ fun key=>?_
   rotate_left
   . refine⟨_,rfl,a,ns,0,rfl,hS,by decide,hl,_,rfl,_,rfl,_,rfl,a,_,rfl,hS,fun C hC=>?_⟩
     have sC:Same H (upd H C (.lst (cutV (ns.map V.int) (some 4) (some 54)))):=Same.new hC
     have hcl:=v9 ns (some 4) (some 54)
     refine⟨C,cutI ns (some 4) (some 54),_,40,rfl,?_,by omega,by decide,by decide,fun p us H' xs hp s' hp' r' hsh hxl=>?_⟩
     . rw [←v7]
       exact .of Ae
     . exact key _ _ ⟨p,us,xs,rfl,sC.trans s',hp',r',hsh,by omega⟩
   rintro _ H1 ⟨p,us,xs,rfl,s1,h1p,r1,hs,hx⟩
   have hul:us.length=xs.length:=by have:=r1.length;simpa using this
   refine Ao (fun σ' H'=>∃ (l:Addr) (names:List Str),σ'=[some (.ref a),some (.ref p),some (.ref l),none,none,none]/\Same H1 H'/\H' l=some (.lst (names.map V.str))/\names.length=xs.length/\∀ x∈names,D7 x) ?_ fun key=>?_
   rotate_left
   . exact ⟨_,rfl,a,ns,4,rfl,s1.seq hS,by decide,hl,_,rfl,p,us,rfl,.inl (.of h1p),_,us.length,rfl,by omega,fun l names H' hl0 s2 h2 hnl hnd hn=>key _ _ ⟨l,names,rfl,s2,h2,by omega,hn⟩⟩
   rintro _ H2 ⟨l,names,rfl,s2,h2l,hnl,hn⟩
   refine Ao (fun σ' H'=>∃ (y:Str),σ'=[some (.ref a),some (.ref p),some (.ref l),some (.str y),none,none]/\Same H H'/\Asc 19000 y) ?_ fun key=>?_
   rotate_left
   . exact ⟨_,rfl,_,rfl,_,rfl,.ref p,l,xs,names,rfl,⟨p,us,rfl,.of (s2 _ _ h1p),Reps.same s2 r1⟩,.of h2l,hs,hx,hnl,hn,fun H' s=>⟨a,ns,_,rfl,((s1.trans s2).trans s).seq hS,hl,n4 hs hx hnl hn,fun y H'' s' hy=>key _ _ ⟨y,rfl,((s1.trans s2).trans s).trans s',hy⟩⟩⟩
   rintro _ H3 ⟨y,rfl,s3,hy⟩
   have hS3:=s3.seq hS
   have d5:(0:Int)<5:=by decide
   refine Ao (fun σ' H'=>∃ (y:Str) (o4:Option V),σ'=[some (.ref a),some (.ref p),some (.ref l),some (.str y),o4,none]/\Same H H'/\Asc 20000 y) ?_ fun key=>?_
   rotate_left
   . refine⟨_,rfl,a,ns,0,rfl,hS3,by decide,hl,_,_,rfl,rfl,⟨by decide,by decide⟩,_,_,rfl,rfl,d5,rfl,_,rfl,?_⟩
     refine ite2 (fun h1=>?_) (fun _=>?_)
     rotate_left
     . exact key _ _ ⟨y,none,rfl,s3,hy.mono (by decide)⟩
     refine⟨At (by simp),fun t ht=>?_⟩
     have s4:Same H3 (upd H3 t (.tup (four.map V.str))):=Same.new ht
     have h4t:upd H3 t (.tup (four.map V.str)) t=some (.tup (four.map V.str)):=Ae
     refine⟨_,rfl,a,ns,3,rfl,s4.seq hS3,by decide,hl,_,_,rfl,rfl,d5,_,rfl,t,_,rfl,.of h4t,fun q G s5 hq=>?_⟩
     have m0:=Int.emod_nonneg (Ee ns 3) (b:=5) (by decide)
     obtain⟨kk,ek⟩:=Int.eq_ofNat_of_zero_le m0
     have hq:SqT K G q (cutV (four.map V.str) none (some (Ee ns 3%5))):=hq
     rw [ek,Fl,←List.map_take] at hq
     refine⟨q,rfl,⟨_,hq⟩,?_⟩
     refine V5 (K:=K) (a:=q) (xs:=(four.take kk).map V.str) (fun i σ G1=>∃ (y:Str) (o4:Option V),σ=[some (.ref a),some (.ref p),some (.ref l),some (.str y),o4,none]/\G=G1/\Asc (19000+6*i) y)
      ⟨y,none,rfl,rfl,hy⟩ (fun i σ G1 _ ⟨_,_,_,e,_⟩=>e▸hq) ?_ ?_
     . rintro i x σ _ hx ⟨y,o4,rfl,rfl,hy⟩
       rw [List.getElem?_map] at hx
       obtain⟨w,hw,rfl⟩:=Option.map_eq_some_iff.mp hx
       have hil:=(List.getElem?_eq_some_iff.mp hw).1
       rw [List.length_take] at hil
       have hi4:i<4:=Nat.lt_of_lt_of_le hil (Nat.min_le_right _ _)
       have hwa:=v0 w (List.mem_of_mem_take (List.mem_of_getElem? hw))
       have y2:=hy.app Ww
       have y3:=y2.app hwa
       have b1:=hy.2
       have b2:=y2.2
       have b3:=hwa.2
       have b4:=Ww.2
       exact ⟨_,rfl,_,_,rfl,rfl,At (by omega),_,rfl,_,_,rfl,rfl,At (by omega),_,_,rfl,rfl,y3.mono (by omega)⟩
     . rintro σ _ ⟨y,o4,rfl,rfl,hy⟩
       have:((four.take kk).map V.str).length<=4:=by rw [List.length_map,List.length_take];exact Nat.min_le_right _ _
       exact key _ _ ⟨y,o4,rfl,(s3.trans s4).trans s5,hy.mono (by omega)⟩
   clear hS3 hy s3 y
   rintro _ H4 ⟨y,o4,rfl,s4,hy⟩
   have hS4:=s4.seq hS
   refine Ao (fun σ' H'=>∃ (v:V) (e:DE),σ'=[some (.ref a),some (.ref p),some (.ref l),some v,o4,none]/\RepE K H' v e/\AscE e) ?_ fun key=>?_
   rotate_left
   . refine⟨_,rfl,a,ns,0,rfl,hS4,by decide,hl,_,_,rfl,rfl,⟨by decide,by decide⟩,_,_,rfl,rfl,(by decide:(0:Int)<10),rfl,_,rfl,?_⟩
     refine ite2 (fun h1=>?_) (fun _=>?_)
     rotate_left
     . exact key _ _ ⟨.str y,.d (.str y),rfl,rfl,fun x e=>by cases e;exact hy⟩
     refine⟨At (by simp),fun b1 hb1=>?_⟩
     have t1:Same H4 (upd H4 b1 (.lst [.str "p"])):=Same.new hb1
     have g1:upd H4 b1 (.lst [.str "p"]) b1=some (.lst [.str "p"]):=Ae
     generalize upd H4 b1 (.lst [.str "p"])=G1 at t1 g1 ⊢
     refine⟨At (by simp),fun b2 hb2=>?_⟩
     have t2:Same G1 (upd G1 b2 (.tup [.str "p"])):=Same.new hb2
     have g2:upd G1 b2 (.tup [.str "p"]) b2=some (.tup [.str "p"]):=Ae
     generalize upd G1 b2 (.tup [.str "p"])=G2 at t2 g2 ⊢
     refine fun b3 hb3=>?_
     have t3:Same G2 (upd G2 b3 (.dK [])):=Same.new hb3
     have g3:upd G2 b3 (.dK []) b3=some (.dK []):=Ae
     generalize upd G2 b3 (.dK [])=G3 at t3 g3 ⊢
     refine⟨At (by simp),fun q hq=>?_⟩
     have t4:Same G3 (upd G3 q (.tup [.non,.int 7,.ref b1,.ref b2,.ref b3])):=Same.new hq
     have g4:upd G3 q (.tup [.non,.int 7,.ref b1,.ref b2,.ref b3]) q=some (.tup [.non,.int 7,.ref b1,.ref b2,.ref b3]):=Ae
     generalize upd G3 q (.tup [.non,.int 7,.ref b1,.ref b2,.ref b3])=G4 at t4 g4 ⊢
     have g1':=t4 _ _ (t3 _ _ (t2 _ _ g1))
     have g2':=t4 _ _ (t3 _ _ g2)
     have g3':=t4 _ _ g3
     have m0:=Int.emod_nonneg (Ee ns 3) (b:=5) (by decide)
     have m1:=Int.emod_lt_of_pos (Ee ns 3) (b:=5) (by decide)
     obtain⟨kk,ek⟩:=Int.eq_ofNat_of_zero_le m0
     refine⟨_,rfl,a,ns,3,rfl,(((t1.trans t2).trans t3).trans t4).seq hS4,by decide,hl,_,_,rfl,rfl,d5,?_⟩
     have hk:kk<5:=by omega
     have no:∀ d:L2.D,(∀ x,d≠.str x)->AscE (.d d):=fun d hd x e=>by cases e;exact absurd rfl (hd x)
     match kk,hk,ek with
     | 0,_,ek=>exact ⟨q,_,_,.non,rfl,rfl,.of g4,by show atI _ (Ee ns 3%5)=_;rw [ek];rfl,key _ _ ⟨.non,.d .non,rfl,rfl,no _ (by intro x z;cases z)⟩⟩
     | 1,_,ek=>exact ⟨q,_,_,.int 7,rfl,rfl,.of g4,by show atI _ (Ee ns 3%5)=_;rw [ek];rfl,key _ _ ⟨.int 7,.d (.int 7),rfl,rfl,no _ (by intro x z;cases z)⟩⟩
     | 2,_,ek=>exact ⟨q,_,_,.ref b1,rfl,rfl,.of g4,by show atI _ (Ee ns 3%5)=_;rw [ek];rfl,key _ _ ⟨.ref b1,.d (.lst [.str "p"]),rfl,⟨b1,_,rfl,.of g1',⟨_,_,rfl,rfl,rfl⟩⟩,no _ (by intro x z;cases z)⟩⟩
     | 3,_,ek=>exact ⟨q,_,_,.ref b2,rfl,rfl,.of g4,by show atI _ (Ee ns 3%5)=_;rw [ek];rfl,key _ _ ⟨.ref b2,.d (.tup [.str "p"]),rfl,⟨b2,_,rfl,.of g2',⟨_,_,rfl,rfl,rfl⟩⟩,no _ (by intro x z;cases z)⟩⟩
     | 4,_,ek=>exact ⟨q,_,_,.ref b3,rfl,rfl,.of g4,by show atI _ (Ee ns 3%5)=_;rw [ek];rfl,key _ _ ⟨.ref b3,.nul,rfl,⟨b3,rfl,.inl g3'⟩,fun x e=>by cases e⟩⟩
   rintro _ H5 ⟨v,e,rfl,re,ha⟩
   have dd:=v5 e
   refine Ao (fun σ' H'=>∃ u:V,σ'=[some (.ref a),some (.ref p),some (.ref l),some v,o4,some u]/\RepE K H' v e/\Rep K H' u (dueT e)) ?_ fun key=>?_
   rotate_left
   . exact ⟨_,rfl,v,e,rfl,re,ha,fun u H' s ru=>key _ _ ⟨u,rfl,RepE.same s re,ru⟩⟩
   rintro _ H6 ⟨u,rfl,re,ru⟩
   refine⟨_,rfl,v,e,rfl,re,ha,fun u1 G1 g1 ru1=>?_⟩
   refine⟨_,rfl,dueT e,dueT e,ru1,Rep.same g1 ru,by omega,_,rfl,?_⟩
   rw [Iw]
   refine ifP rfl ?_
   refine⟨_,rfl,v,e,rfl,RepE.same g1 re,ha,fun u2 G2 g2 ru2=>?_⟩
   refine⟨_,rfl,dueT e,dueT e,ru2,Rep.same (g1.trans g2) ru,by omega,?_⟩
   rw [Iw]
   exact k _
end
end Hb
namespace Hb
open PySem L2
theorem Id {α:Type}{P:List α->Prop} (h:∀ a0,P [a0]) (us:List α) (hl:us.length=1):P us:=by
 cases us with
 | nil=>exact nomatch hl
 | cons a0 u0 =>
   cases u0 with
   | nil=>exact h a0
   | cons _ _=>simp at hl
theorem K8 {α:Type}{P:List α->Prop} (h:∀ a0 a1,P [a0,a1]) (us:List α) (hl:us.length=2):P us:=by
 cases us with
 | nil=>exact nomatch hl
 | cons a0 u0 =>
   cases u0 with
   | nil=>exact nomatch hl
   | cons a1 u1 =>
     cases u1 with
     | nil=>exact h a0 a1
     | cons _ _=>simp at hl
theorem v4 {α:Type}{P:List α->Prop} (h:∀ a0 a1 a2,P [a0,a1,a2]) (us:List α) (hl:us.length=3):P us:=by
 cases us with
 | nil=>exact nomatch hl
 | cons a0 u0 =>
   cases u0 with
   | nil=>exact nomatch hl
   | cons a1 u1 =>
     cases u1 with
     | nil=>exact nomatch hl
     | cons a2 u2 =>
       cases u2 with
       | nil=>exact h a0 a1 a2
       | cons _ _=>simp at hl
set_option maxHeartbeats 4000000 in
theorem all_mk {l:PySem.W.OpenLaw}{w:World}{K:W.Frag}{h:Heap}{mg:Str->Option Value}{fa:Addr}{Aj:Addr}
 {Ad:Addr}
 {Ah:Addr}
 {Af:Addr}
 {Ac:Addr}
 {Bh:Addr}{J0 Kr:Option Addr}{Jn:Array (Option Value)}{J3 J7 Ki Jt E2 Kl:Value}
 {Ke:Addr}{Vm Wq:Option Addr}{Uz:Array (Option Value)}{Vq V1 Wb Vd Mq Wg:Value}
 {Kd:Addr}{Vl Wp:Option Addr}{Uy:Array (Option Value)}{Vp V0 Wa Vc Mp Wf:Value}
 {Fj:Addr}{Nl Ny:Option Addr}{Nb:Array (Option Value)}{Nn Nr Nu Nh G7 Nw:Value}
 {Dh:Addr}{Jz Kq:Option Addr}{Jm:Array (Option Value)}{J2 J6 Kh Js Ez Kk:Value}
 {Mg:Addr}{Ya Ze:Option Addr}{Xm:Array (Option Value)}{Yf Ys Y2 Xy Oe Y7:Value}
 {Me:Addr}{X8 Zc:Option Addr}{Xk:Array (Option Value)}{Yd Yq Y0 Xw Oc Y5:Value}
 {Mh:Addr}{Yb Zf:Option Addr}{Xn:Array (Option Value)}{Yg Yt Y3 Xz Of Y8:Value}
 {Ia:Addr}{R9 Ug:Option Addr}{Qy:Array (Option Value)}{Si S2 Tk Rm K2 Tu:Value}
 {Hx:Addr}{R6 Ud:Option Addr}{Qv:Array (Option Value)}{Sf Sz Th Rj Kz Tr:Value}
 {Ic:Addr}{Sb Ui:Option Addr}{Q0:Array (Option Value)}{Sk S4 Tm Ro K4 Tw:Value}
 {Gc:Addr}{Pr Qj:Option Addr}{Pa:Array (Option Value)}{Pu P1 Qa Pk Ja Qd:Value}
 {Hv:Addr}{R4 Ub:Option Addr}{Qt:Array (Option Value)}{Sd Sx Tf Rh Kx Tp:Value}
 {Hy:Addr}{R7 Ue:Option Addr}{Qw:Array (Option Value)}{Sg S0 Ti Rk K0 Ts:Value}
 {Hz:Addr}{R8 Uf:Option Addr}{Qx:Array (Option Value)}{Sh S1 Tj Rl K1 Tt:Value}
 {Mi:Addr}{Yc Zg:Option Addr}{Xo:Array (Option Value)}{Yh Yu Y4 X0 Og Y9:Value}
 {Dg:Addr}{Jy Kp:Option Addr}{Jl:Array (Option Value)}{J1 J5 Kg Jr Ey Kj:Value}
 {Mf:Addr}{X9 Zd:Option Addr}{Xl:Array (Option Value)}{Ye Yr Y1 Xx Od Y6:Value}
 {Hu:Addr}{R3 Ua:Option Addr}{Qs:Array (Option Value)}{Sc Sw Te Rg Kw To:Value}
 {Ib:Addr}{Sa Uh:Option Addr}{Qz:Array (Option Value)}{Sj S3 Tl Rn K3 Tv:Value}
 {Gb:Addr}{Pq Qi:Option Addr}{O9:Array (Option Value)}{Pt P0 P9 Pj Iz Qc:Value}
 {Em:Addr}{Lx Mx:Option Addr}{Ll:Array (Option Value)}{Lz L8 Mk Lr Ge Mn:Value}
 {Fk:Addr}{Nm Nz:Option Addr}{Nc:Array (Option Value)}{No Nt Nv Ni G8 Nx:Value}
 {Cn:Addr}{Gs Gz:Option Addr}{Go:Array (Option Value)}{Gu Gv Gx Gq Di Gy:Value}
 {Ga:Addr}{Pp Qh:Option Addr}{O8:Array (Option Value)}{Ps Pz P8 Pi Iy Qb:Value}
 {Kf:Addr}{Vn Wr:Option Addr}{U0:Array (Option Value)}{Vr V2 Wc Ve Mr Wh:Value}
 {g6:Addr}{Ae1 Ag7:Option Addr}{Ab4:Array (Option Value)}{Ae3 Ae8 Af9 Ac4 k7 Ag2:Value}
 {El:Addr}{Lw Mw:Option Addr}{Lk:Array (Option Value)}{Ly L7 Mj Lq Gd Mm:Value}
 {Kc:Addr}{Vk Wo:Option Addr}{Ux:Array (Option Value)}{Vo Vz V9 Vb Mo We:Value}
 {g0:Addr}{Ae0 Ag6:Option Addr}{Ab2:Array (Option Value)}{Ae2 Ae7 Af8 Ac3 j8 Ag1:Value}
 {Hw:Addr}{R5 Uc:Option Addr}{Qu:Array (Option Value)}{Se Sy Tg Ri Ky Tq:Value}
 {Af7:Addr}{Ak1 Aa1:Option Addr}{Ah9:Array (Option Value)}{Ak2 y7 z8 x8 j9 z9:Value}
 {N_NoPiece:Addr}{nm_NoPiece q_NoPiece:Str}{bs_NoPiece:List Value}{sn_NoPiece:List Str}{sub_NoPiece:List Value}{ab_NoPiece:Bool}{col_NoPiece:Option Bool}{dd_NoPiece:Option Addr}{k0_NoPiece k1_NoPiece k2_NoPiece k3_NoPiece k5_NoPiece:Option Value}
 {t_MOST_PIECES:Tok}
 {t_LONGEST_NAME:Tok}
 {fc_FACE_COUNTS:Addr}{nc_FACE_COUNTS:Nat}{slc_FACE_COUNTS:Array (Option Value)}{tc_FACE_COUNTS_0 tc_FACE_COUNTS_1 tc_FACE_COUNTS_2 tc_FACE_COUNTS_3:Tok}
 (X:K.In h) (G:h.Ns mainGlobals mg) (hfa:mg "law"=some (.ref fa))
 (ac_HoleError:PySem.W.nsIn K mainGlobals "HoleError"=some (some (.ref Aj)))
 (ac_NoShape:PySem.W.nsIn K mainGlobals "NoShape"=some (some (.ref Ad)))
 (ac_NoText:PySem.W.nsIn K mainGlobals "NoText"=some (some (.ref Ah)))
 (ac_NoName:PySem.W.nsIn K mainGlobals "NoName"=some (some (.ref Af)))
 (ac_NoPiece:PySem.W.nsIn K mainGlobals "NoPiece"=some (some (.ref Ac)))
 (zq18:PySem.W.findIn K (.ref Ac) "__init__"=some (some (.ref Bh)))
 (zq00:PySem.W.isFn K (.ref Bh)=true)
 (zq0b:K.lookup Bh=some ⟨J3,J0,.func (PySem.W.fnOf "__init__" "NoPiece.__init__" (A3 Bp) (A2 Bp) (Ak Bp) .none J7 Ki Jt Kr E2 Kl),Jn⟩)
 (zq0f:PySem.W.codeIn K E2 "NoPiece.__init__"=true)
 (zq0c:PySem.W.keepIn K (.ref Bh)=true)
 (zq2s:PySem.W.nsIn K mainGlobals "is_whole"=some (some (.ref Ke)))
 (zq2k:K.lookup Ke=some ⟨Vq,Vm,.func (PySem.W.fnOf "is_whole" "is_whole" (A3 Dr) (A2 Dr) (Ak Dr) .none V1 Wb Vd Wq Mq Wg),Uz⟩)
 (zq2o:PySem.W.codeIn K Mq "is_whole"=true)
 (zq1k:PySem.W.keepIn K (.ref Ke)=true)
 (zq2r:PySem.W.nsIn K mainGlobals "level_of"=some (some (.ref Kd)))
 (zq2j:K.lookup Kd=some ⟨Vp,Vl,.func (PySem.W.fnOf "level_of" "level_of" (A3 Dq) (A2 Dq) (Ak Dq) .none V0 Wa Vc Wp Mp Wf),Uy⟩)
 (zq2n:PySem.W.codeIn K Mp "level_of"=true)
 (zq1j:PySem.W.keepIn K (.ref Kd)=true)
 (zq16:PySem.W.nsIn K mainGlobals "faces_agree"=some (some (.ref Fj)))
 (zq0t:K.lookup Fj=some ⟨Nn,Nl,.func (PySem.W.fnOf "faces_agree" "faces_agree" (A3 Cc) (A2 Cc) (Ak Cc) .none Nr Nu Nh Ny G7 Nw),Nb⟩)
 (zq14:PySem.W.codeIn K G7 "faces_agree"=true)
 (zq0i:PySem.W.keepIn K (.ref Fj)=true)
 (zq0h:PySem.W.nsIn K mainGlobals "is_list_of_few"=some (some (.ref Dh)))
 (zq0a:K.lookup Dh=some ⟨J2,Jz,.func (PySem.W.fnOf "is_list_of_few" "is_list_of_few" (A3 Bo) (A2 Bo) (Ak Bo) .none J6 Kh Js Kq Ez Kk),Jm⟩)
 (zq0e:PySem.W.codeIn K Ez "is_list_of_few"=true)
 (zq03:PySem.W.keepIn K (.ref Dh)=true)
 (zq36:PySem.W.nsIn K mainGlobals "is_name"=some (some (.ref Mg)))
 (zq2w:K.lookup Mg=some ⟨Yf,Ya,.func (PySem.W.fnOf "is_name" "is_name" (A3 Eo) (A2 Eo) (Ak Eo) .none Ys Y2 Xy Ze Oe Y7),Xm⟩)
 (zq31:PySem.W.codeIn K Oe "is_name"=true)
 (zq2f:PySem.W.keepIn K (.ref Mg)=true)
 (zq34:PySem.W.nsIn K mainGlobals "spot_of"=some (some (.ref Me)))
 (zq2u:K.lookup Me=some ⟨Yd,X8,.func (PySem.W.fnOf "spot_of" "spot_of" (A3 Dz) (A2 Dz) (Ak Dz) .none Yq Y0 Xw Zc Oc Y5),Xk⟩)
 (zq2z:PySem.W.codeIn K Oc "spot_of"=true)
 (zq2d:PySem.W.keepIn K (.ref Me)=true)
 (zq37:PySem.W.nsIn K mainGlobals "_law_whole"=some (some (.ref Mh)))
 (zq2x:K.lookup Mh=some ⟨Yg,Yb,.func (PySem.W.fnOf "_law_whole" "_law_whole" (A3 Ep) (A2 Ep) (Ak Ep) .none Yt Y3 Xz Zf Of Y8),Xn⟩)
 (zq32:PySem.W.codeIn K Of "_law_whole"=true)
 (zq2g:PySem.W.keepIn K (.ref Mh)=true)
 (zq2a:PySem.W.nsIn K mainGlobals "_law_name_by"=some (some (.ref Ia)))
 (zq1s:K.lookup Ia=some ⟨Si,R9,.func (PySem.W.fnOf "_law_name_by" "_law_name_by" (A3 C6) (A2 C6) (Ak C6) .none S2 Tk Rm Ug K2 Tu),Qy⟩)
 (zq21:PySem.W.codeIn K K2 "_law_name_by"=true)
 (zq11:PySem.W.keepIn K (.ref Ia)=true)
 (zq27:PySem.W.nsIn K mainGlobals "_law_text_by"=some (some (.ref Hx)))
 (zq1p:K.lookup Hx=some ⟨Sf,R6,.func (PySem.W.fnOf "_law_text_by" "_law_text_by" (A3 C3) (A2 C3) (Ak C3) .none Sz Th Rj Ud Kz Tr),Qv⟩)
 (zq1y:PySem.W.codeIn K Kz "_law_text_by"=true)
 (zq0y:PySem.W.keepIn K (.ref Hx)=true)
 (zq2c:PySem.W.nsIn K mainGlobals "_law_cell_at"=some (some (.ref Ic)))
 (zq1u:K.lookup Ic=some ⟨Sk,Sb,.func (PySem.W.fnOf "_law_cell_at" "_law_cell_at" (A3 C8) (A2 C8) (Ak C8) .none S4 Tm Ro Ui K4 Tw),Q0⟩)
 (zq23:PySem.W.codeIn K K4 "_law_cell_at"=true)
 (zq13:PySem.W.keepIn K (.ref Ic)=true)
 (zq1h:PySem.W.nsIn K mainGlobals "_law_faces_by"=some (some (.ref Gc)))
 (zq1b:K.lookup Gc=some ⟨Pu,Pr,.func (PySem.W.fnOf "_law_faces_by" "_law_faces_by" (A3 Co) (A2 Co) (Ak Co) .none P1 Qa Pk Qj Ja Qd),Pa⟩)
 (zq1e:PySem.W.codeIn K Ja "_law_faces_by"=true)
 (zq0m:PySem.W.keepIn K (.ref Gc)=true)
 (zq25:PySem.W.nsIn K mainGlobals "_law_word_by"=some (some (.ref Hv)))
 (zq1n:K.lookup Hv=some ⟨Sd,R4,.func (PySem.W.fnOf "_law_word_by" "_law_word_by" (A3 C1) (A2 C1) (Ak C1) .none Sx Tf Rh Ub Kx Tp),Qt⟩)
 (zq1w:PySem.W.codeIn K Kx "_law_word_by"=true)
 (zq0w:PySem.W.keepIn K (.ref Hv)=true)
 (zq28:PySem.W.nsIn K mainGlobals "_law_sign_by"=some (some (.ref Hy)))
 (zq1q:K.lookup Hy=some ⟨Sg,R7,.func (PySem.W.fnOf "_law_sign_by" "_law_sign_by" (A3 C4) (A2 C4) (Ak C4) .none S0 Ti Rk Ue K0 Ts),Qw⟩)
 (zq1z:PySem.W.codeIn K K0 "_law_sign_by"=true)
 (zq0z:PySem.W.keepIn K (.ref Hy)=true)
 (zq29:PySem.W.nsIn K mainGlobals "_law_name_is"=some (some (.ref Hz)))
 (zq1r:K.lookup Hz=some ⟨Sh,R8,.func (PySem.W.fnOf "_law_name_is" "_law_name_is" (A3 C5) (A2 C5) (Ak C5) .none S1 Tj Rl Uf K1 Tt),Qx⟩)
 (zq20:PySem.W.codeIn K K1 "_law_name_is"=true)
 (zq10:PySem.W.keepIn K (.ref Hz)=true)
 (zq38:PySem.W.nsIn K mainGlobals "_law_alone"=some (some (.ref Mi)))
 (zq2y:K.lookup Mi=some ⟨Yh,Yc,.func (PySem.W.fnOf "_law_alone" "_law_alone" (A3 Er) (A2 Er) (Ak Er) .none Yu Y4 X0 Zg Og Y9),Xo⟩)
 (zq33:PySem.W.codeIn K Og "_law_alone"=true)
 (zq2h:PySem.W.keepIn K (.ref Mi)=true)
 (zq0g:PySem.W.nsIn K mainGlobals "is_whole_below"=some (some (.ref Dg)))
 (zq09:K.lookup Dg=some ⟨J1,Jy,.func (PySem.W.fnOf "is_whole_below" "is_whole_below" (A3 Bn) (A2 Bn) (Ak Bn) .none J5 Kg Jr Kp Ey Kj),Jl⟩)
 (zq0d:PySem.W.codeIn K Ey "is_whole_below"=true)
 (zq02:PySem.W.keepIn K (.ref Dg)=true)
 (zq35:PySem.W.nsIn K mainGlobals "rows_of"=some (some (.ref Mf)))
 (zq2v:K.lookup Mf=some ⟨Ye,X9,.func (PySem.W.fnOf "rows_of" "rows_of" (A3 En) (A2 En) (Ak En) .none Yr Y1 Xx Zd Od Y6),Xl⟩)
 (zq30:PySem.W.codeIn K Od "rows_of"=true)
 (zq2e:PySem.W.keepIn K (.ref Mf)=true)
 (zq24:PySem.W.nsIn K mainGlobals "pieces_of"=some (some (.ref Hu)))
 (zq1m:K.lookup Hu=some ⟨Sc,R3,.func (PySem.W.fnOf "pieces_of" "pieces_of" (A3 Ci) (A2 Ci) (Ak Ci) .none Sw Te Rg Ua Kw To),Qs⟩)
 (zq1v:PySem.W.codeIn K Kw "pieces_of"=true)
 (zq0v:PySem.W.keepIn K (.ref Hu)=true)
 (zq2b:PySem.W.nsIn K mainGlobals "_law_fits_by"=some (some (.ref Ib)))
 (zq1t:K.lookup Ib=some ⟨Sj,Sa,.func (PySem.W.fnOf "_law_fits_by" "_law_fits_by" (A3 Cj) (A2 Cj) (Ak Cj) .none S3 Tl Rn Uh K3 Tv),Qz⟩)
 (zq22:PySem.W.codeIn K K3 "_law_fits_by"=true)
 (zq12:PySem.W.keepIn K (.ref Ib)=true)
 (zq1g:PySem.W.nsIn K mainGlobals "_law_names_by"=some (some (.ref Gb)))
 (zq1a:K.lookup Gb=some ⟨Pt,Pq,.func (PySem.W.fnOf "_law_names_by" "_law_names_by" (A3 B8) (A2 B8) (Ak B8) .none P0 P9 Pj Qi Iz Qc),O9⟩)
 (zq1d:PySem.W.codeIn K Iz "_law_names_by"=true)
 (zq0l:PySem.W.keepIn K (.ref Gb)=true)
 (zq0s:PySem.W.nsIn K mainGlobals "_law_words_with"=some (some (.ref Em)))
 (zq0o:K.lookup Em=some ⟨Lz,Lx,.func (PySem.W.fnOf "_law_words_with" "_law_words_with" (A3 Bu) (A2 Bu) (Ak Bu) .none L8 Mk Lr Mx Ge Mn),Ll⟩)
 (zq0q:PySem.W.codeIn K Ge "_law_words_with"=true)
 (zq08:PySem.W.keepIn K (.ref Em)=true)
 (zq17:PySem.W.nsIn K mainGlobals "_law_spoilt_by"=some (some (.ref Fk)))
 (zq0u:K.lookup Fk=some ⟨No,Nm,.func (PySem.W.fnOf "_law_spoilt_by" "_law_spoilt_by" (A3 Cd) (A2 Cd) (Ak Cd) .none Nt Nv Ni Nz G8 Nx),Nc⟩)
 (zq15:PySem.W.codeIn K G8 "_law_spoilt_by"=true)
 (zq0j:PySem.W.keepIn K (.ref Fk)=true)
 (zq06:PySem.W.nsIn K mainGlobals "is_place_of_level"=some (some (.ref Cn)))
 (zq04:K.lookup Cn=some ⟨Gu,Gs,.func (PySem.W.fnOf "is_place_of_level" "is_place_of_level" (A3 Ba) (A2 Ba) (Ak Ba) .none Gv Gx Gq Gz Di Gy),Go⟩)
 (zq05:PySem.W.codeIn K Di "is_place_of_level"=true)
 (zq01:PySem.W.keepIn K (.ref Cn)=true)
 (zq1f:PySem.W.nsIn K mainGlobals "_law_shape_by"=some (some (.ref Ga)))
 (zq19:K.lookup Ga=some ⟨Ps,Pp,.func (PySem.W.fnOf "_law_shape_by" "_law_shape_by" (A3 B7) (A2 B7) (Ak B7) .none Pz P8 Pi Qh Iy Qb),O8⟩)
 (zq1c:PySem.W.codeIn K Iy "_law_shape_by"=true)
 (zq0k:PySem.W.keepIn K (.ref Ga)=true)
 (zq2t:PySem.W.nsIn K mainGlobals "_law_due_of"=some (some (.ref Kf)))
 (zq2l:K.lookup Kf=some ⟨Vr,Vn,.func (PySem.W.fnOf "_law_due_of" "_law_due_of" (A3 C7) (A2 C7) (Ak C7) .none V2 Wc Ve Wr Mr Wh),U0⟩)
 (zq2p:PySem.W.codeIn K Mr "_law_due_of"=true)
 (zq1l:PySem.W.keepIn K (.ref Kf)=true)
 (zq3g:PySem.W.nsIn K mainGlobals "fits"=some (some (.ref g6)))
 (zq3c:K.lookup g6=some ⟨Ae3,Ae1,.func (PySem.W.fnOf "fits" "fits" (A3 Lo) (A2 Lo) (Ak Lo) .none Ae8 Af9 Ac4 Ag7 k7 Ag2),Ab4⟩)
 (zq3e:PySem.W.codeIn K k7 "fits"=true)
 (zq3a:PySem.W.keepIn K (.ref g6)=true)
 (zq0r:PySem.W.nsIn K mainGlobals "first_misfit"=some (some (.ref El)))
 (zq0n:K.lookup El=some ⟨Ly,Lw,.func (PySem.W.fnOf "first_misfit" "first_misfit" (A3 B6) (A2 B6) (Ak B6) .none L7 Mj Lq Mw Gd Mm),Lk⟩)
 (zq0p:PySem.W.codeIn K Gd "first_misfit"=true)
 (zq07:PySem.W.keepIn K (.ref El)=true)
 (zq2q:PySem.W.nsIn K mainGlobals "shape_of"=some (some (.ref Kc)))
 (zq2i:K.lookup Kc=some ⟨Vo,Vk,.func (PySem.W.fnOf "shape_of" "shape_of" (A3 Dp) (A2 Dp) (Ak Dp) .none Vz V9 Vb Wo Mo We),Ux⟩)
 (zq2m:PySem.W.codeIn K Mo "shape_of"=true)
 (zq1i:PySem.W.keepIn K (.ref Kc)=true)
 (zq3f:PySem.W.nsIn K mainGlobals "read"=some (some (.ref g0)))
 (zq3b:K.lookup g0=some ⟨Ae2,Ae0,.func (PySem.W.fnOf "read" "read" (A3 N4) (A2 N4) (Ak N4) .none Ae7 Af8 Ac3 Ag6 j8 Ag1),Ab2⟩)
 (zq3d:PySem.W.codeIn K j8 "read"=true)
 (zq39:PySem.W.keepIn K (.ref g0)=true)
 (zq26:PySem.W.nsIn K mainGlobals "_law_told_by"=some (some (.ref Hw)))
 (zq1o:K.lookup Hw=some ⟨Se,R5,.func (PySem.W.fnOf "_law_told_by" "_law_told_by" (A3 C2) (A2 C2) (Ak C2) .none Sy Tg Ri Uc Ky Tq),Qu⟩)
 (zq1x:PySem.W.codeIn K Ky "_law_told_by"=true)
 (zq0x:PySem.W.keepIn K (.ref Hw)=true)
 (zq3k:PySem.W.nsIn K mainGlobals "law"=some (some (.ref Af7)))
 (zq3h:K.lookup Af7=some ⟨Ak2,Ak1,.func (PySem.W.fnOf "law" "law" (A3 Ng) (A2 Ng) (Ak Ng) .none y7 z8 x8 Aa1 j9 z9),Ah9⟩)
 (zq3j:PySem.W.codeIn K j9 "law"=true)
 (zq3i:PySem.W.keepIn K (.ref Af7)=true)
 (kc_NoPiece:PySem.W.keepIn K (.ref Ac)=true)
 (eo_NoPiece:K.lookup Ac=some (excClassObj nm_NoPiece q_NoPiece Ac N_NoPiece bs_NoPiece (.ref Aj::bmV) true sn_NoPiece sub_NoPiece ab_NoPiece col_NoPiece dd_NoPiece k0_NoPiece k1_NoPiece k2_NoPiece k3_NoPiece k5_NoPiece "ValueError.__new__"))
 (en_NoPiece:PySem.W.nsOkIn K N_NoPiece=true)
 (ei_NoPiece:PySem.W.nsIn K N_NoPiece "__init__"=some (some (.ref Bh)))
 (et_NoPiece:PySem.W.tailIn K bmV (.ref Aj::bmV)=true)
 (es_NoPiece:PySem.W.findIn K (.ref Ac) "__setattr__"=some (some (.builtin "object.__setattr__")))
 (ae_NoShape:PySem.W.excIn K Ad bmV "ValueError.__new__"=true)
 (ak_NoShape:PySem.W.ktsIn K Ad "BaseException"=true)
 (a1_NoShape:PySem.W.findIn K (.ref Ad) "__getattribute__"=some (some (.builtin "BaseException.__getattribute__")))
 (a2_NoShape:PySem.W.findIn K (.ref Ad) "__getattr__"=some none)
 (a3_NoShape:PySem.W.findIn K (.ref Ad) "__class__"=some (some (.builtin "object.__class__")))
 (a4_NoShape:PySem.W.subIn K (.ref Ad) (.type "object")=some true)
 (a5_NoShape:PySem.W.subIn K (.ref Ad) (.type "BaseException")=some true)
 (av_NoShape:PySem.W.kitOne K (.ref Ad) (.type "ValueError")=some true)
 (ae_NoText:PySem.W.excIn K Ah bmV "ValueError.__new__"=true)
 (ak_NoText:PySem.W.ktsIn K Ah "BaseException"=true)
 (a1_NoText:PySem.W.findIn K (.ref Ah) "__getattribute__"=some (some (.builtin "BaseException.__getattribute__")))
 (a2_NoText:PySem.W.findIn K (.ref Ah) "__getattr__"=some none)
 (a3_NoText:PySem.W.findIn K (.ref Ah) "__class__"=some (some (.builtin "object.__class__")))
 (a4_NoText:PySem.W.subIn K (.ref Ah) (.type "object")=some true)
 (a5_NoText:PySem.W.subIn K (.ref Ah) (.type "BaseException")=some true)
 (av_NoText:PySem.W.kitOne K (.ref Ah) (.type "ValueError")=some true)
 (ae_NoName:PySem.W.excIn K Af bmV "ValueError.__new__"=true)
 (ak_NoName:PySem.W.ktsIn K Af "BaseException"=true)
 (a1_NoName:PySem.W.findIn K (.ref Af) "__getattribute__"=some (some (.builtin "BaseException.__getattribute__")))
 (a2_NoName:PySem.W.findIn K (.ref Af) "__getattr__"=some none)
 (a3_NoName:PySem.W.findIn K (.ref Af) "__class__"=some (some (.builtin "object.__class__")))
 (a4_NoName:PySem.W.subIn K (.ref Af) (.type "object")=some true)
 (a5_NoName:PySem.W.subIn K (.ref Af) (.type "BaseException")=some true)
 (av_NoName:PySem.W.kitOne K (.ref Af) (.type "ValueError")=some true)
 (ak_NoPiece:PySem.W.ktsIn K Ac "BaseException"=true)
 (a1_NoPiece:PySem.W.findIn K (.ref Ac) "__getattribute__"=some (some (.builtin "BaseException.__getattribute__")))
 (a2_NoPiece:PySem.W.findIn K (.ref Ac) "__getattr__"=some none)
 (a3_NoPiece:PySem.W.findIn K (.ref Ac) "__class__"=some (some (.builtin "object.__class__")))
 (a4_NoPiece:PySem.W.subIn K (.ref Ac) (.type "object")=some true)
 (a5_NoPiece:PySem.W.subIn K (.ref Ac) (.type "BaseException")=some true)
 (av_NoPiece:PySem.W.kitOne K (.ref Ac) (.type "ValueError")=some true)
 (ai_NoShape_HoleError:PySem.W.kitOne K (.ref Ad) (.ref Aj)=some true)
 (ai_NoShape_NoShape:PySem.W.kitOne K (.ref Ad) (.ref Ad)=some true)
 (as_NoShape_NoShape:PySem.W.subIn K (.ref Ad) (.ref Ad)=some true)
 (ai_NoShape_NoText:PySem.W.kitOne K (.ref Ad) (.ref Ah)=some false)
 (as_NoShape_NoText:PySem.W.subIn K (.ref Ad) (.ref Ah)=some false)
 (ai_NoShape_NoName:PySem.W.kitOne K (.ref Ad) (.ref Af)=some false)
 (as_NoShape_NoName:PySem.W.subIn K (.ref Ad) (.ref Af)=some false)
 (ai_NoShape_NoPiece:PySem.W.kitOne K (.ref Ad) (.ref Ac)=some false)
 (ai_NoText_HoleError:PySem.W.kitOne K (.ref Ah) (.ref Aj)=some true)
 (ai_NoText_NoShape:PySem.W.kitOne K (.ref Ah) (.ref Ad)=some false)
 (ai_NoText_NoText:PySem.W.kitOne K (.ref Ah) (.ref Ah)=some true)
 (as_NoText_NoText:PySem.W.subIn K (.ref Ah) (.ref Ah)=some true)
 (ai_NoText_NoName:PySem.W.kitOne K (.ref Ah) (.ref Af)=some false)
 (ai_NoText_NoPiece:PySem.W.kitOne K (.ref Ah) (.ref Ac)=some false)
 (ai_NoName_HoleError:PySem.W.kitOne K (.ref Af) (.ref Aj)=some true)
 (ai_NoName_NoShape:PySem.W.kitOne K (.ref Af) (.ref Ad)=some false)
 (ai_NoName_NoText:PySem.W.kitOne K (.ref Af) (.ref Ah)=some false)
 (as_NoName_NoText:PySem.W.subIn K (.ref Af) (.ref Ah)=some false)
 (ai_NoName_NoName:PySem.W.kitOne K (.ref Af) (.ref Af)=some true)
 (as_NoName_NoName:PySem.W.subIn K (.ref Af) (.ref Af)=some true)
 (ai_NoName_NoPiece:PySem.W.kitOne K (.ref Af) (.ref Ac)=some false)
 (ai_NoPiece_HoleError:PySem.W.kitOne K (.ref Ac) (.ref Aj)=some true)
 (ai_NoPiece_NoShape:PySem.W.kitOne K (.ref Ac) (.ref Ad)=some false)
 (as_NoPiece_NoShape:PySem.W.subIn K (.ref Ac) (.ref Ad)=some false)
 (ai_NoPiece_NoText:PySem.W.kitOne K (.ref Ac) (.ref Ah)=some false)
 (as_NoPiece_NoText:PySem.W.subIn K (.ref Ac) (.ref Ah)=some false)
 (ai_NoPiece_NoName:PySem.W.kitOne K (.ref Ac) (.ref Af)=some false)
 (as_NoPiece_NoName:PySem.W.subIn K (.ref Ac) (.ref Af)=some false)
 (ai_NoPiece_NoPiece:PySem.W.kitOne K (.ref Ac) (.ref Ac)=some true)
 (as_NoPiece_NoPiece:PySem.W.subIn K (.ref Ac) (.ref Ac)=some true)
 (b1_HoleError:PySem.W.readsIn K Aj (.type "type")=true)
 (b2_HoleError:PySem.W.findCls K (.ref Aj) (.type "type") "__init__"=some (.val (.builtin "ValueError.__init__")))
 (b3_HoleError:PySem.W.specialIn K (.ref Aj) "__getattribute__"=some (some (.builtin "type.__getattribute__")))
 (na_NoPiece_place:PySem.W.findIn K (.ref Ac) "place"=some none)
 (ac_FACE_COUNTS:PySem.W.nsIn K mainGlobals "FACE_COUNTS"=some (some (.ref fc_FACE_COUNTS)))
 (lc_FACE_COUNTS:K.lookup fc_FACE_COUNTS=some ⟨.type "tuple",none,.seq #[.int 0 tc_FACE_COUNTS_0,.int 2 tc_FACE_COUNTS_1,.int 3 tc_FACE_COUNTS_2,.int 4 tc_FACE_COUNTS_3] nc_FACE_COUNTS,slc_FACE_COUNTS⟩)
 (aq_MOST_PIECES:PySem.W.nsIn K mainGlobals "MOST_PIECES"=some (some (.int 40 t_MOST_PIECES)))
 (aq_LONGEST_NAME:PySem.W.nsIn K mainGlobals "LONGEST_NAME"=some (some (.int 8 t_LONGEST_NAME)))
 (z_isinstance:PySem.W.nsIn K mainGlobals "isinstance"=some none)
 (z_int:PySem.W.nsIn K mainGlobals "int"=some none)
 (z_bool:PySem.W.nsIn K mainGlobals "bool"=some none)
 (z_max:PySem.W.nsIn K mainGlobals "max"=some none)
 (z_len:PySem.W.nsIn K mainGlobals "len"=some none)
 (z_all:PySem.W.nsIn K mainGlobals "all"=some none)
 (z_tuple:PySem.W.nsIn K mainGlobals "tuple"=some none)
 (z_range:PySem.W.nsIn K mainGlobals "range"=some none)
 (z_list:PySem.W.nsIn K mainGlobals "list"=some none)
 (z_enumerate:PySem.W.nsIn K mainGlobals "enumerate"=some none)
 (z_str:PySem.W.nsIn K mainGlobals "str"=some none)
 (z_ValueError:PySem.W.nsIn K mainGlobals "ValueError"=some none) :
 ∃ fd:FuncData,(∀ (s:Shared) (v:Value),BindsTo s fd ⟨[v],[]⟩ [("_law_script",v)])/\∀ base:Heap,K.In base->base.Ns mainGlobals mg->FnOk l.prog w K mg base CX0 9 fa fd ["_law_script"] (Wu K):=by
 have e:=hfa.symm.trans (PySem.W.mg_of X G zq3k)
 cases e
 have T:Txt K mg Aj Ad Ah Af Ac:=⟨PySem.W.mg_of X G ac_HoleError,PySem.W.mg_of X G ac_NoShape,ae_NoShape,⟨ak_NoShape,a1_NoShape,a2_NoShape,a3_NoShape,a4_NoShape,a5_NoShape⟩,ak_NoShape,av_NoShape,PySem.W.mg_of X G ac_NoText,ae_NoText,⟨ak_NoText,a1_NoText,a2_NoText,a3_NoText,a4_NoText,a5_NoText⟩,ak_NoText,av_NoText,PySem.W.mg_of X G ac_NoName,ae_NoName,⟨ak_NoName,a1_NoName,a2_NoName,a3_NoName,a4_NoName,a5_NoName⟩,ak_NoName,av_NoName,PySem.W.mg_of X G ac_NoPiece,⟨ak_NoPiece,a1_NoPiece,a2_NoPiece,a3_NoPiece,a4_NoPiece,a5_NoPiece⟩,ak_NoPiece,av_NoPiece,ai_NoShape_HoleError,ai_NoShape_NoShape,as_NoShape_NoShape,ai_NoShape_NoText,as_NoShape_NoText,ai_NoShape_NoName,as_NoShape_NoName,ai_NoShape_NoPiece,ai_NoText_HoleError,ai_NoText_NoShape,ai_NoText_NoText,as_NoText_NoText,ai_NoText_NoName,ai_NoText_NoPiece,ai_NoName_HoleError,ai_NoName_NoShape,ai_NoName_NoText,as_NoName_NoText,ai_NoName_NoName,as_NoName_NoName,ai_NoName_NoPiece,ai_NoPiece_HoleError,ai_NoPiece_NoShape,as_NoPiece_NoShape,ai_NoPiece_NoText,as_NoPiece_NoText,ai_NoPiece_NoName,as_NoPiece_NoName,ai_NoPiece_NoPiece,as_NoPiece_NoPiece,⟨b1_HoleError,b2_HoleError,b3_HoleError⟩,⟨Bh,⟨⟨N_NoPiece,nm_NoPiece,q_NoPiece,bs_NoPiece,sn_NoPiece,sub_NoPiece,ab_NoPiece,col_NoPiece,dd_NoPiece,k0_NoPiece,k1_NoPiece,k2_NoPiece,k3_NoPiece,k5_NoPiece,eo_NoPiece,en_NoPiece,ei_NoPiece⟩,et_NoPiece,zq00,es_NoPiece⟩⟩,ErrC.attr (D:=Aj) (f:=Bh) ⟨⟨N_NoPiece,nm_NoPiece,q_NoPiece,bs_NoPiece,sn_NoPiece,sub_NoPiece,ab_NoPiece,col_NoPiece,dd_NoPiece,k0_NoPiece,k1_NoPiece,k2_NoPiece,k3_NoPiece,k5_NoPiece,eo_NoPiece,en_NoPiece,ei_NoPiece⟩,et_NoPiece,zq00,es_NoPiece⟩ na_NoPiece_place,⟨fc_FACE_COUNTS,PySem.W.mg_of X G ac_FACE_COUNTS,fun H=>.inr ⟨_,_,_,lc_FACE_COUNTS,rfl,rfl,rfl,(by show (4:Nat)<=sizeLine;decide),.cons ⟨_,rfl⟩ (.cons ⟨_,rfl⟩ (.cons ⟨_,rfl⟩ (.cons ⟨_,rfl⟩ (.nil))))⟩⟩,⟨_,PySem.W.mg_of X G aq_MOST_PIECES⟩,⟨_,PySem.W.mg_of X G aq_LONGEST_NAME⟩,PySem.W.mg_none_of X G z_isinstance,PySem.W.mg_none_of X G z_int,PySem.W.mg_none_of X G z_bool,PySem.W.mg_none_of X G z_max,PySem.W.mg_none_of X G z_len,PySem.W.mg_none_of X G z_all,PySem.W.mg_none_of X G z_tuple,PySem.W.mg_none_of X G z_range,PySem.W.mg_none_of X G z_list,PySem.W.mg_none_of X G z_enumerate,PySem.W.mg_none_of X G z_str,PySem.W.mg_none_of X G z_ValueError⟩
 have Fq:=Bl (st:=Bp) zq0b zq0f zq0c
 have Os:=Bl (st:=Dr) zq2k zq2o zq1k
 have Oq:=Bl (st:=Dq) zq2j zq2n zq1j
 have Jd:=Bl (st:=Cc) zq0t zq14 zq0i
 have Fp:=Bl (st:=Bo) zq0a zq0e zq03
 have Ul:=Bl (st:=Eo) zq2w zq31 zq2f
 have Uj:=Bl (st:=Dz) zq2u zq2z zq2d
 have Um:=Bl (st:=Ep) zq2x zq32 zq2g
 have M7:=Bl (st:=C6) zq1s zq21 zq11
 have M4:=Bl (st:=C3) zq1p zq1y zq0y
 have M9:=Bl (st:=C8) zq1u zq23 zq13
 have K7:=Bl (st:=Co) zq1b zq1e zq0m
 have M2:=Bl (st:=C1) zq1n zq1w zq0w
 have M5:=Bl (st:=C4) zq1q zq1z zq0z
 have M6:=Bl (st:=C5) zq1r zq20 zq10
 have Uo:=Bl (st:=Er) zq2y zq33 zq2h
 have Fo:=Bl (st:=Bn) zq09 zq0d zq02
 have Uk:=Bl (st:=En) zq2v zq30 zq2e
 have M1:=Bl (st:=Ci) zq1m zq1v zq0v
 have M8:=Bl (st:=Cj) zq1t zq22 zq12
 have K6:=Bl (st:=B8) zq1a zq1d zq0l
 have Hg:=Bl (st:=Bu) zq0o zq0q zq08
 have Je:=Bl (st:=Cd) zq0u zq15 zq0j
 have D8:=Bl (st:=Ba) zq04 zq05 zq01
 have K5:=Bl (st:=B7) zq19 zq1c zq0k
 have Ot:=Bl (st:=C7) zq2l zq2p zq1l
 have Aa4:=Bl (st:=Lo) zq3c zq3e zq3a
 have Hf:=Bl (st:=B6) zq0n zq0p zq07
 have Op:=Bl (st:=Dp) zq2i zq2m zq1i
 have Aa3:=Bl (st:=N4) zq3b zq3d zq39
 have M3:=Bl (st:=C2) zq1o zq1x zq0x
 have Aq1:=Bl (st:=Ng) zq3h zq3j zq3i
 refine⟨PySem.W.fnOf "law" "law" (A3 Ng) (A2 Ng) (Ak Ng) .none y7 z8 x8 Aa1 j9 z9,fun s v=>.of_eq rfl,fun base _ _=>?_⟩
 have he_NoPiece:HasE l.prog w K mg base Ac Aj ["self","place"] 1 (Dx K Ac):=⟨_,_,⟨⟨N_NoPiece,nm_NoPiece,q_NoPiece,bs_NoPiece,sn_NoPiece,sub_NoPiece,ab_NoPiece,col_NoPiece,dd_NoPiece,k0_NoPiece,k1_NoPiece,k2_NoPiece,k3_NoPiece,k5_NoPiece,eo_NoPiece,en_NoPiece,ei_NoPiece⟩,et_NoPiece,zq00,es_NoPiece⟩,kc_NoPiece,Fq.binds (ps:=["self","place"]) (fun _ _ _ _ _ _=>K8 (fun _ _=>rfl)),Jx Fq T ⟩
 have Ka:Has l.prog w K mg base "is_whole" ["thing"] 1 (E5 K):=⟨_,_,PySem.W.mg_of X G zq2s,zq1k,Os.binds (ps:=["thing"]) (fun _ _ _ _ _ _=>Id (fun _=>rfl)),Vi Os T ⟩
 have Dw:Has l.prog w K mg base "level_of" ["piece"] 1 (E4 K):=⟨_,_,PySem.W.mg_of X G zq2r,zq1j,Oq.binds (ps:=["piece"]) (fun _ _ _ _ _ _=>Id (fun _=>rfl)),Vh Oq T ⟩
 have Fe:Has l.prog w K mg base "faces_agree" ["shape","faces"] 1 (Ef K):=⟨_,_,PySem.W.mg_of X G zq16,zq0i,Jd.binds (ps:=["shape","faces"]) (fun _ _ _ _ _ _=>K8 (fun _ _=>rfl)),Nj Jd T ⟩
 have Df:Has l.prog w K mg base "is_list_of_few" ["thing"] 1 (Uv K):=⟨_,_,PySem.W.mg_of X G zq0h,zq03,Fp.binds (ps:=["thing"]) (fun _ _ _ _ _ _=>Id (fun _=>rfl)),Jw Fp T ⟩
 have Ma:Has l.prog w K mg base "is_name" ["word"] 1 (O5 K):=⟨_,_,PySem.W.mg_of X G zq36,zq2f,Ul.binds (ps:=["word"]) (fun _ _ _ _ _ _=>Id (fun _=>rfl)),X5 Ul T ⟩
 have J8:HasX l.prog w K mg base "spot_of" ["spots","name"] 1 (O1 K Af):=⟨_,_,PySem.W.mg_of X G zq34,zq2d,Uj.binds (ps:=["spots","name"]) (fun _ _ _ _ _ _=>K8 (fun _ _=>rfl)),X3 Uj T ⟩
 have Ev:Has l.prog w K mg base "_law_whole" ["_law_found"] 1 (Gh K):=⟨_,_,PySem.W.mg_of X G zq37,zq2g,Um.binds (ps:=["_law_found"]) (fun _ _ _ _ _ _=>Id (fun _=>rfl)),X6 Um T ⟩
 have Fi:Has l.prog w K mg base "_law_name_by" ["_law_number","_law_stem"] 1 (Fv K):=⟨_,_,PySem.W.mg_of X G zq2a,zq11,M7.binds (ps:=["_law_number","_law_stem"]) (fun _ _ _ _ _ _=>K8 (fun _ _=>rfl)),Rx M7 T ⟩
 have Hq:Has l.prog w K mg base "_law_text_by" ["_law_shape","_law_names"] 1 (Fu K):=⟨_,_,PySem.W.mg_of X G zq27,zq0y,M4.binds (ps:=["_law_shape","_law_names"]) (fun _ _ _ _ _ _=>K8 (fun _ _=>rfl)),Ru M4 T ⟩
 have Bb:Has l.prog w K mg base "_law_cell_at" ["_law_script","_law_k"] 1 (Eb K):=⟨_,_,PySem.W.mg_of X G zq2c,zq13,M9.binds (ps:=["_law_script","_law_k"]) (fun _ _ _ _ _ _=>K8 (fun _ _=>rfl)),Rz M9 T ⟩
 have Cq:Has l.prog w K mg base "_law_faces_by" ["_law_word","_law_family"] 1 (Dk K):=⟨_,_,PySem.W.mg_of X G zq1h,zq0m,K7.binds (ps:=["_law_word","_law_family"]) (fun _ _ _ _ _ _=>K8 (fun _ _=>rfl)),Po K7 T ⟩
 have Ho:Has l.prog w K mg base "_law_word_by" ["_law_cell","_law_family","_law_letters"] 1 (Ft K):=⟨_,_,PySem.W.mg_of X G zq25,zq0w,M2.binds (ps:=["_law_cell","_law_family","_law_letters"]) (fun _ _ _ _ _ _=>v4 (fun _ _ _=>rfl)),Rs M2 T ⟩
 have Fh:Has l.prog w K mg base "_law_sign_by" ["_law_cell"] 1 (O2 K):=⟨_,_,PySem.W.mg_of X G zq28,zq0z,M5.binds (ps:=["_law_cell"]) (fun _ _ _ _ _ _=>Id (fun _=>rfl)),Rv M5 T ⟩
 have Hr:Has l.prog w K mg base "_law_name_is" ["_law_word"] 1 (Jj K):=⟨_,_,PySem.W.mg_of X G zq29,zq10,M6.binds (ps:=["_law_word"]) (fun _ _ _ _ _ _=>Id (fun _=>rfl)),Rw M6 T ⟩
 have hn_L_alone:HasN l.prog w K mg base "_law_alone" ["_law_error"] 1 (Lj K Ah Af Ad Ac):=⟨_,_,PySem.W.mg_of X G zq38,zq2h,Uo.binds (ps:=["_law_error"]) (fun _ _ _ _ _ _=>Id (fun _=>rfl)),X7 Uo T ⟩
 have De:Has l.prog w K mg base "is_whole_below" ["thing","bound"] 2 (C0 K):=⟨_,_,PySem.W.mg_of X G zq0g,zq02,Fo.binds (ps:=["thing","bound"]) (fun _ _ _ _ _ _=>K8 (fun _ _=>rfl)),Jv Fo T Ka⟩
 have J9:HasX l.prog w K mg base "rows_of" ["thing"] 2 (O3 K Ah):=⟨_,_,PySem.W.mg_of X G zq35,zq2e,Uk.binds (ps:=["thing"]) (fun _ _ _ _ _ _=>Id (fun _=>rfl)),X4 Uk T Ma⟩
 have F7:HasX l.prog w K mg base "pieces_of" ["rows"] 2 (Ji K Af):=⟨_,_,PySem.W.mg_of X G zq24,zq0v,M1.binds (ps:=["rows"]) (fun _ _ _ _ _ _=>Id (fun _=>rfl)),Rr M1 T J8⟩
 have Hs:Has l.prog w K mg base "_law_fits_by" ["_law_shape","_law_thing"] 2 (Fw K):=⟨_,_,PySem.W.mg_of X G zq2b,zq12,M8.binds (ps:=["_law_shape","_law_thing"]) (fun _ _ _ _ _ _=>K8 (fun _ _=>rfl)),Ry M8 T Ev⟩
 have F9:Has l.prog w K mg base "_law_names_by" ["_law_cell","_law_many"] 2 (E7 K):=⟨_,_,PySem.W.mg_of X G zq1g,zq0l,K6.binds (ps:=["_law_cell","_law_many"]) (fun _ _ _ _ _ _=>K8 (fun _ _=>rfl)),Pn K6 T Fi⟩
 have Ek:Has l.prog w K mg base "_law_words_with" ["_law_words","_law_word","_law_family"] 2 (Dy K):=⟨_,_,PySem.W.mg_of X G zq0s,zq08,Hg.binds (ps:=["_law_words","_law_word","_law_family"]) (fun _ _ _ _ _ _=>v4 (fun _ _ _=>rfl)),Lv Hg T Cq⟩
 have Fg:Has l.prog w K mg base "_law_spoilt_by" ["_law_script","_law_text"] 2 (Jh K):=⟨_,_,PySem.W.mg_of X G zq17,zq0j,Je.binds (ps:=["_law_script","_law_text"]) (fun _ _ _ _ _ _=>K8 (fun _ _=>rfl)),Nk Je T Bb Fh⟩
 have Cm:Has l.prog w K mg base "is_place_of_level" ["shape","thing","level"] 3 (Cg K):=⟨_,_,PySem.W.mg_of X G zq06,zq01,D8.binds (ps:=["shape","thing","level"]) (fun _ _ _ _ _ _=>v4 (fun _ _ _=>rfl)),Gr D8 T De Dw⟩
 have F8:Has l.prog w K mg base "_law_shape_by" ["_law_kind","_law_cells","_law_most"] 3 (E6 K):=⟨_,_,PySem.W.mg_of X G zq1f,zq0k,K5.binds (ps:=["_law_kind","_law_cells","_law_most"]) (fun _ _ _ _ _ _=>v4 (fun _ _ _=>rfl)),Pm K5 T Ek Ho Cq⟩
 have Kb:Has l.prog w K mg base "_law_due_of" ["_law_text"] 3 (Ut K):=⟨_,_,PySem.W.mg_of X G zq2t,zq1l,Ot.binds (ps:=["_law_text"]) (fun _ _ _ _ _ _=>Id (fun _=>rfl)),Vj Ot T Hs Hr⟩
 have f9:Has l.prog w K mg base "fits" ["shape","thing"] 4 (O6 K):=⟨_,_,PySem.W.mg_of X G zq3g,zq3a,Aa4.binds (ps:=["shape","thing"]) (fun _ _ _ _ _ _=>K8 (fun _ _=>rfl)),Ad8 Aa4 T Dw Fe Cm⟩
 have Ej:Has l.prog w K mg base "first_misfit" ["pieces"] 5 (Jk K):=⟨_,_,PySem.W.mg_of X G zq0r,zq07,Hf.binds (ps:=["pieces"]) (fun _ _ _ _ _ _=>Id (fun _=>rfl)),Lu Hf T f9⟩
 have Hn:HasX l.prog w K mg base "shape_of" ["thing"] 6 (Hi K Ad Ac):=⟨_,_,PySem.W.mg_of X G zq2q,zq1i,Op.binds (ps:=["thing"]) (fun _ _ _ _ _ _=>Id (fun _=>rfl)),Vg Op T Ej Df he_NoPiece⟩
 have V3:HasX l.prog w K mg base "read" ["thing"] 7 (O4 K Ah Af Ad Ac):=⟨_,_,PySem.W.mg_of X G zq3f,zq39,Aa3.binds (ps:=["thing"]) (fun _ _ _ _ _ _=>Id (fun _=>rfl)),Ad7 Aa3 T J9 F7 Hn⟩
 have Ff:Has l.prog w K mg base "_law_told_by" ["_law_text"] 8 (O0 K):=⟨_,_,PySem.W.mg_of X G zq26,zq0x,M3.binds (ps:=["_law_text"]) (fun _ _ _ _ _ _=>Id (fun _=>rfl)),Rt M3 T V3 Ev hn_L_alone⟩
 exact Ak0 Aq1 T F8 F9 Fg Kb Bb Hq Ff
theorem walk {l:PySem.W.OpenLaw}{q:Program}{loose:List Str}{XP:(Str->Option Value)->Heap->Prop}{YP:World->Heap->Prop}{d:DefRec}{K:Params->PySem.W.Frag} (hn:l.most=some 63) (hdf:d.params.defaults=[])
 (hY:∀ (w:World) (h:Heap),YP w h->(K w.params).In h)
 (F:∀ (w:World) (mg:Str->Option Value) (fa:Addr) (h:Heap),(K w.params).In h->h.Ns mainGlobals mg->mg d.name=some (.ref fa) →
   ∃ fd:FuncData,(∀ (s:Shared) (u:Value),BindsTo s fd ⟨[u],[]⟩ [("_law_script",u)])/\∀ base:Heap,(K w.params).In base->base.Ns mainGlobals mg->FnOk l.prog w (K w.params) mg base CX0 9 fa fd ["_law_script"] (Wu (K w.params))) :
 PySem.W.WalkO q loose XP YP l.row.toRowW d [] (fun f vs=>PySem.call f vs) :=
 L2.walk_of (n:=63) (k:=9) (x:="_law_script") (CX:=fun _=>CX0) (sp:=fun w=>Wu (K w.params)) hn (by decide) hdf ⟨rfl,by decide,by decide,rfl⟩ hY F (fun _ _ a ns hl _ hS=>⟨a,ns,rfl,hS,hl,fun _=>rfl⟩) fun _ _ _ _ _ z=>z
end Hb
namespace PySem.W.Fast
def tw16195765389319345299:=0
def tw5456575565747772142:=0
def tw11834834051689120475:=0
def tw10462691812589390630:=0
def tw15119856075359768533:=0
def tw4446391103106769572:=0
def tw6629930442404287863:=0
def tw7030733145799999787:=0
def tw3055155089392735672:=0
def tw15585081747674493200:=0
def tw9946378276296522177:=0
def tw1608143366795471846:=0
def tw3843352736250060818:=0
def tw11208702895071997432:=0
def tw12781386106597876864:=0
def tw2236187772812924770:=0
def tw13368776644434602739:=0
def tw8524236616752387015:=0
def tw14814603282399905077:=0
def tw1193384561264893248:=0
def tw12621443743677881964:=0
def tw9331308291047683817:=0
def tw11066243314043551942:=0
def tw14241225151476782356:=0
def tw1885882592960731580:=0
def tw12693733193055832083:=0
def tw17674869842787762807:=0
def tw4461091576053892193:=0
def tw3924024165233134686:=0
def tw16442256044757728918:=0
def tw1903462400304060434:=0
def tw2279477293593467723:=0
def tw12355607552245767931:=0
def tw12855762673134202284:=0
def tw13997906704133228017:=0
def tw14909460867450008063:=0
def tw933074124622364666:=0
def tw17474815371711070957:=0
def tw7290797731286898324:=0
def tw3473011540484455207:=0
def tw15092817570747368715:=0
def tw7385099649335393490:=0
def tw5409605233530377736:=0
def tw3790128704551895675:=0
def tw7383822920061609988:=0
def tw13755136005803238854:=0
def tw4124556725845178940:=0
def tw5154074506726296231:=0
def tw17514271311144844743:=0
def tw14655777338340859157:=0
def tw11922725379541149276:=0
def tw15575751956021050683:=0
def tw15569482363705127770:=0
def tw9877029476177277039:=0
def tw13092566889770121826:=0
def tw18337351935051775315:=0
def tw9222492398848220807:=0
def tw17341268136249661414:=0
def tw15403210864960763426:=0
def tw1173353362927757206:=0
def tw13909750903238678954:=0
def tw12416856343856299071:=0
def tw18394325078051744957:=0
def tw7523280299596787721:=0
def tw6611384856598048430:=0
def tw8960922419907711227:=0
def tw6774556783287474415:=0
def tw1771994378561966993:=0
def tw16673699351109313563:=0
def tw4188792558555920285:=0
def tw3019652893291397905:=0
def tw6555164667702181315:=0
def tw14279110452706324163:=0
def tw15590455865245287678:=0
def tw3710283953428506713:=0
def tw18109496129617769728:=0
def tw1935579582422332970:=0
def tw3511624662498490404:=0
def tw8979055519326221389:=0
def tw16988656677724809503:=0
def tw2304318609824890997:=0
def tw12082980835113173141:=0
def tw15690121162229780239:=0
def tw10896512182236001691:=0
def tw16896958866378110667:=0
def tw15712918787149350129:=0
def tw3871259931812947180:=0
def tw7422172011081438208:=0
def tw9818088456380477650:=0
def tw9016955185051746376:=0
def tw5100714024260946153:=0
def tw16004691141447547896:=0
def tw7018035658159511973:=0
def tw2559838257621119534:=0
def tw12906504351329794408:=0
def tw17949419727266315934:=0
def tw15883244168451077901:=0
def tw9856797866810461785:=0
def tw3881514393037323087:=0
def tw3114355691236475197:=0
def tw12194488032185748617:=0
def tw4509738888184482128:=0
def tw16785411864352572082:=0
def tw4680845159133285860:=0
def tw13619215629806566918:=0
def tw17884614071298974668:=0
def tw11420450523759150497:=0
def tw5255192175572641682:=0
def tw1830153815069903471:=0
def tw18022435211673797691:=0
def tw9691242149915075130:=0
def tw96488925013101826:=0
def tw9477701145192889008:=0
def tw8285763470587108420:=0
def tw3705311905467210438:=0
def tw12773035015455406883:=0
def tw986208631587336584:=0
def tw5970572917848864242:=0
def tw11983191785785162926:=0
def tw14356661809297135016:=0
def tw17147017243623005270:=0
def tw14956218340412989110:=0
def tw9599416910208840806:=0
def tw491604249959056061:=0
def tw7934945714988016093:=0
def tw5995221990336038526:=0
def tw14053378207204561055:=0
def tw4922206747352662476:=0
def tw43085103859205399:=0
def tw18418010280469175022:=0
def tw955743328333973656:=0
def tw59982897196793623:=0
def tw2263902066164572429:=0
def tw14863166587597245966:=0
def tw13695976608236516997:=0
def tw1011447768639397062:=0
def tw16485405502500919701:=0
def tw9920003364526847920:=0
def tw8666435126294936326:=0
def tw4499256640933236164:=0
def tw9973297396971148274:=0
def tw16175030932639656170:=0
def tw3907535968018580408:=0
def tw9154243544656710906:=0
def tw10824578736142020583:=0
def tw10224303955921715653:=0
def tw2693841938041122872:=0
def tw17529225478678876809:=0
def tw16533446964993266942:=0
def tw18396440675996004506:=0
def tw6392913278592272933:=0
def tw2133906838437783398:=0
def tw12488894882326233663:=0
def tw7925561536231441415:=0
def tw3761557954962367752:=0
def tw4957303945376548736:=0
def tw4920546704567650956:=0
def tw14891353556998807039:=0
def tw3421902550108491084:=0
def tw1845839385697836199:=0
def tw10011828630868581990:=0
def tw11791531976002931969:=0
def tw13493103820507875196:=0
def tw14704934297884640463:=0
def tw10737909648837544344:=0
def tw10043001672319911485:=0
def tw6925498001164707985:=0
def tw6633262067604403583:=0
def tw15117935309697149854:=0
def tw9841456141131605981:=0
def tw9710563085018201261:=0
def tw523581139589883192:=0
def tw11708867559874202081:=0
def tw13073174808201375442:=0
def tw7351170509886491093:=0
def tw14984589397204147235:=0
def tw16527691431432540039:=0
def tw5733618908215924761:=0
def tw7975529031707815765:=0
def tw1173426028471688710:=0
def tw17461751120358403728:=0
def tw16541170082324860976:=0
def tw1218264377186980441:=0
def tw4504631645841073815:=0
def tw8499828530943593659:=0
def tw1945702228907493842:=0
def tw10174167648365583212:=0
def tw1655675587988002055:=0
def tw3247594385812730532:=0
def tw17811968584695935846:=0
def tw11963378962124987645:=0
def tw7898067003175700851:=0
def tw2718203068583463449:=0
def tw6009060389256144817:=0
def tw6050274056977900511:=0
def tw4703161493271128427:=0
def tw11901073966045321369:=0
def tw12741933353197707086:=0
def tw7011081263554925766:=0
def tw10548646036814119528:=0
def tw694006061466491730:=0
def tw1285482063445566687:=0
def tw572339176746928708:=0
def tw12352778220218656244:=0
def tw6162072625562119705:=0
def tw7141667491905327261:=0
def tw355919586433971344:=0
def tw5855032057416766856:=0
def tw10651916058640903605:=0
def tw5155933342029909883:=0
def tw18161045600356928019:=0
def tw17668055053913401478:=0
def tw3789561988229719057:=0
def tw13711486087658075619:=0
def tw14103930041544276331:=0
def tw581285566373369223:=0
def tw1868310553104732702:=0
def tw10056736580733358509:=0
def tw3423365278323308106:=0
def tw12429817505343576615:=0
def tw15949827729628758856:=0
def tw14224063962345009653:=0
def tw3687169724009171699:=0
def tw16095834727556310171:=0
def tw4082702447787471308:=0
def tw5805109663033707657:=0
def tw4602183967178388253:=0
def tw17496033045673589046:=0
def tw1370224885472259076:=0
def tw5147138503104471418:=0
def tw14206755216963577021:=0
def tw14575681761378458802:=0
def tw1871297092926377834:=0
def tw3037409813052873588:=0
def tw17576400945704200996:=0
def tw9932382878463115151:=0
def tw4187140639755500825:=0
def tw7898545325714367738:=0
def tw12003228154059965566:=0
def tw3150715193398641870:=0
def tw14923055083245393982:=0
def tw2067748488001976966:=0
def tw12039718670000087758:=0
def tw13425636520316207714:=0
def tw17483865629465771828:=0
def tw13357482155808934187:=0
def tw9993155356577759009:=0
def tw11080176019924724797:=0
def tw2609125703541140884:=0
def tw9933592802523959452:=0
def tw5158767406154550260:=0
def tw7518375163696160854:=0
def tw4087153329997099552:=0
def tw5414329617378383477:=0
def tw1048630236900836196:=0
def tw3333912952775614785:=0
def tw5810142272703026775:=0
def tw8537877241842640357:=0
def tw10263378925889668158:=0
def tw1672896824251673710:=0
def tw10913062609847631640:=0
def tw7033921062325765439:=0
def tw5149780013977513376:=0
def tw6472648591448409972:=0
def tw1181374562818815930:=0
def tw5602269306415098104:=0
def tw9410236249484572942:=0
def tw5081860188553695203:=0
def tw3670749030646252303:=0
def tw15548128835418936713:=0
def tw3891821353927031165:=0
def tw7417536275991533667:=0
def tw4855929900307720303:=0
def tw5466085072751758290:=0
def tw6750461550553727218:=0
def tw1509920941479630023:=0
def tw17023214256204293667:=0
def tw12307897000627298547:=0
def tw15265332764488148493:=0
def tw1755853127050700467:=0
def tw38270098993720920:=0
def tw7145109952623003578:=0
def tw13495125193277441912:=0
def tw9174151279498502168:=0
def tw5604476445145134694:=0
def tw12473793471440193547:=0
def tw7790097473196090881:=0
def tw15128840000885073425:=0
def tw12797016929068823071:=0
def tw2637217854545311225:=0
def tw5290518360436421483:=0
def tw124919678419886763:=0
def tw17579994849595792888:=0
def tw10816907366707200784:=0
def tw16286575924970267804:=0
def tw13885390595396029879:=0
def tw9682076260369189835:=0
def tw729177780361855103:=0
def tw7281944769615360322:=0
def tw2955462580709240968:=0
def tw10380999372559257407:=0
def tw9696320974433184070:=0
def tw12528910546842601565:=0
def tw1047391796698289848:=0
def tw18172423504342520468:=0
def tw15292539172957401067:=0
def tw10381270912938463095:=0
def tw350298732333676754:=0
def tw13144673559444060536:=0
def tw2691890635014739439:=0
def tw8188857797310205291:=0
def tw1169535951056444729:=0
def tw13211572253811016848:=0
def tw9904380880934375023:=0
def tw3455479380616921981:=0
def tw6723930263462391957:=0
def tw14842936680466113570:=0
def tw11813651437662108685:=0
end PySem.W.Fast
open PySem PySem.W PyProof.Rows
set_option maxRecDepth 100000 in
set_option maxHeartbeats 0 in
theorem PySem.Challenge.cw_holebook_k08_what_a_text_tells_holds : PySem.Challenge.rw_holebook_k08_what_a_text_tells.Holds := by
 w_on;o_law;k_head;(case hw=>w_witness2)
 k_fill
 refine Hb.walk (l:=PySem.Challenge.rw_holebook_k08_what_a_text_tells) rfl rfl (fun w h Y=>PySem.W.kIn_of Y) ?F
 case F =>
  intro w mg fa h KX G hmg
  refine' Hb.all_mk KX G hmg ?ac_HoleError ?ac_NoShape ?ac_NoText ?ac_NoName ?ac_NoPiece ?zq18 ?zq00 ?zq0b ?zq0f ?zq0c ?zq2s ?zq2k ?zq2o ?zq1k ?zq2r ?zq2j ?zq2n ?zq1j ?zq16 ?zq0t ?zq14 ?zq0i ?zq0h ?zq0a ?zq0e ?zq03 ?zq36 ?zq2w ?zq31 ?zq2f ?zq34 ?zq2u ?zq2z ?zq2d ?zq37 ?zq2x ?zq32 ?zq2g ?zq2a ?zq1s ?zq21 ?zq11 ?zq27 ?zq1p ?zq1y ?zq0y ?zq2c ?zq1u ?zq23 ?zq13 ?zq1h ?zq1b ?zq1e ?zq0m ?zq25 ?zq1n ?zq1w ?zq0w ?zq28 ?zq1q ?zq1z ?zq0z ?zq29 ?zq1r ?zq20 ?zq10 ?zq38 ?zq2y ?zq33 ?zq2h ?zq0g ?zq09 ?zq0d ?zq02 ?zq35 ?zq2v ?zq30 ?zq2e ?zq24 ?zq1m ?zq1v ?zq0v ?zq2b ?zq1t ?zq22 ?zq12 ?zq1g ?zq1a ?zq1d ?zq0l ?zq0s ?zq0o ?zq0q ?zq08 ?zq17 ?zq0u ?zq15 ?zq0j ?zq06 ?zq04 ?zq05 ?zq01 ?zq1f ?zq19 ?zq1c ?zq0k ?zq2t ?zq2l ?zq2p ?zq1l ?zq3g ?zq3c ?zq3e ?zq3a ?zq0r ?zq0n ?zq0p ?zq07 ?zq2q ?zq2i ?zq2m ?zq1i ?zq3f ?zq3b ?zq3d ?zq39 ?zq26 ?zq1o ?zq1x ?zq0x ?zq3k ?zq3h ?zq3j ?zq3i ?kc_NoPiece ?eo_NoPiece ?en_NoPiece ?ei_NoPiece ?et_NoPiece ?es_NoPiece ?ae_NoShape ?ak_NoShape ?a1_NoShape ?a2_NoShape ?a3_NoShape ?a4_NoShape ?a5_NoShape ?av_NoShape ?ae_NoText ?ak_NoText ?a1_NoText ?a2_NoText ?a3_NoText ?a4_NoText ?a5_NoText ?av_NoText ?ae_NoName ?ak_NoName ?a1_NoName ?a2_NoName ?a3_NoName ?a4_NoName ?a5_NoName ?av_NoName ?ak_NoPiece ?a1_NoPiece ?a2_NoPiece ?a3_NoPiece ?a4_NoPiece ?a5_NoPiece ?av_NoPiece ?ai_NoShape_HoleError ?ai_NoShape_NoShape ?as_NoShape_NoShape ?ai_NoShape_NoText ?as_NoShape_NoText ?ai_NoShape_NoName ?as_NoShape_NoName ?ai_NoShape_NoPiece ?ai_NoText_HoleError ?ai_NoText_NoShape ?ai_NoText_NoText ?as_NoText_NoText ?ai_NoText_NoName ?ai_NoText_NoPiece ?ai_NoName_HoleError ?ai_NoName_NoShape ?ai_NoName_NoText ?as_NoName_NoText ?ai_NoName_NoName ?as_NoName_NoName ?ai_NoName_NoPiece ?ai_NoPiece_HoleError ?ai_NoPiece_NoShape ?as_NoPiece_NoShape ?ai_NoPiece_NoText ?as_NoPiece_NoText ?ai_NoPiece_NoName ?as_NoPiece_NoName ?ai_NoPiece_NoPiece ?as_NoPiece_NoPiece ?b1_HoleError ?b2_HoleError ?b3_HoleError ?na_NoPiece_place ?ac_FACE_COUNTS ?lc_FACE_COUNTS ?aq_MOST_PIECES ?aq_LONGEST_NAME ?z_isinstance ?z_int ?z_bool ?z_max ?z_len ?z_all ?z_tuple ?z_range ?z_list ?z_enumerate ?z_str ?z_ValueError
  (case ac_HoleError=>k_is);(case ac_NoShape=>k_is);(case ac_NoText=>k_is);(case ac_NoName=>k_is)
  (case ac_NoPiece=>k_is);(case ac_FACE_COUNTS=>k_is);(case zq18=>k_is);(case zq00=>k_is)
  (case zq0b=>k_is);(case zq0f=>k_is);(case zq0c=>k_is);(case zq2s=>k_is)
  (case zq2k=>k_is);(case zq2o=>k_is);(case zq1k=>k_is);(case zq2r=>k_is)
  (case zq2j=>k_is);(case zq2n=>k_is);(case zq1j=>k_is);(case zq16=>k_is)
  (case zq0t=>k_is);(case zq14=>k_is);(case zq0i=>k_is);(case zq0h=>k_is)
  (case zq0a=>k_is);(case zq0e=>k_is);(case zq03=>k_is);(case zq36=>k_is)
  (case zq2w=>k_is);(case zq31=>k_is);(case zq2f=>k_is);(case zq34=>k_is)
  (case zq2u=>k_is);(case zq2z=>k_is);(case zq2d=>k_is);(case zq37=>k_is)
  (case zq2x=>k_is);(case zq32=>k_is);(case zq2g=>k_is);(case zq2a=>k_is)
  (case zq1s=>k_is);(case zq21=>k_is);(case zq11=>k_is);(case zq27=>k_is)
  (case zq1p=>k_is);(case zq1y=>k_is);(case zq0y=>k_is);(case zq2c=>k_is)
  (case zq1u=>k_is);(case zq23=>k_is);(case zq13=>k_is);(case zq1h=>k_is)
  (case zq1b=>k_is);(case zq1e=>k_is);(case zq0m=>k_is);(case zq25=>k_is)
  (case zq1n=>k_is);(case zq1w=>k_is);(case zq0w=>k_is);(case zq28=>k_is)
  (case zq1q=>k_is);(case zq1z=>k_is);(case zq0z=>k_is);(case zq29=>k_is)
  (case zq1r=>k_is);(case zq20=>k_is);(case zq10=>k_is);(case zq38=>k_is)
  (case zq2y=>k_is);(case zq33=>k_is);(case zq2h=>k_is);(case zq0g=>k_is)
  (case zq09=>k_is);(case zq0d=>k_is);(case zq02=>k_is);(case zq35=>k_is)
  (case zq2v=>k_is);(case zq30=>k_is);(case zq2e=>k_is);(case zq24=>k_is)
  (case zq1m=>k_is);(case zq1v=>k_is);(case zq0v=>k_is);(case zq2b=>k_is)
  (case zq1t=>k_is);(case zq22=>k_is);(case zq12=>k_is);(case zq1g=>k_is)
  (case zq1a=>k_is);(case zq1d=>k_is);(case zq0l=>k_is);(case zq0s=>k_is)
  (case zq0o=>k_is);(case zq0q=>k_is);(case zq08=>k_is);(case zq17=>k_is)
  (case zq0u=>k_is);(case zq15=>k_is);(case zq0j=>k_is);(case zq06=>k_is)
  (case zq04=>k_is);(case zq05=>k_is);(case zq01=>k_is);(case zq1f=>k_is)
  (case zq19=>k_is);(case zq1c=>k_is);(case zq0k=>k_is);(case zq2t=>k_is)
  (case zq2l=>k_is);(case zq2p=>k_is);(case zq1l=>k_is);(case zq3g=>k_is)
  (case zq3c=>k_is);(case zq3e=>k_is);(case zq3a=>k_is);(case zq0r=>k_is)
  (case zq0n=>k_is);(case zq0p=>k_is);(case zq07=>k_is);(case zq2q=>k_is)
  (case zq2i=>k_is);(case zq2m=>k_is);(case zq1i=>k_is);(case zq3f=>k_is)
  (case zq3b=>k_is);(case zq3d=>k_is);(case zq39=>k_is);(case zq26=>k_is)
  (case zq1o=>k_is);(case zq1x=>k_is);(case zq0x=>k_is);(case zq3k=>k_is)
  (case zq3h=>k_is);(case zq3j=>k_is);(case zq3i=>k_is);(case kc_NoPiece=>k_is)
  (case eo_NoPiece=>k_is);(case en_NoPiece=>first | k_is | k_qdec | kernel_rfl | decide +kernel);(case ei_NoPiece=>k_is);(case et_NoPiece=>first | k_is | k_qdec | kernel_rfl | decide +kernel)
  (case es_NoPiece=>k_is);(case ae_NoShape=>k_exc);(case ak_NoShape=>kts_isx);(case a1_NoShape=>k_is)
  (case a2_NoShape=>k_is);(case a3_NoShape=>k_is);(case a4_NoShape=>k_is);(case a5_NoShape=>k_is)
  (case av_NoShape=>kit_is);(case ae_NoText=>k_exc);(case ak_NoText=>kts_isx);(case a1_NoText=>k_is)
  (case a2_NoText=>k_is);(case a3_NoText=>k_is);(case a4_NoText=>k_is);(case a5_NoText=>k_is)
  (case av_NoText=>kit_is);(case ae_NoName=>k_exc);(case ak_NoName=>kts_isx);(case a1_NoName=>k_is)
  (case a2_NoName=>k_is);(case a3_NoName=>k_is);(case a4_NoName=>k_is);(case a5_NoName=>k_is)
  (case av_NoName=>kit_is);(case ak_NoPiece=>kts_isx);(case a1_NoPiece=>k_is);(case a2_NoPiece=>k_is)
  (case a3_NoPiece=>k_is);(case a4_NoPiece=>k_is);(case a5_NoPiece=>k_is);(case av_NoPiece=>kit_is)
  (case ai_NoShape_HoleError=>kit_is);(case ai_NoShape_NoShape=>kit_is);(case as_NoShape_NoShape=>k_is);(case ai_NoShape_NoText=>kit_is)
  (case as_NoShape_NoText=>k_is);(case ai_NoShape_NoName=>kit_is);(case as_NoShape_NoName=>k_is);(case ai_NoShape_NoPiece=>kit_is)
  (case ai_NoText_HoleError=>kit_is);(case ai_NoText_NoShape=>kit_is);(case ai_NoText_NoText=>kit_is);(case as_NoText_NoText=>k_is)
  (case ai_NoText_NoName=>kit_is);(case ai_NoText_NoPiece=>kit_is);(case ai_NoName_HoleError=>kit_is);(case ai_NoName_NoShape=>kit_is)
  (case ai_NoName_NoText=>kit_is);(case as_NoName_NoText=>k_is);(case ai_NoName_NoName=>kit_is);(case as_NoName_NoName=>k_is)
  (case ai_NoName_NoPiece=>kit_is);(case ai_NoPiece_HoleError=>kit_is);(case ai_NoPiece_NoShape=>kit_is);(case as_NoPiece_NoShape=>k_is)
  (case ai_NoPiece_NoText=>kit_is);(case as_NoPiece_NoText=>k_is);(case ai_NoPiece_NoName=>kit_is);(case as_NoPiece_NoName=>k_is)
  (case ai_NoPiece_NoPiece=>kit_is);(case as_NoPiece_NoPiece=>k_is);(case b1_HoleError=>first | k_is | k_qdec | kernel_rfl | decide +kernel);(case b2_HoleError=>first | k_is | k_qdec | kernel_rfl | decide +kernel)
  (case b3_HoleError=>first | k_is | k_qdec | kernel_rfl | decide +kernel);(case na_NoPiece_place=>k_is);(case lc_FACE_COUNTS=>k_is);(case aq_MOST_PIECES=>k_is)
  (case aq_LONGEST_NAME=>k_is);(case z_isinstance=>k_is);(case z_int=>k_is);(case z_bool=>k_is)
  (case z_max=>k_is);(case z_len=>k_is);(case z_all=>k_is);(case z_tuple=>k_is)
  (case z_range=>k_is);(case z_list=>k_is);(case z_enumerate=>k_is);(case z_str=>k_is)
  (case z_ValueError=>k_is)