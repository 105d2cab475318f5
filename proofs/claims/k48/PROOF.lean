import PyProof.Rows.All
import Wide.All
import OpenK.AllK
import Wide.FinOn
import Lean
import PyProof.EqAt
import PyProof.EqKinds
import PyProof.TupleCall
import PySem.Challenge.RW_holebook_k48_what_cannot_be_glued
set_option linter.all false
set_option Elab.async false
set_option maxRecDepth 100000
set_option maxHeartbeats 4000000
noncomputable section
namespace L2
open PySem PySem.Spec PyProof.Rows
abbrev Key:=Sum Int Str
def Uq:Key->Value->Bool
 | .inl k,v=>Value.isInt k v
 | .inr x,v=>Value.isStrOf x v
def keyH (w:World):Key->Int
 | .inl k=>hashInt k
 | .inr x=>hashStr w x
theorem Bu:∀{k:Key}{v:Value},Uq k v=true->(∃ i t,k=Sum.inl i/\v=Value.int i t)\/(∃ x t,k=Sum.inr x/\v=Value.str x t)
 | .inl i,v,h=>by
   obtain⟨t,e⟩:=Value.isInt_shape (k:=i) (v:=v) h
   exact .inl ⟨i,t,rfl,e⟩
 | .inr x,v,h=>by
   obtain⟨t,e⟩:=Value.isStrOf_shape (x:=x) (v:=v) h
   exact .inr ⟨x,t,rfl,e⟩
theorem V4 (i:Int) (t:Tok):Uq (.inl i) (.int i t)=true:=by simp [Uq,Value.isInt]
theorem V3 (x:Str) (t:Tok):Uq (.inr x) (.str x t)=true:=by simp [Uq,Value.isStrOf]
theorem o0 (a b:Int):decide ((Sum.inl a:Key)=Sum.inl b)=(a==b):=by
 by_cases e:a=b
 . subst e;simp
 . have h:¬(Sum.inl a:Key)=Sum.inl b:=fun q=>e (Sum.inl.inj q)
   rw [decide_eq_false h]
   exact (beq_eq_false_iff_ne.mpr e).symm
theorem m9 (a b:Str):decide ((Sum.inr a:Key)=Sum.inr b)=decide (a=b):=by
 by_cases e:a=b
 . subst e;simp
 . have h:¬(Sum.inr a:Key)=Sum.inr b:=fun q=>e (Sum.inr.inj q)
   rw [decide_eq_false h,decide_eq_false e]
theorem n6 (a:Int) (b:Str):decide ((Sum.inl a:Key)=Sum.inr b)=false:=decide_eq_false (fun q=>nomatch q)
theorem n0 (a:Str) (b:Int):decide ((Sum.inr a:Key)=Sum.inl b)=false:=decide_eq_false (fun q=>nomatch q)
def mixKind (prog:Program) (w:World):PySem.KeyKind prog w Key where
 is:=Uq
 hash:=keyH w
 inj:=fun v a b ha hb=>by
  rcases Bu ha with ⟨i,t,rfl,rfl⟩|⟨x,t,rfl,rfl⟩
  . rcases Bu hb with ⟨j,u,rfl,e⟩|⟨y,u,rfl,e⟩
    . injection e with e1 _;rw [e1]
    . exact nomatch e
  . rcases Bu hb with ⟨j,u,rfl,e⟩|⟨y,u,rfl,e⟩
    . exact nomatch e
    . injection e with e1 _;rw [e1]
 byValue:=fun k v h=>by
  rcases Bu h with ⟨i,t,rfl,rfl⟩|⟨x,t,rfl,rfl⟩<;>rfl
 pyHash:=fun hv h=>by
  rcases Bu hv with ⟨i,t,rfl,rfl⟩|⟨x,t,rfl,rfl⟩
  . exact wpAny_pyHash_int h
  . exact wpAny_pyHash_str h
 eqBool:=fun hu hv h=>by
  rcases Bu hu with ⟨i,t,rfl,rfl⟩|⟨x,t,rfl,rfl⟩
  . rcases Bu hv with ⟨j,u,rfl,rfl⟩|⟨y,u,rfl,rfl⟩
    . rw [o0] at h;exact wpAny_eqBool_int h
    . rw [n6] at h;exact SeqAt.EqAt.int_str i t y u _ _ _ _ h
  . rcases Bu hv with ⟨j,u,rfl,rfl⟩|⟨y,u,rfl,rfl⟩
    . rw [n0] at h;exact SeqAt.EqAt.str_int x t j u _ _ _ _ h
    . rw [m9] at h;exact wpAny_eqBool_str h
 «strs»:=fun k x t v h=>by
  rcases Bu h with ⟨i,u,rfl,e⟩|⟨y,u,rfl,e⟩
  . exact nomatch e
  . injection e with e1 _
    subst e1
    cases v<;>rfl
theorem Sv (prog:Program) (w:World) (i:Int) (t:Tok):(mixKind prog w).is (.inl i) (.int i t)=true:=V4 i t
theorem Su (prog:Program) (w:World) (x:Str) (t:Tok):(mixKind prog w).is (.inr x) (.str x t)=true:=V3 x t
end L2
namespace L2
open PySem PySem.Spec PyProof.Rows
inductive V where
 | non | bl (b:Bool) | int (i:Int) | str (x:Str) | byt (b:Array UInt8) | flt (b:UInt64) | ref (a:Addr) | ty (n:String)
 deriving DecidableEq
def RelV:V->Value->Prop
 | .non,u=>u=Value.none
 | .bl b,u=>u=Value.bool b
 | .int i,u=>∃ t,u=Value.int i t
 | .str x,u=>∃ t,u=Value.str x t
 | .byt b,u=>∃ t,u=Value.bytes b t
 | .flt b,u=>∃ t,u=Value.float b t
 | .ref a,u=>u=Value.ref a
 | .ty n,u=>u=Value.type n
abbrev Vals:List V->List Value->Prop:=Paired RelV
theorem Vals.length {xs:List V}{us:List Value} (r:Vals xs us):xs.length=us.length:=Paired.length r
theorem Vals.get:∀{xs:List V}{us:List Value}{i:Nat}{x:V},Vals xs us->xs[i]?=some x->∃ u,us[i]?=some u/\RelV x u
 | _,_,_,_,.nil,e=>by simp at e
 | _,_,0,_,.cons r _,e=>by simp at e;subst e;exact ⟨_,rfl,r⟩
 | _,_,i+1,x,.cons _ t,e=>by
   obtain⟨u,h1,h2⟩:=Vals.get (i:=i) (x:=x) t (by simpa using e)
   exact ⟨u,by simpa using h1,h2⟩
theorem Vals.append:∀{xs ys:List V}{us ws:List Value},Vals xs us->Vals ys ws->Vals (xs++ys) (us++ws)
 | _,_,_,_,.nil,s=>s
 | _,_,_,_,.cons r t,s=>.cons r (Vals.append t s)
theorem Vals.take:∀{xs:List V}{us:List Value} (n:Nat),Vals xs us->Vals (xs.take n) (us.take n)
 | _,_,0,_=>.nil
 | _,_,_+1,.nil=>.nil
 | _,_,n+1,.cons r t=>.cons r (Vals.take n t)
theorem Vals.drop:∀{xs:List V}{us:List Value} (n:Nat),Vals xs us->Vals (xs.drop n) (us.drop n)
 | _,_,0,r=>r
 | _,_,_+1,.nil=>.nil
 | _,_,n+1,.cons _ t=>Vals.drop n t
def RelO:Option V->Option Value->Prop
 | some v,some u=>RelV v u
 | none,none=>True
 | _,_=>False
def KV {κ:Type}:List (κ × V)->List (κ × Value)->Prop:=Paired fun (p:κ × V) (q:κ × Value)=>p.1=q.1/\RelV p.2 q.2
def kV:Key->V
 | .inl i=>.int i
 | .inr x=>.str x
inductive HO where
 | lst (xs:List V)
 | tup (xs:List V)
 | dK (Aw:List (Key × V)) | dT (Aw:List (List Key × V))
 | set (S:Int->Bool) (n:Nat)
 | ins (C dx:Addr) (fs:List (Str × V))
 | own (x:Addr)
 | xd (fs:List (Str × V))
 | met (f x:Addr)
 | rng (lo hi:Int)
 | frz (o:Obj) (u:HO)
 | tbl (ps:Array Value)
 | ext (φ:Heap->Prop)
abbrev Hp:=Addr->Option HO
def upd (H:Hp) (a:Addr) (o:HO):Hp:=fun b=>if b=a then some o else H b
theorem Ad {H:Hp}{a:Addr}{o:HO}:upd H a o a=some o:=by unfold upd;rw [if_pos rfl]
theorem A7 {H:Hp}{a b:Addr}{o:HO} (h:b≠a):upd H a o b=H b:=by unfold upd;rw [if_neg h]
theorem V0 {H:Hp}{a b:Addr}{o u:HO} (h:H a=some o) (h':H b=some u) (d:o≠u):a≠b:=by
 intro e;subst e;rw [h] at h';exact d (Option.some.inj h')
theorem Bm {H:Hp}{a b:Addr}{o:HO} (h:H a=some o) (h':H b=none):a≠b:=by
 intro e;subst e;rw [h] at h';cases h'
def Gc (h:Heap) (a:Addr) (items:Array Value):Prop:=∃ o,h.get? a=some o/\o.cls=.type "tuple"/\o.dict=none/\∃ n,o.data=.seq items n
theorem Gc.tup {h:Heap}{a:Addr}{items:Array Value} (x:Gc h a items):IsTup h a items:=let ⟨o,e,c,_,d⟩:=x;⟨o,e,c,d⟩
theorem Gc.lt {h:Heap}{a:Addr}{items:Array Value} (x:Gc h a items):a<h.objs.size:=x.tup.lt
theorem Gc.new (h:Heap) (items:Array Value):Gc (h.push { cls:=.type "tuple",data:=.seq items }) h.objs.size items:=⟨_,Heap.get?_push_size _ rfl,rfl,rfl,_,rfl⟩
section
variable (P:Program) (w:World)
def Dp (H:Hp) (h:Heap) (a:Addr):HO->Prop
 | .lst xs=>xs.length<=sizeLine/\∃ (its:List Value) (n:Nat),Vals xs its/\h.get? a=some { cls:=.type "list",data:=.seq its.toArray n }
 | .tup xs=>xs.length<=sizeLine/\∃ its:List Value,Vals xs its/\Gc h a its.toArray
 | .dK Aw=>Aw.length<=sizeLine/\(a==sysModules)=false/\∃ vs,KV Aw vs/\h.DictOf (mixKind P w) a vs
 | .dT Aw=>Aw.length<=sizeLine/\(a==sysModules)=false/\∃ xs:List (List Key × Addr × Value),
    Paired (fun (p:List Key × V) (q:List Key × Addr × Value)=>p.1=q.1/\H q.2.1=some (.tup (p.1.map kV))/\RelV p.2 q.2.2) Aw xs ∧
    ∃ o es ep,h.get? a=some o/\o.ExactDict/\o.data=.dict es ep/\es.toList=xs.map (entryOfKey (tupleKind (mixKind P w)))/\(xs.map (·.1)).Nodup
 | .set S n=>h.SetOf (intKind P w) a S n
 | .ins C dx fs=>H dx=some (.own a)/\fs.length<=1000/\dx≠a/\h.get? a=some (PySem.W.instObj C dx) ∧
    ∃ mA,h.Ns1 dx mA/\(∀ f,RelO (fs.lookup f) (mA f))/\PySem.Within mA (fs.map (·.1))
 | .own _=>∃ o,h.get? a=some o
 | .xd fs=>∃ mA,h.Ns1 a mA/\∀ f,RelO (fs.lookup f) (mA f)
 | .rng lo hi=>∃ t u v,h.get? a=some { cls:=.type "range",data:=.fields #[.int lo t,.int hi u,.int 1 v] }
 | .frz o u=>h.get? a=some o/\Dp H h a u
 | .tbl ps=>h.get? a=some { cls:=.none,data:=.fields ps }
 | .met f x=>h.get? a=some (PySem.W.methodObj (.ref f) (.ref x))
 | .ext φ=>φ h/\(∃ o,h.get? a=some o)/\∀ h1 h2:Heap,φ h1->(∀ o,h1.get? a=some o->h2.get? a=some o)->φ h2
def HOk (H:Hp) (h:Heap):Prop:=∀ a o,H a=some o->Dp P w H h a o
end
section
variable {P:Program}{w:World}{H H':Hp}{h h':Heap}{a:Addr}{o:HO}
theorem Dp.lt (x:Dp P w H h a o):a<h.objs.size:=by
 cases o with
 | lst xs=>obtain⟨_,_,_,_,e⟩:=x;exact Heap.lt_size e
 | tup xs=>obtain⟨_,_,_,p⟩:=x;exact p.lt
 | dK Aw=>obtain⟨_,_,_,_,o,_,_,e,_⟩:=x;exact Heap.lt_size e
 | dT Aw=>obtain⟨_,_,_,_,o,_,_,e,_⟩:=x;exact Heap.lt_size e
 | set S n=>obtain⟨o,_,_,_,e,_⟩:=x;exact Heap.lt_size e
 | ins C dx fs=>obtain⟨_,_,_,e,_⟩:=x;exact Heap.lt_size e
 | own y=>obtain⟨_,e⟩:=x;exact Heap.lt_size e
 | xd fs=>obtain⟨_,⟨_,_,_,e,_⟩,_⟩:=x;exact Heap.lt_size e
 | rng lo hi=>obtain⟨_,_,_,e⟩:=x;exact Heap.lt_size e
 | frz ob u=>obtain⟨e,_⟩:=x;exact Heap.lt_size e
 | tbl ps=>exact Heap.lt_size (show h.get? a=some _ from x)
 | met f y=>exact Heap.lt_size (show h.get? a=some _ from x)
 | ext φ=>obtain⟨_,⟨_,e⟩,_⟩:=x;exact Heap.lt_size e
theorem Paired.mapP {α β:Type}{F G:α->β->Prop}:∀{l₁:List α}{l₂:List β},Paired F l₁ l₂->(∀ a b,F a b->G a b)->Paired G l₁ l₂
 | _,_,.nil,_=>.nil
 | _,_,.cons r t,f=>.cons (f _ _ r) (Paired.mapP t f)
theorem Dp.stay (x:Dp P w H h a o) (k:∀ b u,(b=a\/H b=some (.own a))->h.get? b=some u->h'.get? b=some u)
 (ho:∀ b,H b=some (.own a)->H' b=some (.own a)) (ht:∀ b xs,H b=some (.tup xs)->H' b=some (.tup xs)):Dp P w H' h' a o:=by
 induction o with
 | lst xs=>obtain⟨z,its,n,r,e⟩:=x;exact ⟨z,its,n,r,k _ _ (.inl rfl) e⟩
 | tup xs=>obtain⟨z,its,r,ob,e,c⟩:=x;exact ⟨z,its,r,ob,k _ _ (.inl rfl) e,c⟩
 | dK Aw=>obtain⟨z,y,vs,r,ob,es,ep,e,c⟩:=x;exact ⟨z,y,vs,r,ob,es,ep,k _ _ (.inl rfl) e,c⟩
 | dT Aw =>
   obtain⟨z,y,xs,r,ob,es,ep,e,c⟩:=x
   exact ⟨z,y,xs,Paired.mapP r fun p q z=>⟨z.1,ht _ _ z.2.1,z.2.2⟩,ob,es,ep,k _ _ (.inl rfl) e,c⟩
 | set S n=>obtain⟨ob,es,ep,t,e,c⟩:=x;exact ⟨ob,es,ep,t,k _ _ (.inl rfl) e,c⟩
 | ins C dx fs =>
   obtain⟨d,z,ne,e,mA,⟨od,es,ep,e2,c⟩,r⟩:=x
   exact ⟨ho _ d,z,ne,k _ _ (.inl rfl) e,mA,⟨od,es,ep,k _ _ (.inr d) e2,c⟩,r⟩
 | own y=>obtain⟨ob,e⟩:=x;exact ⟨ob,k _ _ (.inl rfl) e⟩
 | xd fs=>obtain⟨mA,⟨od,es,ep,e,c⟩,r⟩:=x;exact ⟨mA,⟨od,es,ep,k _ _ (.inl rfl) e,c⟩,r⟩
 | rng lo hi=>obtain⟨t,u,v,e⟩:=x;exact ⟨t,u,v,k _ _ (.inl rfl) e⟩
 | frz ob u ih=>obtain⟨e,q⟩:=x;exact ⟨k _ _ (.inl rfl) e,ih q⟩
 | tbl ps =>
   have e:h.get? a=some { cls:=.none,data:=.fields ps }:=x
   show h'.get? a=some { cls:=.none,data:=.fields ps }
   exact k a _ (.inl rfl) e
 | met f y =>
   have e:h.get? a=some (PySem.W.methodObj (.ref f) (.ref y)):=x
   show h'.get? a=some (PySem.W.methodObj (.ref f) (.ref y))
   exact k a _ (.inl rfl) e
 | ext φ=>obtain⟨p,⟨o,e⟩,st⟩:=x;exact ⟨st _ _ p fun o q=>k _ _ (.inl rfl) q,⟨o,k _ _ (.inl rfl) e⟩,st⟩
theorem HOk.lt (x:HOk P w H h) (e:H a=some o):a<h.objs.size:=(x a o e).lt
theorem HOk.fresh (x:HOk P w H h) (e:h.objs.size<=a):H a=none:=by
 cases q:H a with
 | none=>rfl
 | some u=>exact absurd (Nat.lt_of_lt_of_le (x.lt q) e) (Nat.lt_irrefl _)
theorem HOk.kept (x:HOk P w H h) (k:∀ b u,h.get? b=some u->h'.get? b=some u):HOk P w H h':=fun a o e =>
 (x a o e).stay (fun b u _ q=>k b u q) (fun _ q=>q) fun _ _ q=>q
theorem HOk.laid (x:HOk P w H h) (k:∀ b u,h.get? b=some u->h'.get? b=some u) (hp:h.objs.size<=a) (new:Dp P w (upd H a o) h' a o):HOk P w (upd H a o) h':=fun b u e=>by
 have hn:=x.fresh hp
 by_cases hb:b=a
 . subst hb;rw [Ad] at e;cases e;exact new
 . rw [A7 hb] at e
   exact (x b u e).stay (fun c v _ q=>k c v q) (fun c q=>by rw [A7 (Bm q hn)];exact q) fun c xs q=>by rw [A7 (Bm q hn)];exact q
end
def Rd (H:Hp) (a:Addr) (u:HO):Prop:=H a=some u\/∃ o,H a=some (.frz o u)
theorem Rd.ok {P:Program}{w:World}{H:Hp}{h:Heap}{a:Addr}{u:HO} (r:Rd H a u) (x:HOk P w H h):Dp P w H h a u:=by
 rcases r with r|⟨o,r⟩
 . exact x a u r
 . obtain⟨_,q⟩:=x a _ r
   exact q
def Mut:Option HO->Prop
 | some (.lst _)=>True
 | some (.dK _)=>True
 | some (.dT _)=>True
 | some (.set _ _)=>True
 | some (.ins _ _ _)=>True
 | some (.ext _)=>True
 | _=>False
section
variable {P:Program}{w:World}{H:Hp}{h h':Heap}{x e:Addr}{o':HO}
theorem HOk.write (ok:HOk P w H h) (mu:Mut (H x)) (he:e=x\/H e=some (.own x)) (k:∀ b u,b≠e->h.get? b=some u->h'.get? b=some u) (heo:∃ u,h'.get? e=some u)
 (new:Dp P w (upd H x o') h' x o'):HOk P w (upd H x o') h':=fun b u q=>by
 have nown:∀ c y,H c=some (.own y)->c≠x:=fun c y r z=>by subst z;rw [r] at mu;exact mu
 have ntup:∀ c xs,H c=some (.tup xs)->c≠x:=fun c xs r z=>by subst z;rw [r] at mu;exact mu
 by_cases hb:b=x
 . subst hb;rw [Ad] at q;cases q;exact new
 . rw [A7 hb] at q
   by_cases hbe:b=e
   . have q':H b=some (.own x):=by
      rcases he with z | z
      . exact absurd (hbe.trans z) hb
      . rw [hbe];exact z
     rw [q] at q';cases q'
     obtain⟨v,hv⟩:=heo
     exact ⟨v,by rw [hbe];exact hv⟩
   . refine (ok b u q).stay (fun c v hc r=>k c v ?_ r) (fun c r=>by rw [A7 (nown c b r)];exact r) fun c xs r=>by rw [A7 (ntup c xs r)];exact r
     rcases hc with rfl | hc
     . exact hbe
     . rintro rfl
       rcases he with z | z
       . exact nown c b hc z
       . rw [hc] at z;cases z;exact hb rfl
end
structure Un (fs ex:List Addr) (H H':Hp) (h h':Heap):Prop where
 keep:∀ b o,h.get? b=some o->H b=none->b ∉ fs->b ∉ ex->h'.get? b=some o
 slot:∀ b o,h.get? b=some o->H b=none->b∈fs->b ∉ ex->∃ sl,h'.get? b=some { o with slots:=sl }
 free:∀ b o,h.get? b=some o->H b=none->b ∉ ex->H' b=none
 there:∀ b o,h.get? b=some o->b ∉ ex->∃ o',h'.get? b=some o'
 tups:∀ b xs,H b=some (.tup xs)->H' b=some (.tup xs)
 frzs:∀ b o u,H b=some (.frz o u)->H' b=some (.frz o u)
 tbls:∀ b ps,H b=some (.tbl ps)->∃ more,H' b=some (.tbl (ps++more))
section
variable {fs fs' ex ex':List Addr}{H H1 H2:Hp}{h h1 h2 h':Heap}{a x e:Addr}{o:HO}
theorem Un.any (u:Un fs ex H H1 h h1) {b:Addr}{ob:Obj} (q:h.get? b=some ob) (n:H b=none) (hx:b ∉ ex):∃ sl,h1.get? b=some { ob with slots:=sl }:=by
 by_cases hb:b∈fs
 . exact u.slot b ob q n hb hx
 . exact ⟨ob.slots,u.keep b ob q n hb hx⟩
theorem Un.kept (k:∀ b u,h.get? b=some u->h'.get? b=some u):Un fs ex H H h h' :=
 ⟨fun b ob q _ _ _=>k b ob q,fun b ob q _ _ _=>⟨ob.slots,k b ob q⟩,fun _ _ _ n _=>n,fun b ob q _=>⟨ob,k b ob q⟩,fun _ _ q=>q,fun _ _ _ q=>q,fun _ ps q=>⟨#[],by rw [q];simp⟩⟩
theorem Un.refl:Un fs ex H H h h:=Un.kept fun _ _ q=>q
theorem Un.laid (k:∀ b u,h.get? b=some u->h'.get? b=some u) (hp:h.objs.size<=a) (hn:H a=none):Un fs ex H (upd H a o) h h' where
 keep:=fun b u q _ _ _=>k b u q
 slot:=fun b u q _ _ _=>⟨u.slots,k b u q⟩
 free:=fun b u q n _=>by rw [A7 (Nat.ne_of_lt (Nat.lt_of_lt_of_le (Heap.lt_size q) hp))];exact n
 there:=fun b u q _=>⟨u,k b u q⟩
 tups:=fun b xs q=>by rw [A7 (Bm q hn)];exact q
 frzs:=fun b u xs q=>by rw [A7 (Bm q hn)];exact q
 tbls:=fun b ps q=>⟨#[],by rw [A7 (Bm q hn),q];simp⟩
theorem Un.write (mu:Mut (H x)) (he:e=x\/H e=some (.own x)) (k:∀ b u,b≠e->h.get? b=some u->h'.get? b=some u) (heo:∃ u,h'.get? e=some u):Un fs ex H (upd H x o) h h':=by
 have hx:∀ b,H b=none->b≠x:=fun b n z=>by subst z;rw [n] at mu;exact mu
 have hb:∀ b,H b=none->b≠e:=fun b n z=>by
  subst z
  rcases he with r | r
  . exact hx b n r
  . rw [n] at r;cases r
 have hm:∀ b u,H b=some u->¬Mut (some u)->b≠x:=fun b u q nm z=>by subst z;rw [q] at mu;exact nm mu
 refine⟨fun b u q n _ _=>k b u (hb b n) q,fun b u q n _ _=>⟨u.slots,k b u (hb b n) q⟩,fun b u q n _=>by rw [A7 (hx b n)];exact n,fun b u q _=>?_,
  fun b xs q=>by rw [A7 (hm b _ q fun z=>z)];exact q,fun b u xs q=>by rw [A7 (hm b _ q fun z=>z)];exact q,fun b ps q=>⟨#[],by rw [A7 (hm b _ q fun z=>z),q];simp⟩⟩
 by_cases hbe:b=e
 . subst hbe;exact heo
 . exact ⟨u,k b u hbe q⟩
end
def trk (h:Heap) (H:Hp):List Addr:=(List.range h.objs.size).filter fun a=>(H a).isSome
def hidT (h:Heap) (H:Hp):Heap:=PySem.W.hideAll h (trk h H)
theorem V8 (h:Heap) (H:Hp):(hidT h H).objs.size=h.objs.size:=PySem.W.hideAll_size _ _
theorem X8 {h:Heap}{H:Hp}{b:Addr}{o:Obj} (e:h.get? b=some o) (n:H b=none):(hidT h H).get? b=some o :=
 PySem.W.hideAll_get _ e fun hm=>by
  have q:(H b).isSome=true:=(List.mem_filter.mp hm).2
  rw [n] at q;simp at q
theorem Zp {h:Heap}{H:Hp}{b:Addr}{o:Obj} (e:(hidT h H).get? b=some o):h.get? b=some o/\H b=none:=by
 have e':h.get? b=some o:=PySem.W.of_hideAll (trk h H) e
 refine⟨e',?_⟩
 cases q:H b with
 | none=>rfl
 | some x =>
   have hm:b∈trk h H:=List.mem_filter.mpr ⟨List.mem_range.mpr (Heap.lt_size e'),by simp [q]⟩
   have z:(hidT h H).get? b=none:=PySem.W.hideAll_none (trk h H) hm
   rw [z] at e;cases e
def a8 (g h:Heap) (L:Addr):List (Addr × Obj):=(List.range h.objs.size).filterMap fun a=>if a=L\/(g.get? a).isSome=true then none else (h.get? a).map fun o=>(a,o)
def rest (g h:Heap) (L d:Addr):List (Addr × Obj):=(a8 g h L).filter fun p=>decide (p.1≠d)
end L2
namespace L2
open PySem PySem.Spec PyProof.Rows
structure Mod (K:W.Frag) (mg:Str->Option Value) (base:Heap):Prop where
 kin:K.In base
 glob:base.Ns mainGlobals mg
 blt:∃ mb,base.Ns builtinsNs mb/\∀ x:Str,x≠"__name__"->mb x=bootBuiltins x
 nolimit:base.NoLimit
structure Cx where
 prog:Program
 w:World
 K:PySem.W.Frag
 mg:Str->Option Value
 base:Heap
 A:Around
 N:List Str
 s₀:Shared
 H₀:Hp
 env:Env
 outer:List Env
 stack:List Env
 ex:List Addr
 fn:Str->Bool
 calm:Bool
 pn:List (Addr × Obj)
 xe:Value->Shared->Prop
def frs (l:List Env):List Addr:=l.filterMap (·.frame)
abbrev Cx.fs (X:Cx):List Addr:=frs X.outer
def Vis (sc:Scope) (x:Str):Prop:=sc.names.lookup x=some .local\/sc.names.lookup x=some .cell\/sc.names.lookup x=some .free
def Loc (sc:Scope) (x:Str):Prop:=sc.names.lookup x=some .local\/sc.names.lookup x=some .cell
def Look (env:Env) (h:Heap) (m:Str->Option Value) (x:Str) (u:Value):Prop :=
 (env.kindOf x=some .local/\m x=some u)\/((env.kindOf x=some .cell\/env.kindOf x=some .free)/\∃ c,env.cells.lookup x=some c/\h.IsCell c (some u))
structure Cx.Ok (X:Cx):Prop where
 mod:Mod X.K X.mg X.base
 kind:X.env.scope.kind=.function
 glob:X.env.globals=mainGlobals
 blt:X.env.builtins=builtinsNs
 above:X.s₀.heap.objs.size<=X.env.locals
 inj:∀ x y c,X.env.cells.lookup x=some c->X.env.cells.lookup y=some c->x=y
 has:∀ x,(X.env.kindOf x=some .cell\/X.env.kindOf x=some .free)->∃ c,X.env.cells.lookup x=some c
 cab:∀ x c,X.fn x=true->X.env.cells.lookup x=some c->X.s₀.heap.objs.size<=c
 hd:X.calm=true->X.A.handled=none
 frames:X.A.frames=some X.stack
 stk:X.stack=X.outer\/(X.stack=X.env::X.outer/\X.env.frame=some X.env.locals)
 exf:∀ b∈X.ex,b≠X.env.locals/\∀ x c,X.env.cells.lookup x=some c->c≠b
 bs:∀ b o,X.base.get? b=some o->X.s₀.heap.get? b=some o/\X.H₀ b=none
 bsz:X.base.objs.size<=X.s₀.heap.objs.size
 noex:∀ b o,X.base.get? b=some o->b ∉ X.ex
 exfs:∀ b∈X.ex,b ∉ X.fs
 funs:X.s₀.heap.FunFrames X.base X.outer
 frf:∀ b∈X.fs,X.H₀ b=none
structure Inv (X:Cx) (Ab:List (Addr × Obj)) (σ:List (Option V)) (H:Hp) (s:Shared):Prop where
 ok:X.Ok
 os:s.os=X.s₀.os
 bare:AllBare s.gens
 base:Un X.fs X.ex X.H₀ H X.s₀.heap s.heap
 loc:∃ m,s.heap.Ns X.env.locals m/\∀ (i:Nat) (x:Str) (v:V),X.N[i]?=some x->σ[i]?=some (some v)->Vis X.env.scope x->∃ u,RelV v u/\Look X.env s.heap m x u
 cell:∀ x c,X.env.cells.lookup x=some c->∃ v,s.heap.IsCell c v
 free:H X.env.locals=none
 freeC:∀ x c,X.env.cells.lookup x=some c->H c=none
 pin:∀ p∈X.pn++Ab,s.heap.get? p.1=some p.2/\H p.1=none/\p.1≠X.env.locals/\p.1 ∉ X.fs/\∀ v,p.2.data≠.cell v
 hok:HOk X.prog X.w H s.heap
 len:σ.length=X.N.length
section
variable {X:Cx}{Ab:List (Addr × Obj)}{σ:List (Option V)}{H H':Hp}{s:Shared}{h':Heap}
theorem Cx.Ok.nofr (ok:X.Ok) {b:Addr}{o:Obj} (e:X.base.get? b=some o):b ∉ X.fs:=fun hb=>by
 have:=(ok.funs.mem hb).1
 rw [e] at this;cases this
theorem Inv.bs (I:Inv X Ab σ H s):∀ b o,X.base.get? b=some o->s.heap.get? b=some o/\H b=none:=fun b o e =>
 ⟨I.base.keep b o (I.ok.bs b o e).1 (I.ok.bs b o e).2 (I.ok.nofr e) (I.ok.noex b o e),I.base.free b o (I.ok.bs b o e).1 (I.ok.bs b o e).2 (I.ok.noex b o e)⟩
theorem Inv.bk (I:Inv X Ab σ H s):∀ b o,X.base.get? b=some o->s.heap.get? b=some o:=fun b o e=>(I.bs b o e).1
theorem Inv.mod (I:Inv X Ab σ H s):Mod X.K X.mg X.base:=I.ok.mod
theorem Inv.kIn (I:Inv X Ab σ H s):X.K.In s.heap:=I.ok.mod.kin.keeps I.bk
theorem Inv.lt (I:Inv X Ab σ H s):X.env.locals<s.heap.objs.size:=let ⟨_,hn,_⟩:=I.loc;hn.lt
theorem Inv.sz (I:Inv X Ab σ H s):X.s₀.heap.objs.size<=s.heap.objs.size:=Nat.le_trans I.ok.above (Nat.le_of_lt I.lt)
theorem Inv.nofs (I:Inv X Ab σ H s) {a:Addr} (h:s.heap.objs.size<=a):a ∉ X.fs:=fun hb=>by
 obtain⟨_,o,ho,_⟩:=I.ok.funs.mem hb
 exact absurd (Nat.lt_of_lt_of_le (Heap.lt_size ho) (Nat.le_trans I.sz h)) (Nat.lt_irrefl _)
theorem Inv.cne (I:Inv X Ab σ H s):∀ x c,X.env.cells.lookup x=some c->c≠X.env.locals:=fun x c e z=>by
 obtain⟨v,o,ho,hd⟩:=I.cell x c e
 obtain⟨m,⟨o',es,ep,ho',hd',_⟩,_⟩:=I.loc
 rw [z,ho'] at ho;cases ho;rw [hd'] at hd;cases hd
theorem Inv.funs (I:Inv X Ab σ H s):s.heap.FunFrames X.base X.outer:=by
 have all:∀ (l:List Env),(∀ b∈frs l,b∈X.fs)->X.s₀.heap.FunFrames X.base l->s.heap.FunFrames X.base l:=by
  intro l
  induction l with
  | nil=>intro _ _;trivial
  | cons env r ih =>
    intro hs hl
    obtain⟨hk,⟨L,o,hf,hn,ho,hd⟩,hr⟩:=hl
    have hL:L∈X.fs:=hs L (by unfold frs;rw [List.filterMap_cons,hf];exact List.mem_cons_self)
    obtain⟨sl,e⟩:=I.base.slot L o ho (I.ok.frf L hL) hL fun z=>I.ok.exfs L z hL
    exact ⟨hk,⟨L,_,hf,hn,e,hd⟩,ih (fun b hb=>hs b (by unfold frs;rw [List.filterMap_cons,hf];exact List.mem_cons_of_mem _ hb)) hr⟩
 exact all X.outer (fun _ hb=>hb) I.ok.funs
theorem Inv.stack (I:Inv X Ab σ H s):s.heap.FunFrames X.base X.stack:=by
 rcases I.ok.stk with e|⟨e,hf⟩
 . rw [e];exact I.funs
 . rw [e]
   obtain⟨m,hn,_⟩:=I.loc
   refine .cons (by rw [I.ok.kind];decide) hf hn ?_ I.funs
   exact Heap.get?_none_of_le (Nat.le_trans I.ok.bsz I.ok.above)
theorem Inv.stkSub (I:Inv X Ab σ H s):∀ b∈frs X.stack,b∈X.env.locals::X.fs:=fun b hb=>by
 rcases I.ok.stk with e|⟨e,hf⟩
 . rw [e] at hb;exact List.mem_cons_of_mem _ hb
 . rw [e] at hb
   unfold frs at hb
   rw [List.filterMap_cons,hf] at hb
   exact hb
theorem Inv.stkFree (I:Inv X Ab σ H s):∀ b∈frs X.stack,H b=none:=fun b hb=>by
 rcases List.mem_cons.mp (I.stkSub b hb) with e | hb
 . rw [e];exact I.free
 . obtain⟨_,o,ho,_⟩:=I.ok.funs.mem hb
   exact I.base.free b o ho (I.ok.frf b hb) fun z=>I.ok.exfs b z hb
theorem Inv.step {g':Array GenState}{t':Nat}{d':Drawn}{ch:List Addr} (I:Inv X Ab σ H s)
 (hch:∀ b∈ch,(b∈X.ex\/X.s₀.heap.objs.size<=b)/\b≠X.env.locals/\(∀ x c,X.env.cells.lookup x=some c->c≠b)/\∀ p∈X.pn++Ab,p.1≠b)
 (keep:∀ b o,b≠X.env.locals->b ∉ X.fs->b ∉ ch->s.heap.get? b=some o->H b=none->h'.get? b=some o)
 (slot:∀ b o,b≠X.env.locals->b∈X.fs->b ∉ ch->s.heap.get? b=some o->H b=none->∃ sl,h'.get? b=some { o with slots:=sl }) (free:∀ b o,b ∉ ch->s.heap.get? b=some o->H b=none->H' b=none)
 (there:∀ b o,b ∉ ch->s.heap.get? b=some o->∃ o',h'.get? b=some o')
 (tups:∀ b xs,H b=some (.tup xs)->H' b=some (.tup xs)) (frzs:∀ b o u,H b=some (.frz o u)->H' b=some (.frz o u)) (tbls:∀ b ps,H b=some (.tbl ps)->∃ more,H' b=some (.tbl (ps++more)))
 (ns:∀ m,s.heap.Ns X.env.locals m->h'.Ns X.env.locals m) (hok:HOk X.prog X.w H' h') (hg:AllBare g') :
 Inv X Ab σ H' { s with heap:=h',gens:=g',drawn:=d',toks:=t' }:=by
 have neL:∀ b o,X.s₀.heap.get? b=some o->b≠X.env.locals:=fun b o e=>Nat.ne_of_lt (Nat.lt_of_lt_of_le (Heap.lt_size e) I.ok.above)
 have neC:∀ b o,X.s₀.heap.get? b=some o->b ∉ X.ex->b ∉ ch:=fun b o e hx hb=>by
  rcases (hch b hb).1 with z | z
  . exact hx z
  . exact absurd (Nat.lt_of_lt_of_le (Heap.lt_size e) z) (Nat.lt_irrefl _)
 have cellK:∀ x c,X.env.cells.lookup x=some c->∀ v,s.heap.IsCell c v->h'.IsCell c v:=fun x c e v ⟨o,ho,hd⟩=>by
  have nch:c ∉ ch:=fun z=>(hch c z).2.2.1 x c e rfl
  by_cases hc:c∈X.fs
  . obtain⟨sl,q⟩:=slot c o (I.cne x c e) hc nch ho (I.freeC x c e)
    exact ⟨_,q,hd⟩
  . exact ⟨o,keep c o (I.cne x c e) hc nch ho (I.freeC x c e),hd⟩
 refine⟨I.ok,I.os,hg,⟨fun b o e n hb hx=>?_,fun b o e n hb hx=>?_,fun b o e n hx=>?_,fun b o e hx=>?_,fun b xs e=>tups b xs (I.base.tups b xs e),fun b o xs e=>frzs b o xs (I.base.frzs b o xs e),fun b ps e=>?_⟩,?_,fun x c e=>?_,?_,fun x c e=>?_,fun p hp=>?_,hok,I.len⟩
 . exact keep b o (neL b o e) hb (neC b o e hx) (I.base.keep b o e n hb hx) (I.base.free b o e n hx)
 . obtain⟨sl,e1⟩:=I.base.slot b o e n hb hx
   obtain⟨sl',e2⟩:=slot b _ (neL b o e) hb (neC b o e hx) e1 (I.base.free b o e n hx)
   exact ⟨sl',e2⟩
 . obtain⟨o',e1⟩:=I.base.there b o e hx
   exact free b o' (neC b o e hx) e1 (I.base.free b o e n hx)
 . obtain⟨o',e1⟩:=I.base.there b o e hx
   exact there b o' (neC b o e hx) e1
 . obtain⟨m1,e1⟩:=I.base.tbls b ps e
   obtain⟨m2,e2⟩:=tbls b _ e1
   exact ⟨m1++m2,by rw [e2,Array.append_assoc]⟩
 . obtain⟨m,hn,hl⟩:=I.loc
   refine⟨m,ns m hn,fun i x v e1 e2 e3=>?_⟩
   obtain⟨u,r,l⟩:=hl i x v e1 e2 e3
   refine⟨u,r,?_⟩
   rcases l with l|⟨k,c,e,z⟩
   . exact .inl l
   . exact .inr ⟨k,c,e,cellK x c e _ z⟩
 . obtain⟨v,z⟩:=I.cell x c e
   exact ⟨v,cellK x c e v z⟩
 . obtain⟨m,⟨o,_,_,ho,_⟩,_⟩:=I.loc
   exact free _ o (fun z=>(hch _ z).2.1 rfl) ho I.free
 . obtain⟨v,o,ho,hd⟩:=I.cell x c e
   exact free c o (fun z=>(hch c z).2.2.1 x c e rfl) ho (I.freeC x c e)
 . obtain⟨e,n,ne,nf,d⟩:=I.pin p hp
   have nch:p.1 ∉ ch:=fun z=>(hch p.1 z).2.2.2 p hp rfl
   exact ⟨keep p.1 p.2 ne nf nch e n,free p.1 p.2 nch e n,ne,nf,d⟩
theorem Inv.un {t':Nat} (I:Inv X Ab σ H s) (u:Un X.fs [] H H' s.heap h') (hok:HOk X.prog X.w H' h'):Inv X Ab σ H' { s with heap:=h',toks:=t' }:=by
 obtain⟨m,⟨o,es,ep,ho,r⟩,_⟩:=id I.loc
 obtain⟨sl,hL⟩:=u.any ho I.free (by simp)
 exact I.step (g':=s.gens) (d':=s.drawn) (ch:=[]) (fun _ z=>nomatch z) (fun b o _ hb _ e n=>u.keep b o e n hb (by simp)) (fun b o _ hb _ e n=>u.slot b o e n hb (by simp)) (fun b o _ e n=>u.free b o e n (by simp)) (fun b o _ e=>u.there b o e (by simp)) u.tups u.frzs u.tbls (fun m' hm=>by
  obtain⟨o',es',ep',ho',r'⟩:=hm
  rw [ho] at ho';cases ho'
  exact ⟨_,es',ep',hL,r'⟩) hok I.bare
theorem Inv.call {g':Array GenState}{t':Nat}{d':Drawn}{ch:List Addr} (I:Inv X Ab σ H s) (u:Un (frs X.stack) ch H H' s.heap h') (hok:HOk X.prog X.w H' h') (hg:AllBare g')
 (hch:∀ b∈ch,(b∈X.ex\/X.s₀.heap.objs.size<=b)/\b≠X.env.locals/\(∀ x c,X.env.cells.lookup x=some c->c≠b)/\∀ p∈X.pn++Ab,p.1≠b) :
 Inv X Ab σ H' { s with heap:=h',gens:=g',drawn:=d',toks:=t' }:=by
 obtain⟨m,⟨o,es,ep,ho,r⟩,_⟩:=id I.loc
 obtain⟨sl,hL⟩:=u.any ho I.free fun z=>(hch _ z).2.1 rfl
 exact I.step (ch:=ch) hch (fun b o hL hb hc e n=>u.keep b o e n (fun z=>(List.mem_cons.mp (I.stkSub b z)).elim hL hb) hc) (fun b o _ _ hc e n=>u.any e n hc) (fun b o hc e n=>u.free b o e n hc) (fun b o hc e=>u.there b o e hc) u.tups u.frzs u.tbls (fun m' hm=>by
  obtain⟨o',es',ep',ho',r'⟩:=hm
  rw [ho] at ho';cases ho'
  exact ⟨_,es',ep',hL,r'⟩) hok hg
theorem Inv.turned {t':Nat}{it:Addr} (I:Inv X Ab σ H s) (k:∀ b o,b≠it->s.heap.get? b=some o->h'.get? b=some o) (hn:H it=none) (hL:it≠X.env.locals)
 (h1:it∈X.ex\/X.s₀.heap.objs.size<=it) (h2:∀ x c,X.env.cells.lookup x=some c->c≠it) (h3:∀ p∈X.pn++Ab,p.1≠it):Inv X Ab σ H { s with heap:=h',toks:=t' }:=by
 have nit:∀ b u,H b=some u->b≠it:=fun b u e z=>by rw [z,hn] at e;cases e
 refine I.step (g':=s.gens) (d':=s.drawn) (ch:=[it]) (fun b hb=>?_) (fun b o _ _ hc e _=>k b o (fun z=>hc (by simp [z])) e) (fun b o _ _ hc e _=>⟨o.slots,k b o (fun z=>hc (by simp [z])) e⟩) (fun _ _ _ _ n=>n)
  (fun b o hc e=>⟨o,k b o (fun z=>hc (by simp [z])) e⟩) (fun _ _ e=>e) (fun _ _ _ e=>e) (fun b ps e=>⟨#[],by rw [e];simp⟩) (fun m hm=>?_) (fun b u e=>?_) I.bare
 . have e:b=it:=by simpa using hb
   subst e
   exact ⟨h1,hL,h2,h3⟩
 . obtain⟨o,es,ep,ho,r⟩:=hm
   exact ⟨o,es,ep,k _ o (Ne.symm hL) ho,r⟩
 . refine (I.hok b u e).stay (fun c v hc q=>k c v ?_ q) (fun _ q=>q) fun _ _ q=>q
   rcases hc with z | z
   . rw [z];exact nit b u e
   . exact nit c _ z
theorem Inv.tok (I:Inv X Ab σ H s) (t:Nat):Inv X Ab σ H { s with toks:=t }:=I.un (h':=s.heap) (t':=t) Un.refl I.hok
theorem Inv.kept {t':Nat} (I:Inv X Ab σ H s) (k:∀ b u,s.heap.get? b=some u->h'.get? b=some u):Inv X Ab σ H { s with heap:=h',toks:=t' }:=I.un (Un.kept k) (I.hok.kept k)
theorem Inv.laid {a:Addr}{o:HO}{t':Nat} (I:Inv X Ab σ H s) (k:∀ b u,s.heap.get? b=some u->h'.get? b=some u) (hp:s.heap.objs.size<=a) (new:Dp X.prog X.w (upd H a o) h' a o) :
 Inv X Ab σ (upd H a o) { s with heap:=h',toks:=t' }:=I.un (Un.laid k hp (I.hok.fresh hp)) (I.hok.laid k hp new)
theorem Inv.write {x e:Addr}{o:HO}{t':Nat} (I:Inv X Ab σ H s) (mu:Mut (H x)) (he:e=x\/H e=some (.own x)) (k:∀ b u,b≠e->s.heap.get? b=some u->h'.get? b=some u) (heo:∃ u,h'.get? e=some u)
 (new:Dp X.prog X.w (upd H x o) h' x o):Inv X Ab σ (upd H x o) { s with heap:=h',toks:=t' }:=I.un (Un.write mu he k heo) (I.hok.write mu he k heo new)
theorem Inv.pins_of {pins':List (Addr × Obj)} (I:Inv X Ab σ H s) (h:∀ p∈pins',s.heap.get? p.1=some p.2/\H p.1=none/\p.1≠X.env.locals/\p.1 ∉ X.fs/\∀ v,p.2.data≠.cell v):Inv X pins' σ H s :=
 ⟨I.ok,I.os,I.bare,I.base,I.loc,I.cell,I.free,I.freeC,fun p hp=>(List.mem_append.mp hp).elim (fun z=>I.pin p (List.mem_append_left _ z)) (h p),I.hok,I.len⟩
theorem N7 {N:List Str} (hN:N.Nodup) {i j:Nat}{x:Str} (a:N[i]?=some x) (b:N[j]?=some x):i=j:=by
 obtain⟨h1,e1⟩:=List.getElem?_eq_some_iff.mp a
 obtain⟨h2,e2⟩:=List.getElem?_eq_some_iff.mp b
 exact (List.getElem_inj hN).mp (e1.trans e2.symm)
theorem O9 {M:Model}{A:Around}{E:Value->Shared->Prop}{i:Nat}{x:Str}{v:V}{u:Value}{Q:Unit->Shared->Prop} (I:Inv X Ab σ H s) (hN:X.N.Nodup) (hi:X.N[i]?=some x) (hx:Loc X.env.scope x) (r:RelV v u)
 (h:∀ s',Inv X Ab (σ.set i (some v)) H s'->(∃ a,Heap.SameBut a s.heap s'.heap/\(a=X.env.locals\/X.env.cells.lookup x=some a))->Q () s') (hf:X.fn x=true\/X.env.scope.names.lookup x=some .local:=by first | exact .inl rfl | exact .inr rfl | assumption):wpAny M A (storeName X.env x u) Q E s:=by
 obtain⟨m,hn,hl⟩:=id I.loc
 have hcls:(X.env.scope.kind==.class || (X.env.scope.kind==.module&&X.env.locals != X.env.globals))=false:=by rw [I.ok.kind];rfl
 have hiσ:i<σ.length:=by rw [I.len];exact (List.getElem?_eq_some_iff.mp hi).1
 have cne:=I.cne
 have tracked:∀{a:Addr}{h':Heap},(∃ o,s.heap.get? a=some o/\H a=none)->Heap.SameBut a s.heap h'->HOk X.prog X.w H h':=fun {a h'} ha hs b ob e=>by
  obtain⟨_,_,hfree⟩:=ha
  refine (I.hok b ob e).stay (fun c w' hc q=>(hs.2 c ?_).trans q) (fun _ q=>q) fun _ _ q=>q
  rintro rfl
  rcases hc with rfl | hc
  . rw [hfree] at e;cases e
  . rw [hfree] at hc;cases hc
 rcases hx with hk | hk
 . refine wpAny_storeName_local hk hn (fun h' hn' hs=>?_) hcls
   obtain⟨oL,_,_,hoL,_⟩:=id hn
   refine h _ ⟨I.ok,I.os,I.bare,⟨fun b o e n hb hx=>?_,fun b o e n hb hx=>?_,I.base.free,fun b o e hx=>?_,I.base.tups,I.base.frzs,I.base.tbls⟩,⟨_,hn',fun j y v' e1 e2 e3=>?_⟩,fun y c e=>?_,I.free,I.freeC,fun p hp=>?_,tracked ⟨oL,hoL,I.free⟩ hs,by simpa using I.len⟩ ⟨_,hs,.inl rfl⟩
   . exact (hs.2 b (Nat.ne_of_lt (Nat.lt_of_lt_of_le (Heap.lt_size e) I.ok.above))).trans (I.base.keep b o e n hb hx)
   . obtain⟨sl,e1⟩:=I.base.slot b o e n hb hx
     exact ⟨sl,(hs.2 b (Nat.ne_of_lt (Nat.lt_of_lt_of_le (Heap.lt_size e) I.ok.above))).trans e1⟩
   . obtain⟨o',e1⟩:=I.base.there b o e hx
     exact ⟨o',(hs.2 b (Nat.ne_of_lt (Nat.lt_of_lt_of_le (Heap.lt_size e) I.ok.above))).trans e1⟩
   . by_cases hj:j=i
     . subst hj
       rw [hi] at e1;cases e1
       rw [List.getElem?_set_self hiσ] at e2
       cases e2
       exact ⟨u,r,.inl ⟨hk,by simp⟩⟩
     . rw [List.getElem?_set_ne (Ne.symm hj)] at e2
       obtain⟨u',r',q⟩:=hl j y v' e1 e2 e3
       refine⟨u',r',?_⟩
       rcases q with ⟨k,e⟩|⟨k,c,e,z⟩
       . refine .inl ⟨k,?_⟩
         have:y≠x:=fun e=>hj (N7 hN e1 (e▸hi))
         simp [this,e]
       . exact .inr ⟨k,c,e,z.sameBut hs (cne y c e)⟩
   . obtain⟨w',z⟩:=I.cell y c e
     exact ⟨w',z.sameBut hs (cne y c e)⟩
   . obtain⟨e,n,ne,nf,d⟩:=I.pin p hp
     exact ⟨(hs.2 p.1 ne).trans e,n,ne,nf,d⟩
 . have hfn:X.fn x=true:=by
    rcases hf with z | z
    . exact z
    . rw [z] at hk;cases hk
   obtain⟨c,hc⟩:=I.ok.has x (.inl hk)
   obtain⟨w',z⟩:=I.cell x c hc
   refine wpAny_storeName_cell I.ok.kind hk hc z (fun h' hc' hs=>?_)
   obtain⟨oc,hoc,hocd⟩:=id z
   refine h { s with heap:=h' } ⟨I.ok,I.os,I.bare,⟨fun b o e n hb hx=>?_,fun b o e n hb hx=>?_,I.base.free,fun b o e hx=>?_,I.base.tups,I.base.frzs,I.base.tbls⟩,⟨m,hn.sameBut hs (Ne.symm (cne x c hc)),fun j y v' e1 e2 e3=>?_⟩,fun y c' e=>?_,I.free,I.freeC,fun p hp=>?_,tracked ⟨oc,hoc,I.freeC x c hc⟩ hs,by simpa using I.len⟩ ⟨c,hs,.inr hc⟩
   . exact (hs.2 b (Nat.ne_of_lt (Nat.lt_of_lt_of_le (Heap.lt_size e) (I.ok.cab x c hfn hc)))).trans (I.base.keep b o e n hb hx)
   . obtain⟨sl,e1⟩:=I.base.slot b o e n hb hx
     exact ⟨sl,(hs.2 b (Nat.ne_of_lt (Nat.lt_of_lt_of_le (Heap.lt_size e) (I.ok.cab x c hfn hc)))).trans e1⟩
   . obtain⟨o',e1⟩:=I.base.there b o e hx
     exact ⟨o',(hs.2 b (Nat.ne_of_lt (Nat.lt_of_lt_of_le (Heap.lt_size e) (I.ok.cab x c hfn hc)))).trans e1⟩
   . by_cases hj:j=i
     . subst hj
       rw [hi] at e1;cases e1
       rw [List.getElem?_set_self hiσ] at e2
       cases e2
       exact ⟨u,r,.inr ⟨.inl hk,c,hc,hc'⟩⟩
     . rw [List.getElem?_set_ne (Ne.symm hj)] at e2
       obtain⟨u',r',q⟩:=hl j y v' e1 e2 e3
       refine⟨u',r',?_⟩
       rcases q with q|⟨k,c',e,z'⟩
       . exact .inl q
       . refine .inr ⟨k,c',e,z'.sameBut hs ?_⟩
         rintro rfl
         exact hj (N7 hN e1 (I.ok.inj _ _ _ e hc▸hi))
   . by_cases hcc:c'=c
     . subst hcc;exact ⟨_,hc'⟩
     . obtain⟨w2,z2⟩:=I.cell y c' e
       exact ⟨w2,z2.sameBut hs hcc⟩
   . obtain⟨e,n,ne,nf,d⟩:=I.pin p hp
     refine⟨(hs.2 p.1 ?_).trans e,n,ne,nf,d⟩
     intro q
     rw [q,hoc] at e
     have q':oc=p.2:=Option.some.inj e
     exact d w' (by rw [←q'];exact hocd)
theorem M8 {M:Model}{A:Around}{E:Value->Shared->Prop}{i:Nat}{x:Str}{v:V}{u:Value}{Q:Unit->Shared->Prop} (I:Inv X Ab σ H s) (hN:X.N.Nodup) (hi:X.N[i]?=some x) (hx:Loc X.env.scope x) (r:RelV v u)
 (h:∀ s',Inv X Ab (σ.set i (some v)) H s'->Q () s') (hf:X.fn x=true\/X.env.scope.names.lookup x=some .local:=by first | exact .inl rfl | exact .inr rfl | assumption):wpAny M A (storeName X.env x u) Q E s :=
 O9 I hN hi hx r (fun s' I' _=>h s' I') hf
theorem Inv.call' {s':Shared}{ch:List Addr} (I:Inv X Ab σ H s) (ho:s'.os=s.os) (u:Un (frs X.stack) ch H H' s.heap s'.heap) (hok:HOk X.prog X.w H' s'.heap) (hg:AllBare s'.gens)
 (hch:∀ b∈ch,(b∈X.ex\/X.s₀.heap.objs.size<=b)/\b≠X.env.locals/\(∀ x c,X.env.cells.lookup x=some c->c≠b)/\∀ p∈X.pn++Ab,p.1≠b):Inv X Ab σ H' s':=by
 obtain⟨h',g',d',t',o'⟩:=s'
 have e:o'=s.os:=ho
 subst e
 exact I.call (g':=g') (t':=t') (d':=d') u hok hg hch
end
abbrev XK:=Value->Option Addr->Hp->Prop
abbrev St:=List (Option V)
abbrev VK:=V->Hp->Prop
abbrev TE:=St->Hp->VK->Prop
abbrev TT:=St->Hp->(Bool->Hp->Prop)->Prop
abbrev TA:=St->Hp->(List V->Hp->Prop)->Prop
structure Ends where
 nx:St->Hp->Prop
 rt:VK
 bk:St->Hp->Prop:=fun _ _=>False
 ct:St->Hp->Prop:=fun _ _=>False
abbrev TS:=Ends->St->Hp->Prop
def EP (X:Cx) (Ab:List (Addr × Obj)) (σ:St) (Q:VK) (u:Value) (s':Shared):Prop:=∃ v H',Inv X Ab σ H' s'/\RelV v u/\Q v H'
def TP (X:Cx) (Ab:List (Addr × Obj)) (σ:St) (Q:Bool->Hp->Prop) (b:Bool) (s':Shared):Prop:=∃ H',Inv X Ab σ H' s'/\Q b H'
def AP (X:Cx) (Ab:List (Addr × Obj)) (σ:St) (Q:List V->Hp->Prop) (us:List Value) (s':Shared):Prop:=∃ vs H',Inv X Ab σ H' s'/\Vals vs us/\Q vs H'
def SP (X:Cx) (Ab:List (Addr × Obj)) (D:Ends) (f:Flow) (s':Shared):Prop :=
 match f with
 | .next=>∃ σ' H',Inv X Ab σ' H' s'/\D.nx σ' H'
 | .brk=>∃ σ' H',Inv X Ab σ' H' s'/\D.bk σ' H'
 | .cont=>∃ σ' H',Inv X Ab σ' H' s'/\D.ct σ' H'
 | .ret u=>∃ v σ' H',Inv X Ab σ' H' s'/\RelV v u/\D.rt v H'
def PE (X:Cx) (e:Expr) (t:TE):Prop :=
 ∀ (Ab:List (Addr × Obj)) (s:Shared) (σ:St) (H:Hp) (Q:VK),Inv X Ab σ H s->t σ H Q->wpAny (model X.prog X.w) X.A (eval e X.env) (EP X Ab σ Q) X.xe s
def PT (X:Cx) (e:Expr) (t:TT):Prop :=
 ∀ (Ab:List (Addr × Obj)) (s:Shared) (σ:St) (H:Hp) (Q:Bool->Hp->Prop),Inv X Ab σ H s->t σ H Q->wpAny (model X.prog X.w) X.A (isTrue e X.env (eval e X.env)) (TP X Ab σ Q) X.xe s
def PW (X:Cx) (e:Expr) (t:TT):Prop :=
 ∀ (whole:Sem Value) (Ab:List (Addr × Obj)) (s:Shared) (σ:St) (H:Hp) (Q:Bool->Hp->Prop),Inv X Ab σ H s->t σ H Q->wpAny (model X.prog X.w) X.A (isTrue e X.env whole) (TP X Ab σ Q) X.xe s
theorem PW.pt {X:Cx}{e:Expr}{t:TT} (h:PW X e t):PT X e t:=h _
def PA (X:Cx) (es:List Expr) (t:TA):Prop :=
 ∀ (pos:Pos) (Ab:List (Addr × Obj)) (s:Shared) (σ:St) (H:Hp) (Q:List V->Hp->Prop),Inv X Ab σ H s->t σ H Q->wpAny (model X.prog X.w) X.A (spliced (backTo pos (starEach es X.env))) (AP X Ab σ Q) X.xe s
def PS (X:Cx) (st:Stmt) (t:TS):Prop :=
 ∀ (Ab:List (Addr × Obj)) (s:Shared) (σ:St) (H:Hp) (D:Ends),Inv X Ab σ H s->t D σ H->wpAny (model X.prog X.w) X.A (exec st X.env) (SP X Ab D) X.xe s
def PSs (X:Cx) (st:List Stmt) (t:TS):Prop :=
 ∀ (Ab:List (Addr × Obj)) (s:Shared) (σ:St) (H:Hp) (D:Ends),Inv X Ab σ H s->t D σ H->wpAny (model X.prog X.w) X.A (execs st X.env) (SP X Ab D) X.xe s
theorem thn {α:Type}{t:Sem α}{Q Q':α->Shared->Prop}{M:Model}{A:Around}{E:Value->Shared->Prop}{s:Shared} (h:wpAny M A t Q E s) (hQ:∀ a s,Q a s->Q' a s):wpAny M A t Q' E s:=wpAny_mono h hQ fun _ _ x=>x
end L2
namespace L2
open PySem PySem.Spec PyProof.Rows
section
variable {X:Cx}
theorem bin {a b:Expr}{ta tb:TE} (ha:PE X a ta) (hb:PE X b tb) {Ab:List (Addr × Obj)}{s:Shared}{σ:St}{H:Hp}{R:V->V->Hp->Prop} (I:Inv X Ab σ H s) (h:ta σ H fun x H1=>tb σ H1 fun y H2=>R x y H2)
 {α:Type}{Q:α->Shared->Prop}{f:Value->Value->Sem α}
 (hf:∀ v u s2 x y H2,Inv X Ab σ H2 s2->RelV x v->RelV y u->R x y H2->wpAny (model X.prog X.w) X.A (f v u) Q X.xe s2) :
 wpAny (model X.prog X.w) X.A (eval a X.env) (fun v s₁=>wpAny (model X.prog X.w) X.A (eval b X.env) (fun u s₂=>wpAny (model X.prog X.w) X.A (f v u) Q X.xe s₂) X.xe s₁) X.xe s:=by
 refine thn (ha Ab s σ H _ I h) fun v s1 ⟨x,H1,I1,r1,q1⟩=>?_
 refine thn (hb Ab s1 σ H1 _ I1 q1) fun u s2 ⟨y,H2,I2,r2,q2⟩=>?_
 exact hf v u s2 x y H2 I2 r1 r2 q2
def tVar (i:Nat):TE:=fun σ H Q=>∃ v,σ[i]?=some (some v)/\Q v H
def tC (v:V):TE:=fun _ H Q=>Q v H
theorem i8 {i:Nat}{x:Str}{pos:Pos} (hN:X.N[i]?=some x) (hv:Vis X.env.scope x) (hd:(x==("__debug__":Str))=false:=by decide) (hcd:(x==("__classdict__":Str))=false:=by decide):PE X (.Name x pos) (tVar i):=by
 intro Ab s σ H Q I h
 obtain⟨v,e,h⟩:=h
 obtain⟨m,hn,hl⟩:=I.loc
 obtain⟨u,r,l⟩:=hl i x v hN e hv
 have fin:EP X Ab σ Q u s:=⟨v,H,I,r,h⟩
 rcases l with ⟨hk,hm⟩|⟨hk,c,hc,hcell⟩
 . exact wpAny_Name (wpAny_loadName_local I.ok.kind hk hn hm fin) hd
 . rcases hk with hk | hk
   . exact wpAny_Name (wpAny_loadName_cell I.ok.kind hk hc hcell fin) hd
   . exact wpAny_Name (wpAny_loadName_free I.ok.kind hk hc hcell fin hcd) hd
theorem Am {i j pos}:PE X (.Constant (.int i) j pos) (tC (.int i)):=fun _ _ _ H _ I h=>wpAny_Constant_int ⟨.int i,H,I.tok _,⟨_,rfl⟩,h⟩
theorem J5 {b j pos}:PE X (.Constant (.bool b) j pos) (tC (.bl b)):=fun _ _ _ H _ I h=>Constant_bool ⟨.bl b,H,I,rfl,h⟩
theorem Mo {j pos}:PE X (.Constant .none j pos) (tC .non):=fun _ _ _ H _ I h=>Constant_none ⟨.non,H,I,rfl,h⟩
theorem Vo {x j pos}:PE X (.Constant (.str x) j pos) (tC (.str x)):=fun _ _ _ H _ I h=>Calls.Constant_str ⟨.str x,H,I.tok _,⟨_,rfl⟩,h⟩
def Gl (X:Cx) (x:Str):Prop:=X.env.kindOf x=some .globalImplicit
theorem Iy {E:Value->Shared->Prop}{Ab:List (Addr × Obj)}{s:Shared}{σ:St}{H:Hp}{x:Str}{u:Value}{pos:Pos}{Q:Value->Shared->Prop} (I:Inv X Ab σ H s) (hg:Gl X x) (hm:X.mg x=some u) (h:Q u s)
 (hd:(x==("__debug__":Str))=false:=by decide):wpAny (model X.prog X.w) X.A (eval (.Name x pos) X.env) Q E s :=
 Calls.Name_function_global I.ok.kind hg (Calls.loadGlobal_global (by rw [I.ok.glob];exact I.mod.glob.keeps I.bk) hm h) hd
theorem Hl {E:Value->Shared->Prop}{Ab:List (Addr × Obj)}{s:Shared}{σ:St}{H:Hp}{x:Str}{u:Value}{pos:Pos}{Q:Value->Shared->Prop} (I:Inv X Ab σ H s) (hg:Gl X x) (hm:X.mg x=none) (hv:bootBuiltins x=some u) (h:Q u s)
 (hn:x≠"__name__":=by decide) (hd:(x==("__debug__":Str))=false:=by decide):wpAny (model X.prog X.w) X.A (eval (.Name x pos) X.env) Q E s:=by
 obtain⟨mb,h1,h2⟩:=I.mod.blt
 exact Calls.Name_function_global I.ok.kind hg (Calls.loadGlobal_builtin (by rw [I.ok.glob];exact I.mod.glob.keeps I.bk) hm (by rw [I.ok.blt];exact h1.keeps I.bk) ((h2 x hn).trans hv) h) hd
theorem B7 {x:Str}{v:V}{u:Value}{pos:Pos} (hg:Gl X x) (hm:X.mg x=some u) (r:RelV v u) (hd:(x==("__debug__":Str))=false:=by decide):PE X (.Name x pos) (tC v) :=
 fun _ _ _ H _ I h=>Iy I hg hm ⟨v,H,I,r,h⟩ hd
theorem Ki {x:Str}{v:V}{u:Value}{pos:Pos} (hg:Gl X x) (hm:X.mg x=none) (hv:bootBuiltins x=some u) (r:RelV v u) (hn:x≠"__name__":=by decide) (hd:(x==("__debug__":Str))=false:=by decide):PE X (.Name x pos) (tC v) :=
 fun _ _ _ H _ I h=>Hl I hg hm hv ⟨v,H,I,r,h⟩ hn hd
variable {a b:Expr}{ta tb:TE}{pos:Pos}
def PC (X:Cx) (op:CmpOp) (a b:Expr) (t:TE):Prop :=
 ∀ (Ab:List (Addr × Obj)) (s:Shared) (σ:St) (H:Hp) (Q:VK),Inv X Ab σ H s->t σ H Q →
   wpAny (model X.prog X.w) X.A (eval a X.env) (fun v s₁=>wpAny (model X.prog X.w) X.A (eval b X.env) (fun u s₂=>wpAny (model X.prog X.w) X.A (compareOp op v u) (EP X Ab σ Q) X.xe s₂) X.xe s₁) X.xe s
theorem X1 (b:Expr) {op:CmpOp} (h:op≠.In) (h2:op≠.NotIn):behindInMarks op b=false:=by
 have e1:(op==CmpOp.In)=false:=by cases op<;>first | rfl | exact absurd rfl h
 have e2:(op==CmpOp.NotIn)=false:=by cases op<;>first | rfl | exact absurd rfl h2
 cases b<;>simp [behindInMarks,e1,e2]
def tB (t:TE):TT:=fun σ H Q=>t σ H fun x H1=>∃ c,x=.bl c/\Q c H1
theorem Ab0 {op:CmpOp}{t:TE} (h:PC X op a b t) (h1:behindInMarks op b=false:=by first | exact X1 _ (by decide) (by decide) | rfl):PT X (.Compare a [op] [b] pos) (tB t):=by
 intro Ab s σ H Q I hw
 refine wpAny_isTrue_Compare1 (thn (h Ab s σ H _ I hw) fun v s1 h1=>thn h1 fun u s2 h2=>thn h2 fun c s3 ⟨x,H1,I1,r1,q1⟩=>?_) h1
 obtain⟨d,rfl,q⟩:=q1
 cases r1
 exact wpAny_truthy_bool ⟨H1,I1,q⟩
theorem Tq {e:Expr}{t:TE} (h:PE X e t) (he:∀ whole,isTrue e X.env whole=(do let v ←whole;standAt e.pos;holding [v] (truthy v)):=by intro _;rfl):PT X e (tB t):=by
 intro Ab s σ H Q I hw
 refine isTrue_plain (thn (h Ab s σ H _ I hw) fun v s1 ⟨x,H1,I1,r1,q1⟩=>?_) (he _)
 obtain⟨d,rfl,q⟩:=q1
 cases r1
 exact wpAny_truthy_bool ⟨H1,I1,q⟩
variable {tA tB':TT}{rest:List Expr}
def tAnd (t u:TT):TT:=fun σ H Q=>t σ H fun c H1=>if c=true then u σ H1 Q else Q false H1
def tOr (t u:TT):TT:=fun σ H Q=>t σ H fun c H1=>if c=true then Q true H1 else u σ H1 Q
def tNot (t:TT):TT:=fun σ H Q=>t σ H fun c H1=>Q (!c) H1
theorem Nm (ha:PT X a tA):PW X (.BoolOp .And [a] pos) tA:=by
 intro wh Ab s σ H Q I h
 refine isTrue_and (thn (ha Ab s σ H Q I h) fun c s1 e=>?_)
 cases c with
 | true=>exact isTrue_and_nil e
 | false=>exact e
theorem g7 (ha:PT X a tA):PW X (.BoolOp .Or [a] pos) tA:=by
 intro wh Ab s σ H Q I h
 refine isTrue_or (thn (ha Ab s σ H Q I h) fun c s1 e=>?_)
 cases c with
 | false=>exact isTrue_or_nil e
 | true=>exact e
theorem Tp (ha:PT X a tA) (hb:PW X (.BoolOp .And (b::rest) pos) tB'):PW X (.BoolOp .And (a::b::rest) pos) (tAnd tA tB'):=by
 intro wh Ab s σ H Q I h
 refine isTrue_and (thn (ha Ab s σ H _ I h) fun c s1 ⟨H1,I1,q1⟩=>?_)
 cases c with
 | true=>exact hb wh Ab s1 σ H1 Q I1 q1
 | false=>exact ⟨H1,I1,q1⟩
theorem i5 (ha:PT X a tA) (hb:PW X (.BoolOp .Or (b::rest) pos) tB'):PW X (.BoolOp .Or (a::b::rest) pos) (tOr tA tB'):=by
 intro wh Ab s σ H Q I h
 refine isTrue_or (thn (ha Ab s σ H _ I h) fun c s1 ⟨H1,I1,q1⟩=>?_)
 cases c with
 | true=>exact ⟨H1,I1,q1⟩
 | false=>exact hb wh Ab s1 σ H1 Q I1 q1
theorem Tr (ha:PT X a tA):PT X (.UnaryOp .Not a pos) (tNot tA):=by
 intro Ab s σ H Q I h
 exact isTrue_not (ha Ab s σ H (fun c H1=>Q (!c) H1) I h)
def x8 (ta tb:TE):TE:=fun σ H Q=>ta σ H fun x H1=>∃ c,x=.bl c/\if c=true then tb σ H1 Q else Q (.bl false) H1
def v7 (ta:TE):TE:=fun σ H Q=>ta σ H fun x H1=>∃ c,x=.bl c/\Q (.bl (!c)) H1
theorem Vp {op}{t:TE} (h:PE X a t):PE X (.BoolOp op [a] pos) t:=fun Ab s σ H Q I hw=>BoolOp_one (h Ab s σ H Q I hw)
theorem Vr (ha:PE X a ta) (hb:PE X (.BoolOp .And (b::rest) pos) tb):PE X (.BoolOp .And (a::b::rest) pos) (x8 ta tb):=by
 intro Ab s σ H Q I h
 refine BoolOp_and (thn (ha Ab s σ H _ I h) fun v s1 ⟨x,H1,I1,r1,q1⟩=>?_)
 obtain⟨c,rfl,q1⟩:=q1
 cases r1
 refine wpAny_truthy_bool ?_
 cases c with
 | true=>exact hb Ab s1 σ H1 Q I1 q1
 | false=>exact ⟨.bl false,H1,I1,rfl,q1⟩
theorem i9 (ha:PE X a ta):PE X (.UnaryOp .Not a pos) (v7 ta):=by
 intro Ab s σ H Q I h
 refine UnaryOp_ (thn (ha Ab s σ H _ I h) fun v s1 ⟨x,H1,I1,r1,q1⟩=>?_)
 obtain⟨c,rfl,q1⟩:=q1
 cases r1
 exact not_of (wpAny_truthy_bool ⟨.bl (!c),H1,I1,rfl,q1⟩)
def tIf (t:TT) (ta tb:TE):TE:=fun σ H Q=>t σ H fun c H1=>if c=true then ta σ H1 Q else tb σ H1 Q
theorem Xt {c:Expr} (hc:PT X c tA) (ha:PE X a ta) (hb:PE X b tb):PE X (.IfExp c a b pos) (tIf tA ta tb):=by
 intro Ab s σ H Q I h
 refine wpAny_IfExp (thn (hc Ab s σ H _ I h) fun d s1 ⟨H1,I1,q1⟩=>?_)
 cases d with
 | true=>exact ha Ab s1 σ H1 Q I1 q1
 | false=>exact hb Ab s1 σ H1 Q I1 q1
end
end L2
namespace L2
open PySem PySem.Spec PyProof.Rows
def SqL (K:W.Frag) (H:Hp) (a:Addr) (xs:List V):Prop :=
 Rd H a (.lst xs) ∨
  ∃ (o:Obj) (its:Array Value) (n:Nat),K.lookup a=some o/\o.cls=.type "list"/\o.dict=none/\o.data=.seq its n/\its.size<=sizeLine/\Vals xs its.toList
def SqT (K:W.Frag) (H:Hp) (a:Addr) (xs:List V):Prop :=
 Rd H a (.tup xs) ∨
  ∃ (o:Obj) (its:Array Value) (n:Nat),K.lookup a=some o/\o.cls=.type "tuple"/\o.dict=none/\o.data=.seq its n/\its.size<=sizeLine/\Vals xs its.toList
def absV:Value->Option V
 | .none=>some .non
 | .bool b=>some (.bl b)
 | .int i _=>some (.int i)
 | .str x _=>some (.str x)
 | .bytes b _=>some (.byt b)
 | .float b _=>some (.flt b)
 | .ref a=>some (.ref a)
 | .type n=>some (.ty n)
 | _=>none
theorem RelV.abs {x:V}{u:Value} (r:RelV x u):absV u=some x:=by
 cases x with
 | non=>cases r;rfl
 | bl _=>cases r;rfl
 | int _=>obtain⟨t,rfl⟩:=r;rfl
 | str _=>obtain⟨t,rfl⟩:=r;rfl
 | byt _=>obtain⟨t,rfl⟩:=r;rfl
 | flt _=>obtain⟨t,rfl⟩:=r;rfl
 | ref _=>cases r;rfl
 | ty _=>cases r;rfl
theorem RelV.inj {x y:V}{u:Value} (r:RelV x u) (q:RelV y u):x=y:=Option.some.inj (r.abs.symm.trans q.abs)
theorem Vals.inj:∀{xs ys:List V}{us:List Value},Vals xs us->Vals ys us->xs=ys
 | _,_,_,.nil,.nil=>rfl
 | _,_,_,.cons r t,.cons r' t'=>by rw [r.inj r',Vals.inj t t']
section
variable {X:Cx}{Ab:List (Addr × Obj)}{σ:St}{H:Hp}{s:Shared}{a:Addr}{xs ys:List V}
theorem SqL.of {K:W.Frag} (h:H a=some (.lst xs)):SqL K H a xs:=.inl (.inl h)
theorem SqT.of {K:W.Frag} (h:H a=some (.tup xs)):SqT K H a xs:=.inl (.inl h)
theorem Inv.list (I:Inv X Ab σ H s) (h:SqL X.K H a xs):∃ its:List Value,Vals xs its/\PlainL s.heap a its.toArray/\xs.length<=sizeLine:=by
 rcases h with h|⟨o,its,n,hk,hc,hd,hs,hz,r⟩
 . obtain⟨z,its,n,r,e⟩:=h.ok I.hok
   exact ⟨its,r,⟨_,n,e,rfl,rfl,rfl⟩,z⟩
 . refine⟨its.toList,r,⟨o,n,I.kIn a o hk,hc,hd,by simpa using hs⟩,?_⟩
   have e:=r.length
   simp only [Array.length_toList] at e
   omega
theorem Inv.tuple (I:Inv X Ab σ H s) (h:SqT X.K H a xs):∃ its:List Value,Vals xs its/\IsTup s.heap a its.toArray/\xs.length<=sizeLine:=by
 rcases h with h|⟨o,its,n,hk,hc,_,hs,hz,r⟩
 . obtain⟨z,its,r,p⟩:=h.ok I.hok
   exact ⟨its,r,p.tup,z⟩
 . refine⟨its.toList,r,⟨o,I.kIn a o hk,hc,n,by simpa using hs⟩,?_⟩
   have e:=r.length
   simp only [Array.length_toList] at e
   omega
theorem Inv.list_inj (I:Inv X Ab σ H s) (h:SqL X.K H a xs) (h':SqL X.K H a ys):xs=ys:=by
 obtain⟨its,r,⟨o,n,e,_,_,d⟩,_⟩:=I.list h
 obtain⟨its',r',⟨o',n',e',_,_,d'⟩,_⟩:=I.list h'
 rw [e] at e';cases e'
 rw [d] at d'
 injection d' with d1 _
 have:its=its':=by simpa using congrArg Array.toList d1
 subst this
 exact r.inj r'
theorem Inv.tuple_inj (I:Inv X Ab σ H s) (h:SqT X.K H a xs) (h':SqT X.K H a ys):xs=ys:=by
 obtain⟨its,r,⟨o,e,_,n,d⟩,_⟩:=I.tuple h
 obtain⟨its',r',⟨o',e',_,n',d'⟩,_⟩:=I.tuple h'
 rw [e] at e';cases e'
 rw [d] at d'
 injection d' with d1 _
 have:its=its':=by simpa using congrArg Array.toList d1
 subst this
 exact r.inj r'
end
abbrev Cx.wish (X:Cx) (E:Value->Shared->Prop):Cx:={ X with xe:=E }
abbrev Cx.nox (X:Cx):Cx:=X.wish fun _ _=>False
theorem Cx.Ok.wish {X:Cx} (ok:X.Ok) (E:Value->Shared->Prop):(X.wish E).Ok :=
 ⟨ok.mod,ok.kind,ok.glob,ok.blt,ok.above,ok.inj,ok.has,ok.cab,ok.hd,ok.frames,ok.stk,ok.exf,ok.bs,ok.bsz,ok.noex,ok.exfs,ok.funs,ok.frf⟩
theorem Cx.Ok.unwish {X:Cx}{E:Value->Shared->Prop} (ok:(X.wish E).Ok):X.Ok :=
 ⟨ok.mod,ok.kind,ok.glob,ok.blt,ok.above,ok.inj,ok.has,ok.cab,ok.hd,ok.frames,ok.stk,ok.exf,ok.bs,ok.bsz,ok.noex,ok.exfs,ok.funs,ok.frf⟩
section
variable {X:Cx}{Ab:List (Addr × Obj)}{σ:St}{H:Hp}{s:Shared}{E:Value->Shared->Prop}
theorem Inv.wish (I:Inv X Ab σ H s) (E:Value->Shared->Prop):Inv (X.wish E) Ab σ H s:=⟨I.ok.wish E,I.os,I.bare,I.base,I.loc,I.cell,I.free,I.freeC,I.pin,I.hok,I.len⟩
theorem Inv.unwish (I:Inv (X.wish E) Ab σ H s):Inv X Ab σ H s:=⟨I.ok.unwish,I.os,I.bare,I.base,I.loc,I.cell,I.free,I.freeC,I.pin,I.hok,I.len⟩
theorem SP.unwish {D:Ends}{f:Flow}{s':Shared} (h:SP (X.wish E) Ab D f s'):SP X Ab D f s':=by
 cases f with
 | next=>obtain⟨σ',H',I,q⟩:=h;exact ⟨σ',H',I.unwish,q⟩
 | brk=>obtain⟨σ',H',I,q⟩:=h;exact ⟨σ',H',I.unwish,q⟩
 | cont=>obtain⟨σ',H',I,q⟩:=h;exact ⟨σ',H',I.unwish,q⟩
 | ret u=>obtain⟨v,σ',H',I,r,q⟩:=h;exact ⟨v,σ',H',I.unwish,r,q⟩
theorem PSs.nox {st:List Stmt}{t:TS} (h:PSs X.nox st t):PSs X st t:=fun Ab s σ H D I hw =>
 wpAny_mono (h Ab s σ H D (I.wish _) hw) (fun _ _ q=>q.unwish) fun _ _ z=>False.elim z
end
section
variable {X:Cx}{st:Stmt}{rest:List Stmt}{t u:TS}{e:Expr}{te:TE}{pos:Pos}
def v9:TS:=fun D σ H=>D.nx σ H
def tSeq (t u:TS):TS:=fun D σ H=>t { D with nx:=u D } σ H
theorem Bk:PSs X [] v9:=fun _ _ σ H _ I h=>wpAny_execs_nil ⟨σ,H,I,h⟩
theorem Af (h1:PS X st t) (h2:PSs X rest u):PSs X (st::rest) (tSeq t u):=by
 intro Ab s σ H D I h
 refine wpAny_execs_cons (thn (h1 Ab s σ H { D with nx:=u D } I h) fun f s1 q=>?_)
 cases f with
 | next =>
   obtain⟨σ',H',I',q⟩:=q
   exact h2 Ab s1 σ' H' D I' q
 | ret v=>exact q
 | brk=>exact q
 | cont=>exact q
theorem An (h1:PS X st t):PSs X [st] t:=by
 intro Ab s σ H D I h
 refine wpAny_execs_cons (thn (h1 Ab s σ H D I h) fun f s1 q=>?_)
 cases f with
 | next=>exact wpAny_execs_nil q
 | ret v=>exact q
 | brk=>exact q
 | cont=>exact q
theorem Inv.quiet {Ab:List (Addr × Obj)}{σ:St}{H:Hp}{s:Shared} (I:Inv X Ab σ H s):interactive X.env=false:=by simp [interactive,I.ok.kind]
def x5 (te:TE):TS:=fun D σ H=>te σ H fun _ H1=>D.nx σ H1
theorem Gj (he:PE X e te) (hs:swapsWith e none pos.line X.env=pure false:=by rfl):PS X (.Expr e pos) (x5 te):=by
 intro Ab s σ H D I h
 exact wpAny_Expr_any (thn (he Ab s σ H _ I h) fun v s1 ⟨x,H1,I1,r1,q1⟩=>⟨σ,H1,I1,q1⟩) I.quiet hs
def tRet (te:TE):TS:=fun D σ H=>te σ H D.rt
theorem Bj (he:PE X e te):PS X (.Return (some e) pos) (tRet te):=by
 intro Ab s σ H D I h
 exact wpAny_Return_some (thn (he Ab s σ H _ I h) fun v s1 ⟨x,H1,I1,r1,q1⟩=>⟨x,σ,H1,I1,r1,q1⟩)
def tIfS (c:TT) (t u:TS):TS:=fun D σ H=>c σ H fun b H1=>if b=true then t D σ H1 else u D σ H1
theorem C2 {c:Expr}{a b:List Stmt}{tc:TT} (hc:PT X c tc) (ha:PSs X a t) (hb:PSs X b u):PS X (.If c a b pos) (tIfS tc t u):=by
 intro Ab s σ H D I h
 refine wpAny_If (thn (hc Ab s σ H _ I h) fun d s1 ⟨H1,I1,q1⟩=>?_)
 cases d with
 | true=>exact ha Ab s1 σ H1 D I1 q1
 | false=>exact hb Ab s1 σ H1 D I1 q1
end
abbrev TG:=V->St->Hp->(St->Hp->Prop)->Prop
abbrev TGs:=List V->St->Hp->(St->Hp->Prop)->Prop
def PG (X:Cx) (target:Expr) (t:TG):Prop :=
 ∀ (Ab:List (Addr × Obj)) (s:Shared) (σ:St) (H:Hp) (v:V) (u:Value) (Q:St->Hp->Prop),Inv X Ab σ H s->RelV v u->t v σ H Q →
   wpAny (model X.prog X.w) X.A (assign target X.env u) (fun _ s'=>∃ σ' H',Inv X Ab σ' H' s'/\Q σ' H') X.xe s
def PGs (X:Cx) (ts:List Expr) (t:TGs):Prop :=
 ∀ (Ab:List (Addr × Obj)) (s:Shared) (σ:St) (H:Hp) (vs:List V) (us:List Value) (Q:St->Hp->Prop),Inv X Ab σ H s->Vals vs us->t vs σ H Q →
   wpAny (model X.prog X.w) X.A (assignInOrder ((assignEach ts X.env).map (·.2)) us) (fun _ s'=>∃ σ' H',Inv X Ab σ' H' s'/\Q σ' H') X.xe s
section
variable {X:Cx}{pos:Pos}
def Ya (i:Nat):TG:=fun v σ H Q=>Q (σ.set i (some v)) H
theorem Ba {i:Nat}{x:Str} (hN:X.N.Nodup) (hi:X.N[i]?=some x) (hx:Loc X.env.scope x) (hf:X.fn x=true\/X.env.scope.names.lookup x=some .local:=by first | exact .inl rfl | exact .inr rfl | assumption):PG X (.Name x pos) (Ya i):=by
 intro Ab s σ H v u Q I r h
 exact wpAny_assign_Name (M8 I hN hi hx r (fun s' I'=>⟨_,H,I',h⟩) hf)
def gNil:TGs:=fun vs σ H Q=>vs=[]/\Q σ H
def Aa6 (t:TG) (u:TGs):TGs:=fun vs σ H Q=>∃ v r,vs=v::r/\t v σ H fun σ' H'=>u r σ' H' Q
theorem Nu:PGs X [] gNil:=by
 intro Ab s σ H vs us Q I r h
 obtain⟨e,h⟩:=h
 subst e
 cases r
 exact assignInOrder_nil ⟨σ,H,I,h⟩
theorem D3 {e:Expr}{es:List Expr}{t:TG}{u:TGs} (h1:PG X e t) (h2:PGs X es u)
 (hs:(assignEach (e::es) X.env).map (·.2)=assign e X.env::(assignEach es X.env).map (·.2):=by rfl):PGs X (e::es) (Aa6 t u):=by
 intro Ab s σ H vs us Q I r h
 obtain⟨v,vr,e1,h⟩:=h
 subst e1
 cases r with
 | cons r rr =>
   rw [hs]
   refine assignInOrder_cons (thn (h1 Ab s σ H _ _ _ I r h) fun _ s1 ⟨σ1,H1,I1,q1⟩=>?_)
   exact h2 Ab s1 σ1 H1 _ _ Q I1 rr q1
def gTup (K:W.Frag) (n:Nat) (t:TGs):TG:=fun v σ H Q=>∃ a xs,v=.ref a/\SqT K H a xs/\xs.length=n/\t xs σ H Q
theorem i7 {es:List Expr}{k:Nat}{t:TGs}{n:Nat} (hc:X.calm=true) (h:PGs X es t)
 (hn:(assignEach es X.env).length=n:=by rfl) (hst:(assignEach es X.env).findIdx? (·.1)=none:=by rfl):PG X (.Tuple es k pos) (gTup X.K n t):=by
 intro Ab s σ H v u Q I r hw
 obtain⟨a,xs,e1,hq,hl,hw⟩:=hw
 subst e1
 cases r
 obtain⟨its,rv,ht,hz⟩:=I.tuple hq
 refine assign_Tuple_tuple (I.ok.hd hc) ht (by simp [hn,←hl,rv.length]) hst fun h' hx=>?_
 have I1:Inv X Ab σ H { s with heap:=h' }:=I.kept (t':=s.toks) fun b o e=>hx b o (Nat.ne_of_lt (Heap.lt_size e)) e
 exact h Ab _ σ H xs _ Q I1 (by simpa using rv) hw
def tAsg (te:TE) (g:TG):TS:=fun D σ H=>te σ H fun x H1=>g x σ H1 D.nx
theorem A3 {i:Nat}{x:Str}{e:Expr}{te:TE}{pos':Pos} (hN:X.N.Nodup) (hi:X.N[i]?=some x) (hx:Loc X.env.scope x) (he:PE X e te) (hs:swapsWith e (some (.Name x pos')) pos.line X.env=pure false:=by rfl) (hf:X.fn x=true\/X.env.scope.names.lookup x=some .local:=by first | exact .inl rfl | exact .inr rfl | assumption) :
 PS X (.Assign [.Name x pos'] e pos) (tAsg te (Ya i)):=by
 intro Ab s σ H D I h
 refine wpAny_Assign_Name (thn (he Ab s σ H _ I h) fun v s1 ⟨y,H1,I1,r1,q1⟩=>?_) hs
 exact M8 I1 hN hi hx r1 (fun s2 I2=>⟨_,H1,I2,q1⟩) hf
end
section
variable {X:Cx}{pos:Pos}
end
structure It where
 go:Nat->Hp->Prop
 yld:Nat->Hp->V->Hp->Prop
 stop:Nat->Hp->Prop
def FpOk (X:Cx) (Ab:List (Addr × Obj)) (H:Hp) (b:Addr):Prop :=
 H b=none/\b≠X.env.locals/\b ∉ X.fs/\(b∈X.ex\/X.s₀.heap.objs.size<=b)/\(∀ x c,X.env.cells.lookup x=some c->c≠b)/\∀ p∈X.pn++Ab,p.1≠b
theorem Inv.fpOk {X:Cx}{Ab:List (Addr × Obj)}{σ:St}{H H':Hp}{s:Shared}{b:Addr} (I:Inv X Ab σ H s) (hb:s.heap.objs.size<=b) (hn:H' b=none):FpOk X Ab H' b:=by
 refine⟨hn,Nat.ne_of_gt (Nat.lt_of_lt_of_le I.lt hb),I.nofs hb,.inr (Nat.le_trans I.sz hb),fun x c e z=>?_,fun p hp z=>?_⟩
 . obtain⟨v,q⟩:=I.cell x c e
   exact absurd (Nat.lt_of_lt_of_le q.lt (by rw [z];exact hb)) (Nat.lt_irrefl _)
 . exact absurd (Nat.lt_of_lt_of_le (Heap.lt_size (I.pin p hp).1) (by rw [z];exact hb)) (Nat.lt_irrefl _)
structure Turn (P:Program) (w:World) (K:W.Frag) (tg:Expr) (J:It) (fp:List Addr) (it:Addr) (tn:Nat->Heap->Prop):Prop where
 mem:it∈fp
 obj:∀ i h,tn i h->∀ b∈fp,∃ o,h.get? b=some o/\∀ v,o.data≠.cell v
 keep:∀ i h h',tn i h->(∀ b∈fp,∀ o,h.get? b=some o->h'.get? b=some o)->tn i h'
 item:∀ (X:Cx),X.prog=P->X.w=w->X.K=K->X.calm=true->∀ (i:Nat) (Ab:List (Addr × Obj)) (s:Shared) (σ:St) (H:Hp) (E:Value->Shared->Prop),Inv X Ab σ H s->(∀ b∈fp,FpOk X Ab H b)->tn i s.heap->J.go i H →
  wpAny (model P w) X.A (pyNext (.ref it)) (fun r s1=>∃ u,r=some u ∧
   wpAny (model P w) X.A (letOwnedTupleGo tg (.ref it) u) (fun _ s2=>∃ x H',Inv X Ab σ H' s2/\RelV x u/\J.yld i H x H'/\tn (i+1) s2.heap/\∀ b∈fp,H' b=none) E s1) E s
 done:∀ (X:Cx),X.prog=P->X.w=w->X.K=K->X.calm=true->∀ (i:Nat) (Ab:List (Addr × Obj)) (s:Shared) (σ:St) (H:Hp) (E:Value->Shared->Prop),Inv X Ab σ H s->(∀ b∈fp,FpOk X Ab H b)->tn i s.heap->J.stop i H →
  wpAny (model P w) X.A (pyNext (.ref it)) (fun r s1=>r=none/\Inv X Ab σ H s1) E s
 self:∀ (A:Around) (i:Nat) (s:Shared) (Q:Value->Shared->Prop) (E:Value->Shared->Prop),tn i s.heap->Q (.ref it) s->wpAny (model P w) A (pyIter (.ref it)) Q E s
abbrev TI:=St->Hp->(It->Hp->Prop)->Prop
def PIE (X:Cx) (Ab:List (Addr × Obj)) (σ:St) (tg:Expr) (R:It->Hp->Prop) (itv:Value) (s2:Shared):Prop :=
 ∃ (it:Addr) (fp:List Addr) (tn:Nat->Heap->Prop) (J:It) (H':Hp),itv=.ref it/\Inv X Ab σ H' s2/\Turn X.prog X.w X.K tg J fp it tn/\tn 0 s2.heap/\(∀ b∈fp,FpOk X Ab H' b)/\R J H'
def PI (X:Cx) (tg iter:Expr) (wi:TI):Prop :=
 ∀ (Ab:List (Addr × Obj)) (s:Shared) (σ:St) (H:Hp) (R:It->Hp->Prop),Inv X Ab σ H s->wi σ H R →
   wpAny (model X.prog X.w) X.A (eval iter X.env) (fun v s1=>wpAny (model X.prog X.w) X.A (pyIter v) (PIE X Ab σ tg R) X.xe s1) X.xe s
theorem V9 {M:Model}{A:Around}{E:Value->Shared->Prop}{s:Shared}{tg:Expr}{it:Addr}{u:Value}{o:Obj}{n:String}{vs:Array Value}{Q:Unit->Shared->Prop} (ho:s.heap.get? it=some o) (hc:o.cls=.type n) (hd:o.data=.fields vs)
 (hn:["enumerate","zip","dict_itemiterator","dict_reverseitemiterator","odict_iterator","itertools.zip_longest","itertools.pairwise"].contains n=false) (hQ:Q () s):wpAny M A (letOwnedTupleGo tg (.ref it) u) Q E s:=by
 unfold letOwnedTupleGo
 cases tg<;>first
  | exact wpAny_pure hQ
  | (cases u<;>first
      | exact wpAny_pure hQ
      | (refine wpAny_bind (wpAny_load ho ?_)
         rw [hc,hd]
         show wpAny M A (if (["enumerate","zip","dict_itemiterator","dict_reverseitemiterator","odict_iterator","itertools.zip_longest","itertools.pairwise"].contains n&&vs[0]?==some (rawInt _))=true then _ else _) Q E s
         rw [if_neg (by intro h;rw [hn,Bool.false_and] at h;cases h)]
         exact wpAny_pure hQ))
def Itl (K:W.Frag) (a:Addr):It :=
 ⟨fun i H=>∃ xs x,SqL K H a xs/\xs[i]?=some x,fun i H x H'=>H'=H/\∀ xs,SqL K H a xs->xs[i]?=some x,fun i H=>∃ xs,SqL K H a xs/\xs.length<=i⟩
def Itt (K:W.Frag) (a:Addr):It :=
 ⟨fun i H=>∃ xs x,SqT K H a xs/\xs[i]?=some x,fun i H x H'=>H'=H/\∀ xs,SqT K H a xs->xs[i]?=some x,fun i H=>∃ xs,SqT K H a xs/\xs.length<=i⟩
def Itr (lo:Int) (n:Nat):It:=⟨fun i _=>i<n,fun i H x H'=>H'=H/\x=.int (lo+i),fun i _=>n<=i⟩
theorem Vb {P:Program}{w:World}{K:W.Frag}{tg:Expr} (a it:Addr):Turn P w K tg (Itl K a) [it] it (fun i h=>h.IsListIter it a i) where
 mem:=by simp
 obj:=fun i h st b hb=>by
  have e:b=it:=by simpa using hb
  subst e
  obtain⟨o,e,c,d⟩:=st
  exact ⟨o,e,fun v z=>by rw [d] at z;cases z⟩
 keep:=fun i h h' st k=>st.at fun o e=>k it (by simp) o e
 item:=by
  intro X hP hw hK hc i Ab s σ H E I hf st hg
  subst hP hw hK
  obtain⟨xs,x,hq,hx⟩:=hg
  obtain⟨its,rv,p,hz⟩:=I.list hq
  obtain⟨u,hu,ru⟩:=rv.get hx
  obtain⟨f0,f1,f2,f3,f4,f5⟩:=hf it (by simp)
  refine wpAny_pyNext_list_item st p.isList (x:=u) (by simpa using hu) fun h' st' sb=>?_
  have I1:Inv X Ab σ H { s with heap:=h' }:=I.turned (t':=s.toks) (fun b o hb e=>(sb.2 b hb).trans e) f0 f1 f3 f4 f5
  obtain⟨o,e,c,d⟩:=id st'
  exact ⟨u,rfl,V9 (s:={ s with heap:=h' }) e c d (by decide) ⟨x,H,I1,ru,⟨rfl,fun ys hy=>by rw [I.list_inj hy hq];exact hx⟩,st',fun b hb=>(hf b hb).1⟩⟩
 done:=by
  intro X hP hw hK hc i Ab s σ H E I hf st hg
  subst hP hw hK
  obtain⟨xs,hq,hx⟩:=hg
  obtain⟨its,rv,p,hz⟩:=I.list hq
  obtain⟨f0,f1,f2,f3,f4,f5⟩:=hf it (by simp)
  have hl:=rv.length
  exact wpAny_pyNext_list_end (I.ok.hd hc) st p.isList (by simp;omega) fun h' eb=>⟨rfl,I.turned (t':=s.toks) (fun b o hb e=>eb b o hb e) f0 f1 f3 f4 f5⟩
 self:=fun _ _ _ _ _ st h=>wpAny_pyIter_listiter st h
theorem Ud {P:Program}{w:World}{K:W.Frag}{tg:Expr} (a it:Addr):Turn P w K tg (Itt K a) [it] it (fun i h=>h.IsTupleIter it a i) where
 mem:=by simp
 obj:=fun i h st b hb=>by
  have e:b=it:=by simpa using hb
  subst e
  obtain⟨o,e,c,d⟩:=st
  exact ⟨o,e,fun v z=>by rw [d] at z;cases z⟩
 keep:=fun i h h' st k=>st.at fun o e=>k it (by simp) o e
 item:=by
  intro X hP hw hK hc i Ab s σ H E I hf st hg
  subst hP hw hK
  obtain⟨xs,x,hq,hx⟩:=hg
  obtain⟨its,rv,p,hz⟩:=I.tuple hq
  obtain⟨u,hu,ru⟩:=rv.get hx
  obtain⟨f0,f1,f2,f3,f4,f5⟩:=hf it (by simp)
  refine wpAny_pyNext_tuple_item st (show s.heap.IsTuple a its.toArray from p) (x:=u) (by simpa using hu) fun h' st' sb=>?_
  have I1:Inv X Ab σ H { s with heap:=h' }:=I.turned (t':=s.toks) (fun b o hb e=>(sb.2 b hb).trans e) f0 f1 f3 f4 f5
  obtain⟨o,e,c,d⟩:=id st'
  exact ⟨u,rfl,V9 (s:={ s with heap:=h' }) e c d (by decide) ⟨x,H,I1,ru,⟨rfl,fun ys hy=>by rw [I.tuple_inj hy hq];exact hx⟩,st',fun b hb=>(hf b hb).1⟩⟩
 done:=by
  intro X hP hw hK hc i Ab s σ H E I hf st hg
  subst hP hw hK
  obtain⟨xs,hq,hx⟩:=hg
  obtain⟨its,rv,p,hz⟩:=I.tuple hq
  obtain⟨f0,f1,f2,f3,f4,f5⟩:=hf it (by simp)
  have hl:=rv.length
  exact wpAny_pyNext_tuple_end (I.ok.hd hc) st (show s.heap.IsTuple a its.toArray from p) (by simp;omega) fun h' eb=>⟨rfl,I.turned (t':=s.toks) (fun b o hb e=>eb b o hb e) f0 f1 f3 f4 f5⟩
 self:=fun _ _ _ _ _ st h=>wpAny_pyIter_tupleiter st h
theorem Ue {P:Program}{w:World}{K:W.Frag}{tg:Expr} (it:Addr) (lo:Int) (n:Nat):Turn P w K tg (Itr lo n) [it] it (fun i h=>IsRangeIter h it (lo+(i:Nat)*1) ((n:Int)-(i:Nat)) 1) where
 mem:=by simp
 obj:=fun i h st b hb=>by
  have e:b=it:=by simpa using hb
  subst e
  exact ⟨_,st,fun v z=>by
   have z':Data.fields _=Data.cell v:=z
   cases z'⟩
 keep:=fun i h h' st k=>k it (by simp) _ st
 item:=by
  intro X hP hw hK hc i Ab s σ H E I hf st hg
  subst hP hw hK
  obtain⟨f0,f1,f2,f3,f4,f5⟩:=hf it (by simp)
  have W:=Walks.range (prog:=X.prog) (w:=X.w) (I.ok.hd hc) it lo 1 n
  refine W.item i s _ _ hg st fun v h' tk hv st' kk=>?_
  obtain⟨t,rfl⟩:=hv
  have I1:Inv X Ab σ H { s with heap:=h',toks:=tk }:=I.turned (fun b o hb e=>kk b o (by simpa using hb) e) f0 f1 f3 f4 f5
  refine⟨_,rfl,V9 (s:={ s with heap:=h',toks:=tk }) (n:="range_iterator") st' rfl rfl (by decide) ⟨.int (lo+i),H,I1,⟨t,?_⟩,⟨rfl,rfl⟩,st',fun b hb=>(hf b hb).1⟩⟩
  rw [Int.mul_one]
 done:=by
  intro X hP hw hK hc i Ab s σ H E I hf st hg
  subst hP hw hK
  obtain⟨f0,f1,f2,f3,f4,f5⟩:=hf it (by simp)
  exact wpAny_pyNext_range_end (I.ok.hd hc) st (by have:n<=i:=hg;omega) fun h' eb=>⟨rfl,I.turned (t':=s.toks) (fun b o hb e=>eb b o hb e) f0 f1 f3 f4 f5⟩
 self:=fun _ _ _ _ _ st h=>wpAny_pyIter_rangeiter st h
end L2
namespace L2
open PySem PySem.Spec PyProof.Rows
section
variable {X:Cx}{tg:Expr}
def p8 (K:W.Frag) (tl:TE):TI:=fun σ H R=>tl σ H fun x H1=>∃ a,x=.ref a/\(∃ xs,SqL K H1 a xs)/\R (Itl K a) H1
def iTup (K:W.Frag) (tl:TE):TI:=fun σ H R=>tl σ H fun x H1=>∃ a,x=.ref a/\(∃ xs,SqT K H1 a xs)/\R (Itt K a) H1
theorem Zh {l:Expr}{tl:TE} (hl:PE X l tl):PI X tg l (p8 X.K tl):=by
 intro Ab s σ H R I h
 refine thn (hl Ab s σ H _ I h) fun v s1 ⟨x,H1,I1,r1,q1⟩=>?_
 obtain⟨a,e,⟨xs,hq⟩,q⟩:=q1
 subst e
 cases r1
 obtain⟨its,rv,p,hz⟩:=I1.list hq
 refine wpAny_pyIter_list p.isList ?_
 refine⟨s1.heap.objs.size,[s1.heap.objs.size],_,_,H1,rfl,I1.kept (t':=s1.toks) fun b o e=>Heap.get?_push_of_some _ e,Vb a _,⟨_,Heap.get?_push_size _ rfl,rfl,rfl⟩,fun b hb=>?_,q⟩
 have e:b=s1.heap.objs.size:=by simpa using hb
 subst e
 exact I1.fpOk (Nat.le_refl _) (I1.hok.fresh (Nat.le_refl _))
theorem i6 {l:Expr}{tl:TE} (hl:PE X l tl):PI X tg l (iTup X.K tl):=by
 intro Ab s σ H R I h
 refine thn (hl Ab s σ H _ I h) fun v s1 ⟨x,H1,I1,r1,q1⟩=>?_
 obtain⟨a,e,⟨xs,hq⟩,q⟩:=q1
 subst e
 cases r1
 obtain⟨its,rv,p,hz⟩:=I1.tuple hq
 refine wpAny_pyIter_tuple (show s1.heap.IsTuple a its.toArray from p) ?_
 refine⟨s1.heap.objs.size,[s1.heap.objs.size],_,_,H1,rfl,I1.kept (t':=s1.toks) fun b o e=>Heap.get?_push_of_some _ e,Ud a _,⟨_,Heap.get?_push_size _ rfl,rfl,rfl⟩,fun b hb=>?_,q⟩
 have e:b=s1.heap.objs.size:=by simpa using hb
 subst e
 exact I1.fpOk (Nat.le_refl _) (I1.hok.fresh (Nat.le_refl _))
theorem Xp {Ab:List (Addr × Obj)}{σ:St}{H:Hp}{s:Shared}{R:It->Hp->Prop}{E:Value->Shared->Prop}{lo hi:Int}{t u v:Tok}{tk:Nat} (I:Inv X Ab σ H s) (h1:-(2 ^ 62)<=lo) (h2:lo<2 ^ 62) (h3:-(2 ^ 62)<=hi) (h4:hi<2 ^ 62)
 (q:R (Itr lo (hi-lo).toNat) H):wpAny (model X.prog X.w) X.A (pyIter (.ref s.heap.objs.size)) (PIE X Ab σ tg R) E { s with heap:=s.heap.push { cls:=.type "range",data:=.fields #[.int lo t,.int hi u,.int 1 v] },toks:=tk }:=by
 refine wpAny_pyIter_range (IsRange.new ..) (small_one h1 h2 h3 h4) ?_
 have I1:Inv X Ab σ H { s with heap:=s.heap.push { cls:=.type "range",data:=.fields #[.int lo t,.int hi u,.int 1 v] },toks:=tk }:=I.kept fun b o e=>Heap.get?_push_of_some _ e
 refine⟨(s.heap.push { cls:=.type "range",data:=.fields #[.int lo t,.int hi u,.int 1 v] }).objs.size,[(s.heap.push { cls:=.type "range",data:=.fields #[.int lo t,.int hi u,.int 1 v] }).objs.size],_,_,H,rfl,
  I1.kept (t':=tk) fun b o e=>Heap.get?_push_of_some _ e,Ue _ lo (hi-lo).toNat,?_,fun b hb=>?_,q⟩
 . have e1:lo+((0:Nat):Int)*1=lo:=by simp
   have e2:(((hi-lo).toNat:Nat):Int)-((0:Nat):Int)=Builtin.Range.rangeSize lo hi 1:=by rw [rangeSize_one];split<;>omega
   show IsRangeIter _ _ (lo+((0:Nat):Int)*1) ((((hi-lo).toNat:Nat):Int)-((0:Nat):Int)) 1
   rw [e1,e2]
   exact Heap.get?_push_size _ rfl
 . have e:b=(s.heap.push { cls:=.type "range",data:=.fields #[.int lo t,.int hi u,.int 1 v] }).objs.size:=by simpa using hb
   subst e
   exact I1.fpOk (Nat.le_refl _) (I1.hok.fresh (Nat.le_refl _))
def Aa2 (ta:TA):TI:=fun σ H R=>ta σ H fun vs H1=>∃ j:Int,vs=[.int j]/\-(2 ^ 62)<=j/\j<2 ^ 62/\R (Itr 0 j.toNat) H1
theorem Dx {a:Expr}{ta:TA}{p pos:Pos} (hg:Gl X "range") (hm:X.mg "range"=none) (ha:PA X [a] ta) (hs:starEach [a] X.env=[(false,eval a X.env)]:=by rfl):PI X tg (.Call (.Name "range" p) [a] [] pos) (Aa2 ta):=by
 intro Ab s σ H R I h
 refine Call_ (Hl I hg hm boot_range (PyProof.Rows.callWith_type1 (thn (ha pos Ab s σ H _ I h) fun us s1 ⟨vs,H1,I1,r1,q1⟩=>?_) hs rfl))
 obtain⟨j,e,q1,q2,q⟩:=q1
 subst e
 cases r1 with
 | cons r rr =>
   cases rr
   obtain⟨t,rfl⟩:=r
   exact call_range_1 (Xp I1 (by omega) (by omega) q1 q2 (by simpa using q))
def tFor (wi:TI) (g:TG) (tb:TS):TS:=fun D σ H=>wi σ H fun J H1=>∃ W:Nat->Nat->St->Hp->Prop,(∃ m,W 0 m σ H1)/\∀ i m σ H,W i m σ H →
 (J.stop i H/\D.nx σ H)\/(J.go i H/\∃ N:St->Hp->Prop,(∀ σ' H',N σ' H'->∃ m',m'<m/\W (i+1) m' σ' H')/\∀ x H',J.yld i H x H'->g x σ H' fun σ2 H2=>tb { D with nx:=N,ct:=N,bk:=D.nx } σ2 H2)
def Mn (fp:List Addr) (h:Heap):List (Addr × Obj):=fp.filterMap fun b=>(h.get? b).map fun o=>(b,o)
theorem Dt {fp:List Addr}{h:Heap}{b:Addr}{o:Obj} (hb:b∈fp) (e:h.get? b=some o):(b,o)∈Mn fp h:=List.mem_filterMap.mpr ⟨b,hb,by rw [e];rfl⟩
theorem Vw {fp:List Addr}{h:Heap}{p:Addr × Obj} (hp:p∈Mn fp h):p.1∈fp/\h.get? p.1=some p.2:=by
 obtain⟨b,hb,e⟩:=List.mem_filterMap.mp hp
 cases q:h.get? b with
 | none=>rw [q] at e;cases e
 | some o =>
   rw [q] at e
   have e':(b,o)=p:=Option.some.inj e
   subst e'
   exact ⟨hb,q⟩
theorem Inv.pinned {Ab:List (Addr × Obj)}{σ:St}{H:Hp}{s:Shared}{fp:List Addr} (I:Inv X Ab σ H s) (hf:∀ b∈fp,FpOk X Ab H b) (ho:∀ b∈fp,∃ o,s.heap.get? b=some o/\∀ v,o.data≠.cell v):Inv X (Ab++Mn fp s.heap) σ H s :=
 I.pins_of fun p hp=>(List.mem_append.mp hp).elim (fun z=>I.pin p (List.mem_append_right _ z)) fun z=>by
  obtain⟨hb,e⟩:=Vw z
  obtain⟨f0,f1,f2,_⟩:=hf p.1 hb
  obtain⟨o,e',d⟩:=ho p.1 hb
  rw [e] at e';cases e'
  exact ⟨e,f0,f1,f2,d⟩
theorem Inv.unpinned {Ab pl:List (Addr × Obj)}{σ:St}{H:Hp}{s:Shared} (I:Inv X (Ab++pl) σ H s):Inv X Ab σ H s:=I.pins_of fun p hp=>I.pin p (List.mem_append_right _ (List.mem_append_left _ hp))
theorem Ed {iter:Expr}{body:List Stmt}{wi:TI}{g:TG}{tb:TS}{pos:Pos} (hp:PassesOwn (model X.prog X.w) X.A X.env X.xe) (hc:X.calm=true) (hi:PI X tg iter wi) (hg:PG X tg g) (hb:PSs X body tb)
 (hs:∀ x,foldedSetIterable iter X.env x=pure x:=by intro _;rfl):PS X (.For tg iter body [] pos) (tFor wi g tb):=by
 intro Ab s σ H D I h
 refine wpAny_For (thn (hi Ab s σ H _ I h) fun v s1 h1=>thn h1 fun itv s2 h2=>?_) hs
 obtain⟨it,fp,tn,J,H2,e,I2,T,st2,f2,W,⟨m0,w0⟩,turn⟩:=h2
 subst e
 have stat:∀{H':Hp},(∀ b∈fp,H' b=none)->∀ b∈fp,FpOk X Ab H' b:=fun hn b hb=>⟨hn b hb,(f2 b hb).2⟩
 refine codeAny_forLoop_any (fun n s'=>∃ i σ' H',Inv X Ab σ' H' s'/\tn i s'.heap/\(∀ b∈fp,H' b=none)/\W i n σ' H') ?_ m0 ⟨0,σ,H2,I2,st2,fun b hb=>(f2 b hb).1,w0⟩
 rintro n s3 ⟨i,σ3,H3,I3,st3,fr3,w3⟩
 rcases turn i n σ3 H3 w3 with ⟨stop,qn⟩|⟨go,N,hN,step⟩
 . refine wpAny_passesOwn hp (thn (T.done X rfl rfl rfl hc i Ab s3 σ3 H3 X.xe I3 (stat fr3) st3 stop) fun r s4 ⟨hr,I4⟩=>?_)
   subst hr
   exact wpAny_execs_nil ⟨σ3,H3,I4,qn⟩
 . refine wpAny_passesOwn hp (thn (T.item X rfl rfl rfl hc i Ab s3 σ3 H3 X.xe I3 (stat fr3) st3 go) fun r s4 ⟨u,hr,h4⟩=>?_)
   subst hr
   refine wpAny_passesOwn hp (thn h4 fun _ s5 ⟨x,H5,I5,r5,y5,st5,fr5⟩=>?_)
   have I5':=I5.pinned (stat fr5) (T.obj _ _ st5)
   refine wpAny_passesOwn hp (thn (hg _ s5 σ3 H5 x u _ I5' r5 (step x H5 y5)) fun _ s6 ⟨σ6,H6,I6,q6⟩=>?_)
   refine wpAny_passesOwn hp (thn (hb _ s6 σ6 H6 _ I6 q6) fun f s7 q7=>?_)
   have again:∀{σ7:St}{H7:Hp},Inv X (Ab++Mn fp s5.heap) σ7 H7 s7->N σ7 H7->∃ m,m<n/\∃ i σ' H',Inv X Ab σ' H' s7/\tn i s7.heap/\(∀ b∈fp,H' b=none)/\W i m σ' H':=fun {σ7 H7} I7 n7=>by
    obtain⟨m',hm,w7⟩:=hN σ7 H7 n7
    refine⟨m',hm,i+1,σ7,H7,I7.unpinned,T.keep _ _ _ st5 fun b hb o e=>(I7.pin (b,o) (List.mem_append_right _ (List.mem_append_right _ (Dt hb e)))).1,fun b hb=>?_,w7⟩
    obtain⟨o,e,d⟩:=T.obj _ _ st5 b hb
    exact (I7.pin (b,o) (List.mem_append_right _ (List.mem_append_right _ (Dt hb e)))).2.1
   cases f with
   | next=>obtain⟨σ7,H7,I7,n7⟩:=q7;exact again I7 n7
   | cont=>obtain⟨σ7,H7,I7,n7⟩:=q7;exact again I7 n7
   | brk=>obtain⟨σ7,H7,I7,q7⟩:=q7;exact ⟨σ7,H7,I7.unpinned,q7⟩
   | ret v=>obtain⟨x7,σ7,H7,I7,r7,q7⟩:=q7;exact ⟨x7,σ7,H7,I7.unpinned,r7,q7⟩
end
theorem for_list {K:W.Frag}{a:Addr}{xs:List V}{g:TG}{tb:TS}{D:Ends}{σ:St}{H:Hp} (Pv:Nat->St->Hp->Prop) (h0:Pv 0 σ H) (hl:∀ i σ H,i<=xs.length->Pv i σ H->SqL K H a xs)
 (hs:∀ i x σ H,xs[i]?=some x->Pv i σ H->g x σ H fun σ2 H2=>tb { D with nx:=Pv (i+1),ct:=Pv (i+1),bk:=D.nx } σ2 H2) (hd:∀ σ H,Pv xs.length σ H->D.nx σ H) :
 ∃ W:Nat->Nat->St->Hp->Prop,(∃ m,W 0 m σ H)/\∀ i m σ H,W i m σ H →
   ((Itl K a).stop i H/\D.nx σ H)\/((Itl K a).go i H/\∃ N:St->Hp->Prop,(∀ σ' H',N σ' H'->∃ m',m'<m/\W (i+1) m' σ' H')/\∀ x H',(Itl K a).yld i H x H'->g x σ H' fun σ2 H2=>tb { D with nx:=N,ct:=N,bk:=D.nx } σ2 H2):=by
 refine⟨fun i m σ H=>m=xs.length-i/\i<=xs.length/\Pv i σ H,⟨xs.length,by simp,Nat.zero_le _,h0⟩,?_⟩
 rintro i m σ H ⟨rfl,hi,p⟩
 have q:=hl i σ H hi p
 by_cases hlt:i<xs.length
 . refine .inr ⟨⟨xs,xs[i],q,by simp [hlt]⟩,Pv (i+1),fun σ' H' p'=>⟨xs.length-(i+1),by omega,rfl,hlt,p'⟩,fun x H' y=>?_⟩
   obtain⟨e,y⟩:=y
   subst e
   exact hs i x σ _ (y xs q) p
 . have e:i=xs.length:=by omega
   subst e
   exact .inl ⟨⟨xs,q,Nat.le_refl _⟩,hd σ H p⟩
theorem Z2 {K:W.Frag}{a:Addr}{xs:List V}{g:TG}{tb:TS}{D:Ends}{σ:St}{H:Hp} (Pv:Nat->St->Hp->Prop) (h0:Pv 0 σ H) (hl:∀ i σ H,i<=xs.length->Pv i σ H->SqT K H a xs)
 (hs:∀ i x σ H,xs[i]?=some x->Pv i σ H->g x σ H fun σ2 H2=>tb { D with nx:=Pv (i+1),ct:=Pv (i+1),bk:=D.nx } σ2 H2) (hd:∀ σ H,Pv xs.length σ H->D.nx σ H) :
 ∃ W:Nat->Nat->St->Hp->Prop,(∃ m,W 0 m σ H)/\∀ i m σ H,W i m σ H →
   ((Itt K a).stop i H/\D.nx σ H)\/((Itt K a).go i H/\∃ N:St->Hp->Prop,(∀ σ' H',N σ' H'->∃ m',m'<m/\W (i+1) m' σ' H')/\∀ x H',(Itt K a).yld i H x H'->g x σ H' fun σ2 H2=>tb { D with nx:=N,ct:=N,bk:=D.nx } σ2 H2):=by
 refine⟨fun i m σ H=>m=xs.length-i/\i<=xs.length/\Pv i σ H,⟨xs.length,by simp,Nat.zero_le _,h0⟩,?_⟩
 rintro i m σ H ⟨rfl,hi,p⟩
 have q:=hl i σ H hi p
 by_cases hlt:i<xs.length
 . refine .inr ⟨⟨xs,xs[i],q,by simp [hlt]⟩,Pv (i+1),fun σ' H' p'=>⟨xs.length-(i+1),by omega,rfl,hlt,p'⟩,fun x H' y=>?_⟩
   obtain⟨e,y⟩:=y
   subst e
   exact hs i x σ _ (y xs q) p
 . have e:i=xs.length:=by omega
   subst e
   exact .inl ⟨⟨xs,q,Nat.le_refl _⟩,hd σ H p⟩
theorem Dz {lo:Int}{n:Nat}{g:TG}{tb:TS}{D:Ends}{σ:St}{H:Hp} (Pv:Nat->St->Hp->Prop) (h0:Pv 0 σ H)
 (hs:∀ i σ H,i<n->Pv i σ H->g (.int (lo+i)) σ H fun σ2 H2=>tb { D with nx:=Pv (i+1),ct:=Pv (i+1),bk:=D.nx } σ2 H2) (hd:∀ σ H,Pv n σ H->D.nx σ H) :
 ∃ W:Nat->Nat->St->Hp->Prop,(∃ m,W 0 m σ H)/\∀ i m σ H,W i m σ H →
   ((Itr lo n).stop i H/\D.nx σ H)\/((Itr lo n).go i H/\∃ N:St->Hp->Prop,(∀ σ' H',N σ' H'->∃ m',m'<m/\W (i+1) m' σ' H')/\∀ x H',(Itr lo n).yld i H x H'->g x σ H' fun σ2 H2=>tb { D with nx:=N,ct:=N,bk:=D.nx } σ2 H2):=by
 refine⟨fun i m σ H=>m=n-i/\i<=n/\Pv i σ H,⟨n,by simp,Nat.zero_le _,h0⟩,?_⟩
 rintro i m σ H ⟨rfl,hi,p⟩
 by_cases hlt:i<n
 . refine .inr ⟨hlt,Pv (i+1),fun σ' H' p'=>⟨n-(i+1),by omega,rfl,hlt,p'⟩,fun x H' y=>?_⟩
   obtain⟨e,y⟩:=y
   subst e y
   exact hs i σ _ hlt p
 . have e:i=n:=by omega
   subst e
   exact .inl ⟨Nat.le_refl _,hd σ H p⟩
end L2
namespace L2
open PySem PySem.Spec PyProof.Rows
abbrev R2:=V->V->Hp->VK->Prop
def OpR (X:Cx) (f:Value->Value->Sem Value) (r:R2):Prop :=
 ∀ (Ab:List (Addr × Obj)) (s:Shared) (σ:St) (H:Hp) (x y:V) (v u:Value) (Q:VK),Inv X Ab σ H s->RelV x v->RelV y u->r x y H Q →
   wpAny (model X.prog X.w) X.A (f v u) (EP X Ab σ Q) X.xe s
def UnR (X:Cx) (f:Value->Sem Value) (r:V->Hp->VK->Prop):Prop :=
 ∀ (Ab:List (Addr × Obj)) (s:Shared) (σ:St) (H:Hp) (x:V) (v:Value) (Q:VK),Inv X Ab σ H s->RelV x v->r x H Q →
   wpAny (model X.prog X.w) X.A (f v) (EP X Ab σ Q) X.xe s
def Eu (X:Cx) (f:Value) (r:List V->Hp->VK->Prop):Prop :=
 ∀ (Ab:List (Addr × Obj)) (s:Shared) (σ:St) (H:Hp) (xs:List V) (us:List Value) (Q:VK),Inv X Ab σ H s->Vals xs us->r xs H Q →
   wpAny (model X.prog X.w) X.A (call f us) (EP X Ab σ Q) X.xe s
def tOp (r:R2) (ta tb:TE):TE:=fun σ H Q=>ta σ H fun x H1=>tb σ H1 fun y H2=>r x y H2 Q
def tUn (r:V->Hp->VK->Prop) (ta:TE):TE:=fun σ H Q=>ta σ H fun x H1=>r x H1 Q
def rI (C:Int->Int->Prop) (g:Int->Int->V):R2:=fun x y H Q=>∃ i j,x=.int i/\y=.int j/\C i j/\Q (g i j) H
def rI0 (g:Int->Int->V):R2:=fun x y H Q=>∃ i j,x=.int i/\y=.int j/\Q (g i j) H
def rU (g:Int->V):V->Hp->VK->Prop:=fun x H Q=>∃ i,x=.int i/\Q (g i) H
section
variable {X:Cx}{a b c:Expr}{ta tb tc:TE}{pos:Pos}
theorem binT (ha:PE X a ta) (hb:PE X b tb) {Ab:List (Addr × Obj)}{s:Shared}{σ:St}{H:Hp}{R:V->V->Hp->Prop} (I:Inv X Ab σ H s)
 (h:ta σ H fun x H1=>tb σ H1 fun y H2=>R x y H2) {Q:Value->Shared->Prop}{f:Value->Value->Sem Value}
 (hf:∀ v u s2 x y H2,Inv X Ab σ H2 s2->RelV x v->RelV y u->R x y H2->wpAny (model X.prog X.w) X.A (f v u) Q X.xe s2) :
 wpAny (model X.prog X.w) X.A (eval a X.env) (fun v s₁=>wpAny (model X.prog X.w) X.A (eval b X.env) (fun u s₂=>wpAny (model X.prog X.w) X.A (f v u) Q X.xe s₂) X.xe s₁) X.xe s:=by
 refine thn (ha Ab s σ H _ I h) fun v s1 ⟨x,H1,I1,r1,q1⟩=>?_
 refine thn (hb Ab s1 σ H1 _ I1 q1) fun u s2 ⟨y,H2,I2,r2,q2⟩=>?_
 exact hf v u s2 x y H2 I2 r1 r2 q2
theorem Bh {op:Operator}{r:R2} (ho:OpR X (binaryOp op) r) (ha:PE X a ta) (hb:PE X b tb):PE X (.BinOp a op b pos) (tOp r ta tb):=by
 intro Ab s σ H Q I h
 exact wpAny_BinOp (binT ha hb I h fun v u s2 x y H2 I2 rx ry q=>ho Ab s2 σ H2 x y v u Q I2 rx ry q)
theorem Vn {op:UnaryOp}{r:V->Hp->VK->Prop} (ho:UnR X (unaryOp op) r) (ha:PE X a ta):PE X (.UnaryOp op a pos) (tUn r ta):=by
 intro Ab s σ H Q I h
 exact UnaryOp_ (thn (ha Ab s σ H _ I h) fun v s1 ⟨x,H1,I1,r1,q1⟩=>ho Ab s1 σ H1 x v Q I1 r1 q1)
theorem opI {f:Value->Value->Sem Value}{C:Int->Int->Prop}{g:Int->Int->Int}
 (rule:∀ (i j:Int) (t u:Tok) (s:Shared) (Q:Value->Shared->Prop) (E:Value->Shared->Prop),C i j->Q (.int (g i j) s.toks) { s with toks:=s.toks+1 }->wpAny (model X.prog X.w) X.A (f (.int i t) (.int j u)) Q E s) :
 OpR X f (rI C fun i j=>.int (g i j)):=by
 intro Ab s σ H x y v u Q I rx ry h
 obtain⟨i,j,rfl,rfl,hc,q⟩:=h
 obtain⟨t,rfl⟩:=rx
 obtain⟨t',rfl⟩:=ry
 exact rule i j t t' s _ _ hc ⟨.int (g i j),H,I.tok _,⟨_,rfl⟩,q⟩
theorem opI0 {f:Value->Value->Sem Value}{g:Int->Int->Int}
 (rule:∀ (i j:Int) (t u:Tok) (s:Shared) (Q:Value->Shared->Prop) (E:Value->Shared->Prop),Q (.int (g i j) s.toks) { s with toks:=s.toks+1 }->wpAny (model X.prog X.w) X.A (f (.int i t) (.int j u)) Q E s) :
 OpR X f (rI0 fun i j=>.int (g i j)):=by
 intro Ab s σ H x y v u Q I rx ry h
 obtain⟨i,j,rfl,rfl,q⟩:=h
 obtain⟨t,rfl⟩:=rx
 obtain⟨t',rfl⟩:=ry
 exact rule i j t t' s _ _ ⟨.int (g i j),H,I.tok _,⟨_,rfl⟩,q⟩
theorem opB0 {f:Value->Value->Sem Value}{g:Int->Int->Bool}
 (rule:∀ (i j:Int) (t u:Tok) (s:Shared) (Q:Value->Shared->Prop) (E:Value->Shared->Prop),Q (.bool (g i j)) s->wpAny (model X.prog X.w) X.A (f (.int i t) (.int j u)) Q E s) :
 OpR X f (rI0 fun i j=>.bl (g i j)):=by
 intro Ab s σ H x y v u Q I rx ry h
 obtain⟨i,j,rfl,rfl,q⟩:=h
 obtain⟨t,rfl⟩:=rx
 obtain⟨t',rfl⟩:=ry
 exact rule i j t t' s _ _ ⟨.bl (g i j),H,I,rfl,q⟩
def CDiv (i j:Int):Prop:=0<j/\j<1073741824
theorem Ee:OpR X (binaryOp .Add) (rI0 fun i j=>.int (i+j)):=opI0 fun _ _ _ _ _ _ _ q=>add_int q
theorem Px:OpR X (binaryOp .Sub) (rI0 fun i j=>.int (i-j)):=opI0 fun _ _ _ _ _ _ _ q=>sub_int q
theorem D7:OpR X (binaryOp .FloorDiv) (rI CDiv fun i j=>.int (i / j)):=opI fun i j _ _ _ _ _ hc q=>by
 have h1:(0:Int)<j:=hc.1
 have h2:j<1073741824:=hc.2
 exact floordiv_int (by omega) (by rw [Int.fdiv_eq_ediv_of_nonneg i (by omega)];exact q) (.inl (PyProof.noPylong_small (by omega)))
theorem Cs:OpR X (binaryOp .Mod) (rI (fun _ j=>0<j) fun i j=>.int (i%j)):=opI fun i j _ _ _ _ _ hc q=>by
 have h1:(0:Int)<j:=hc
 exact mod_int' (by omega) (by rw [Int.fmod_eq_emod_of_nonneg i (by omega)];exact q)
theorem unI {f:Value->Sem Value}{g:Int->Int}
 (rule:∀ (i:Int) (t:Tok) (s:Shared) (Q:Value->Shared->Prop) (E:Value->Shared->Prop),Q (.int (g i) s.toks) { s with toks:=s.toks+1 }->wpAny (model X.prog X.w) X.A (f (.int i t)) Q E s) :
 UnR X f (rU fun i=>.int (g i)):=by
 intro Ab s σ H x v Q I rx h
 obtain⟨i,rfl,q⟩:=h
 obtain⟨t,rfl⟩:=rx
 exact rule i t s _ _ ⟨.int (g i),H,I.tok _,⟨_,rfl⟩,q⟩
theorem O8:UnR X (unaryOp .USub) (rU fun i=>.int (-i)):=unI fun _ _ _ _ _ q=>neg_int q
end
def scal:V->V->Bool
 | .non,.non=>true | .non,.int _=>true | .int _,.non=>true | .non,.bl _=>true | .bl _,.non=>true | .non,.str _=>true | .str _,.non=>true
 | .int _,.int _=>true | .bl _,.bl _=>true | .str _,.str _=>true | .byt _,.byt _=>true
 | .int _,.str _=>true | .str _,.int _=>true | .bl _,.str _=>true | .str _,.bl _=>true
 | _,_=>false
def rEq:R2:=fun x y H Q=>scal x y=true/\Q (.bl (decide (x=y))) H
def rNe:R2:=fun x y H Q=>scal x y=true/\Q (.bl (!decide (x=y))) H
theorem Wj {i j:Int}:decide (V.int i=V.int j)=(i==j):=by
 rw [Bool.eq_iff_iff]
 simp
theorem Yy {i j:Bool}:decide (V.bl i=V.bl j)=(i==j):=by
 rw [Bool.eq_iff_iff]
 simp
theorem Wi {i j:Str}:decide (V.str i=V.str j)=(i==j):=by
 rw [Bool.eq_iff_iff]
 simp
theorem Wk {i j:Array UInt8}:decide (V.byt i=V.byt j)=(i.toList==j.toList):=by
 rw [Bool.eq_iff_iff]
 cases i
 cases j
 simp
section
variable {X:Cx}{a b c:Expr}{ta tb tc:TE}{pos:Pos}
theorem Bq {Ab:List (Addr × Obj)}{σ:St}{H:Hp}{s:Shared}{Q:VK}{k k':Bool} (I:Inv X Ab σ H s) (q:Q (.bl k) H) (e:k=k'):EP X Ab σ Q (.bool k') s:=by
 subst e
 exact ⟨.bl k,H,I,rfl,q⟩
theorem Hi:OpR X (compareOp .Eq) rEq:=by
 intro Ab s σ H x y v u Q I rx ry h
 obtain⟨hs,q⟩:=h
 cases x with
 | non =>
   cases rx
   cases y with
   | non=>cases ry;exact PySem.EqNone.eq_none_none (Bq I q (by simp))
   | bl j=>cases ry;exact PySem.EqNone.eq_none_bool (Bq I q (by simp))
   | int j=>obtain⟨t',rfl⟩:=ry;exact PySem.EqNone.eq_none_int (Bq I q (by simp))
   | str j=>obtain⟨t',rfl⟩:=ry;exact PySem.EqNone.eq_none_str (Bq I q (by simp))
   | _=>exact absurd (show false=true from hs) Bool.false_ne_true
 | bl i =>
   cases rx
   cases y with
   | non=>cases ry;exact PySem.EqNone.eq_bool_none (Bq I q (by simp))
   | bl j=>cases ry;exact eq_bool (Bq I q Yy)
   | str j=>obtain⟨t',rfl⟩:=ry;exact PySem.EqMixed.eq_bool_str (Bq I q (by simp))
   | _=>exact absurd (show false=true from hs) Bool.false_ne_true
 | int i =>
   obtain⟨t,rfl⟩:=rx
   cases y with
   | non=>cases ry;exact PySem.EqNone.eq_int_none (Bq I q (by simp))
   | int j=>obtain⟨t',rfl⟩:=ry;exact eq_int (Bq I q Wj)
   | str j=>obtain⟨t',rfl⟩:=ry;exact PySem.EqMixed.eq_int_str (Bq I q (by simp))
   | _=>exact absurd (show false=true from hs) Bool.false_ne_true
 | str i =>
   obtain⟨t,rfl⟩:=rx
   cases y with
   | non=>cases ry;exact PySem.EqNone.eq_str_none (Bq I q (by simp))
   | bl j=>cases ry;exact PySem.EqMixed.eq_str_bool (Bq I q (by simp))
   | int j=>obtain⟨t',rfl⟩:=ry;exact PySem.EqMixed.eq_str_int (Bq I q (by simp))
   | str j=>obtain⟨t',rfl⟩:=ry;exact eq_str (Bq I q Wi)
   | _=>exact absurd (show false=true from hs) Bool.false_ne_true
 | byt i =>
   obtain⟨t,rfl⟩:=rx
   cases y with
   | byt j=>obtain⟨t',rfl⟩:=ry;exact PySem.W.eq_bytes (Bq I q Wk)
   | _=>exact absurd (show false=true from hs) Bool.false_ne_true
 | _=>cases y<;>exact absurd (show false=true from hs) Bool.false_ne_true
theorem Zl:OpR X (compareOp .NotEq) rNe:=by
 intro Ab s σ H x y v u Q I rx ry h
 obtain⟨hs,q⟩:=h
 cases x with
 | non =>
   cases rx
   cases y with
   | non=>cases ry;exact PySem.EqNone.ne_none_none (Bq I q (by simp))
   | bl j=>cases ry;exact PySem.EqNone.ne_none_bool (Bq I q (by simp))
   | int j=>obtain⟨t',rfl⟩:=ry;exact PySem.EqNone.ne_none_int (Bq I q (by simp))
   | str j=>obtain⟨t',rfl⟩:=ry;exact PySem.EqNone.ne_none_str (Bq I q (by simp))
   | _=>exact absurd (show false=true from hs) Bool.false_ne_true
 | bl i =>
   cases rx
   cases y with
   | non=>cases ry;exact PySem.EqNone.ne_bool_none (Bq I q (by simp))
   | bl j=>cases ry;exact ne_bool (Bq I q (congrArg not Yy))
   | str j=>obtain⟨t',rfl⟩:=ry;exact PySem.EqMixed.ne_bool_str (Bq I q (by simp))
   | _=>exact absurd (show false=true from hs) Bool.false_ne_true
 | int i =>
   obtain⟨t,rfl⟩:=rx
   cases y with
   | non=>cases ry;exact PySem.EqNone.ne_int_none (Bq I q (by simp))
   | int j=>obtain⟨t',rfl⟩:=ry;exact ne_int (Bq I q (congrArg not Wj))
   | str j=>obtain⟨t',rfl⟩:=ry;exact PySem.EqMixed.ne_int_str (Bq I q (by simp))
   | _=>exact absurd (show false=true from hs) Bool.false_ne_true
 | str i =>
   obtain⟨t,rfl⟩:=rx
   cases y with
   | non=>cases ry;exact PySem.EqNone.ne_str_none (Bq I q (by simp))
   | bl j=>cases ry;exact PySem.EqMixed.ne_str_bool (Bq I q (by simp))
   | int j=>obtain⟨t',rfl⟩:=ry;exact PySem.EqMixed.ne_str_int (Bq I q (by simp))
   | str j=>obtain⟨t',rfl⟩:=ry;exact ne_str (Bq I q (congrArg not Wi))
   | _=>exact absurd (show false=true from hs) Bool.false_ne_true
 | byt i =>
   obtain⟨t,rfl⟩:=rx
   cases y with
   | byt j=>obtain⟨t',rfl⟩:=ry;exact PySem.W.ne_bytes (Bq I q (congrArg not Wk))
   | _=>exact absurd (show false=true from hs) Bool.false_ne_true
 | _=>cases y<;>exact absurd (show false=true from hs) Bool.false_ne_true
theorem Vu:OpR X (compareOp .Lt) (rI0 fun i j=>.bl (decide (i<j))):=opB0 fun _ _ _ _ _ _ _ q=>lt_int q
theorem j1:OpR X (compareOp .LtE) (rI0 fun i j=>.bl (decide (i<=j))):=opB0 fun _ _ _ _ _ _ _ q=>le_int q
theorem Vv:OpR X (compareOp .Gt) (rI0 fun i j=>.bl (decide (j<i))):=opB0 fun _ _ _ _ _ _ _ q=>gt_int q
theorem Vs:OpR X (compareOp .IsNot) (fun x y H Q=>y=.non/\Q (.bl (!decide (x=.non))) H):=by
 intro Ab s σ H x y v u Q I rx ry h
 obtain⟨rfl,q⟩:=h
 cases ry
 refine isnot_none_gen (Bq I q ?_)
 cases x<;>first
  | (cases rx;rfl)
  | (obtain⟨t,rfl⟩:=rx;rfl)
theorem Bp (b:Expr) {op:CmpOp} (h:op≠.In:=by decide) (h2:op≠.NotIn:=by decide):behindInMarks op b=false:=by
 have e1:(op==CmpOp.In)=false:=by cases op<;>first | rfl | exact absurd rfl h
 have e2:(op==CmpOp.NotIn)=false:=by cases op<;>first | rfl | exact absurd rfl h2
 cases b<;>simp [behindInMarks,e1,e2]
theorem Vq {op:CmpOp}{r:R2} (ho:OpR X (compareOp op) r) (ha:PE X a ta) (hb:PE X b tb) (hm:behindInMarks op b=false):PE X (.Compare a [op] [b] pos) (tOp r ta tb):=by
 intro Ab s σ H Q I h
 exact wpAny_Compare1 (binT ha hb I h fun v u s2 x y H2 I2 rx ry q=>ho Ab s2 σ H2 x y v u Q I2 rx ry q) hm
def v5 (t:TE):TT:=fun σ H Q=>t σ H fun x H'=>∃ k,x=.bl k/\Q k H'
theorem Bb {op:CmpOp}{r:R2} (ho:OpR X (compareOp op) r) (ha:PE X a ta) (hb:PE X b tb) (hm:behindInMarks op b=false):PT X (.Compare a [op] [b] pos) (v5 (tOp r ta tb)):=by
 intro Ab s σ H Q I h
 refine wpAny_isTrue_Compare1 (thn (ha Ab s σ H _ I h) fun v s1 ⟨x,H1,I1,r1,q1⟩=>thn (hb Ab s1 σ H1 _ I1 q1) fun u s2 ⟨y,H2,I2,r2,q2⟩ =>
  thn (ho Ab s2 σ H2 x y v u _ I2 r1 r2 q2) fun c s3 ⟨z,H3,I3,r3,k,e,q3⟩=>?_) hm
 subst e
 cases r3
 exact wpAny_truthy_bool ⟨H3,I3,q3⟩
def d4 (r r':R2) (ta tb tc:TE):TE:=fun σ H Q=>ta σ H fun x H1=>tb σ H1 fun y H2=>r x y H2 fun z H3=>∃ k,z=.bl k ∧
 (if k=true then tc σ H3 fun w' H4=>r' y w' H4 Q else Q (.bl false) H3)
theorem Xv {op op':CmpOp}{r r':R2} (ho:OpR X (compareOp op) r) (ho':OpR X (compareOp op') r') (ha:PE X a ta) (hb:PE X b tb) (hc:PE X c tc)
 (hm:lastMarks [op,op'] [b,c]=false:=by with_unfolding_all rfl):PE X (.Compare a [op,op'] [b,c] pos) (d4 r r' ta tb tc):=by
 intro Ab s σ H Q I h
 refine Compare_chain (thn (ha Ab s σ H _ I h) fun v s1 ⟨x,H1,I1,r1,q1⟩=>chain_link (thn (hb Ab s1 σ H1 _ I1 q1) fun u s2 ⟨y,H2,I2,r2,q2⟩ =>
  thn (ho Ab s2 σ H2 x y v u _ I2 r1 r2 q2) fun d s3 ⟨z,H3,I3,r3,k,e,q3⟩=>?_)) hm
 subst e
 cases r3
 refine wpAny_truthy_bool ?_
 cases k with
 | false=>exact ite_ff ⟨.bl false,H3,I3,rfl,q3⟩
 | true=>exact ite_tt (chain_last (thn (hc Ab s3 σ H3 _ I3 q3) fun w' s4 ⟨z',H4,I4,r4,q4⟩=>ho' Ab s4 σ H4 y z' u w' Q I4 r2 r4 q4))
theorem V1:(sizeLine:Nat)<2 ^ 63:=by rw [sizeLine_eq];decide
theorem Lo {x:V}{us:List Value} (r:Vals [x] us):∃ u,us=[u]/\RelV x u:=by
 cases r with
 | cons r1 r2=>cases r2;exact ⟨_,rfl,r1⟩
theorem Xk {x y:V}{us:List Value} (r:Vals [x,y] us):∃ u w',us=[u,w']/\RelV x u/\RelV y w':=by
 cases r with
 | cons r1 r2 =>
   cases r2 with
   | cons r3 r4=>cases r4;exact ⟨_,_,rfl,r1,r3⟩
theorem Rj (hc:X.calm=true):Eu X (.builtin "max") (fun xs H Q=>∃ i j,xs=[.int i,.int j]/\Q (.int (if j > i then j else i)) H):=by
 intro Ab s σ H xs us Q I r h
 obtain⟨i,j,rfl,q⟩:=h
 obtain⟨u,w',rfl,⟨t,rfl⟩,⟨t',rfl⟩⟩:=Xk r
 refine max_two_ints (I.ok.hd hc) fun h' tk k=>⟨_,H,I.kept k,?_,q⟩
 by_cases hj:j > i
 . rw [if_pos hj,if_pos hj];exact ⟨_,rfl⟩
 . rw [if_neg hj,if_neg hj];exact ⟨_,rfl⟩
theorem Wx (hc:X.calm=true):Eu X (.builtin "min") (fun xs H Q=>∃ i j,xs=[.int i,.int j]/\Q (.int (if j<i then j else i)) H):=by
 intro Ab s σ H xs us Q I r h
 obtain⟨i,j,rfl,q⟩:=h
 obtain⟨u,w',rfl,⟨t,rfl⟩,⟨t',rfl⟩⟩:=Xk r
 refine min_two_ints (I.ok.hd hc) fun h' tk k=>⟨_,H,I.kept k,?_,q⟩
 by_cases hj:j<i
 . rw [if_pos hj,if_pos hj];exact ⟨_,rfl⟩
 . rw [if_neg hj,if_neg hj];exact ⟨_,rfl⟩
theorem Wy:Eu X (.type "int") (fun xs H Q=>(∃ i,xs=[.int i]/\Q (.int i) H)\/∃ k,xs=[.bl k]/\Q (.int (if k then 1 else 0)) H):=by
 intro Ab s σ H xs us Q I r h
 rcases h with ⟨i,rfl,q⟩|⟨k,rfl,q⟩
 . obtain⟨u,rfl,t,rfl⟩:=Lo r
   exact call_int_int ⟨.int i,H,I,⟨_,rfl⟩,q⟩
 . obtain⟨u,rfl,r1⟩:=Lo r
   cases r1
   exact call_int_bool ⟨.int (if k then 1 else 0),H,I.tok _,⟨_,rfl⟩,q⟩
end
end L2
namespace L2
open PySem PySem.Spec PyProof.Rows
section
variable {prog:Program}{w:World}{A:Around}{E:Value->Shared->Prop}{s:Shared}{K:W.Frag}{x dx C f:Addr}{mA:Str->Option Value}{name:Str}{v:Value}
end
theorem RelO.some_of {v:V}{o:Option Value} (r:RelO (some v) o):∃ u,o=some u/\RelV v u:=by
 cases o with
 | none=>exact (show False from r).elim
 | some u=>exact ⟨u,rfl,r⟩
section
variable {P:Program}{w:World}{H H':Hp}{h h':Heap}{a C dx:Addr}{fs fs':List (Str × V)}
end
section
variable {X:Cx}{Ab:List (Addr × Obj)}{σ:St}{H:Hp}{s:Shared}{a C dx:Addr}{fs:List (Str × V)}{f:Str}{v:V}{A:Around}{E:Value->Shared->Prop}
end
section
variable {X:Cx}{o e value:Expr}{f:Str}{pos pos' tpos:Pos}{ta tv:TE}
end
section
variable {X:Cx}{Ab:List (Addr × Obj)}{σ:St}{H:Hp}{s:Shared}{A:Around}{E:Value->Shared->Prop}{Q:Value->Shared->Prop}{c:Value}{b:Bool}
end
end L2
namespace L2
open PySem PySem.Spec PyProof.Rows
structure Room (k:Nat) (A:Around):Prop where
 hd:A.handled=none
 dp:A.depth+3*k+5<recursionLimit
 un:A.units+16*k+200<cLine
 gd:A.guards=some []
theorem Room.mono {j k:Nat}{A:Around} (r:Room k A) (h:j<=k):Room j A:=⟨r.hd,by have:=r.dp;omega,by have:=r.un;omega,r.gd⟩
theorem Room.deeper {k:Nat}{A:Around} (r:Room (k+1) A) (env:Env):Room k (A.deeper env) :=
 ⟨r.hd,by have:=r.dp;show A.depth+1+3*k+5<_;omega,by have:=r.un;show A.units+3+16*k+200<_;omega,r.gd⟩
theorem Room.depth {k:Nat}{A:Around} (r:Room k A):A.depth<recursionLimit:=by have:=r.dp;omega
theorem Room.units {k:Nat}{A:Around} (r:Room k A):A.units+64<cLine:=by have:=r.un;omega
def tNil:TA:=fun _ H Q=>Q [] H
def x6 (ta:TE) (tr:TA):TA:=fun σ H Q=>ta σ H fun x H1=>tr σ H1 fun xs H2=>Q (x::xs) H2
section
variable {X:Cx}{e:Expr}{es:List Expr}{te:TE}{t:TA}{pos:Pos}
theorem Ae:PA X [] tNil:=fun _ _ _ _ H Q I h=>Calls.spliced_nil ⟨[],H,I,.nil,h⟩
theorem Aa (ha:PE X e te) (hr:PA X es t) (hs:starEach (e::es) X.env=(false,eval e X.env)::starEach es X.env:=by rfl):PA X (e::es) (x6 te t):=by
 intro pos Ab s σ H Q I h
 rw [hs]
 show wpAny _ _ (spliced ((false,eval e X.env)::backTo pos (starEach es X.env))) _ _ s
 refine Calls.spliced_cons (thn (ha Ab s σ H _ I h) fun u s1 ⟨x,H1,I1,r1,q1⟩=>?_)
 exact thn (hr pos Ab s1 σ H1 _ I1 q1) fun us s2 ⟨xs,H2,I2,r2,q2⟩=>⟨x::xs,H2,I2,.cons r1 r2,q2⟩
def tTup (t:TA):TE:=fun σ H Q=>t σ H fun xs H1=>xs.length<=sizeLine/\∀ p,H1 p=none->Q (.ref p) (upd H1 p (.tup xs))
def tLst (t:TA):TE:=fun σ H Q=>t σ H fun xs H1=>xs.length<=sizeLine/\∀ p,H1 p=none->Q (.ref p) (upd H1 p (.lst xs))
theorem B6 {x1} (h:PA X es t):PE X (.Tuple es x1 pos) (tTup t):=by
 intro Ab s σ H Q I hq
 refine wpAny_Tuple_spliced (thn (h pos Ab s σ H _ I hq) fun us s1 ⟨xs,H1,I1,r,z,q⟩=>⟨by rw [←r.length];exact z,?_⟩)
 have hf:H1 s1.heap.objs.size=none:=I1.hok.fresh (Nat.le_refl _)
 refine⟨.ref s1.heap.objs.size,upd H1 s1.heap.objs.size (.tup xs),I1.laid (t':=s1.toks) (fun b u e=>Heap.get?_push_of_some _ e) (Nat.le_refl _) ?_,rfl,q _ hf⟩
 exact ⟨z,us,r,⟨_,Heap.get?_push_size _ rfl,rfl,rfl,_,rfl⟩⟩
theorem Ch (h:PA X es t):PE X (.List es pos) (tLst t):=by
 intro Ab s σ H Q I hq
 refine wpAny_List_spliced (thn (h pos Ab s σ H _ I hq) fun us s1 ⟨xs,H1,I1,r,z,q⟩=>⟨by rw [←r.length];exact z,?_⟩)
 have hf:H1 s1.heap.objs.size=none:=I1.hok.fresh (Nat.le_refl _)
 refine⟨.ref s1.heap.objs.size,upd H1 s1.heap.objs.size (.lst xs),I1.laid (t':=s1.toks) (fun b u e=>Heap.get?_push_of_some _ e) (Nat.le_refl _) ?_,rfl,q _ hf⟩
 exact ⟨z,us,0,r,Heap.get?_push_size _ rfl⟩
end
abbrev Sp:=List V->Hp->VK->XK->Prop
abbrev CXT:=List Env->Hp->Shared->XK->Value->Shared->Prop
structure Env0 (P:Program) (w:World) (K:W.Frag) (mg:Str->Option Value) (base:Heap) (A:Around) (outer:List Env) (s:Shared) (H:Hp):Prop where
 frames:A.frames=some outer
 mod:Mod K mg base
 bs:∀ b o,base.get? b=some o->s.heap.get? b=some o/\H b=none
 bsz:base.objs.size<=s.heap.objs.size
 funs:s.heap.FunFrames base outer
 frf:∀ b∈frs outer,H b=none
 hok:HOk P w H s.heap
 bare:AllBare s.gens
def CE (outer:List Env) (P:Program) (w:World) (H:Hp) (s:Shared) (Q:VK) (u:Value) (s':Shared):Prop :=
 ∃ v H',s'.os=s.os/\AllBare s'.gens/\Un (frs outer) [] H H' s.heap s'.heap/\HOk P w H' s'.heap/\RelV v u/\Q v H'
def CR (CX:CXT) (outer:List Env) (P:Program) (w:World) (H:Hp) (s:Shared) (Q:VK) (E:XK) (r:Result) (s':Shared):Prop :=
 match r with
 | .ok (.ret u)=>CE outer P w H s Q u s'
 | .ok _=>False
 | .error e=>CX outer H s E e s'
structure FnOk (P:Program) (w:World) (K:W.Frag) (mg:Str->Option Value) (base:Heap) (CX:CXT) (k:Nat) (f:Addr) (fd:FuncData) (ps:List Str) (sp:Sp):Prop where
 len:∀ vs H Q E,sp vs H Q E->vs.length=ps.length
 run:∀ (A:Around) (outer:List Env) (s:Shared) (H:Hp) (args:Args) (us:List Value) (vs:List V) (Q:VK) (E:XK),Room k A->Env0 P w K mg base A outer s H->BindsTo s fd args (ps.zip us)->Vals vs us->sp vs H Q E →
  codeAny (model P w) A (.call (.ref f) args) (CR CX outer P w H s Q E) s
section
variable {X:Cx}{Ab:List (Addr × Obj)}{σ:St}{H:Hp}{s s':Shared}
theorem Inv.env0 (I:Inv X Ab σ H s):Env0 X.prog X.w X.K X.mg X.base X.A X.stack s H :=
 ⟨I.ok.frames,I.ok.mod,I.bs,Nat.le_trans I.ok.bsz I.sz,I.stack,I.stkFree,I.hok,I.bare⟩
theorem Inv.after {Q:VK}{u:Value} (I:Inv X Ab σ H s) (h:CE X.stack X.prog X.w H s Q u s'):EP X Ab σ Q u s':=by
 obtain⟨v,H',os,bare,un,hok,r,q⟩:=h
 obtain⟨hh,g,d,t,os'⟩:=s'
 obtain rfl:os'=s.os:=os
 exact ⟨v,H',I.call (h':=hh) (g':=g) (d':=d) (t':=t) (ch:=[]) un hok bare (fun b z=>absurd z (by simp)),r,q⟩
end
def tCall (sp:Sp) (dvs:List V) (E:XK) (t:TA):TE:=fun σ H Q=>t σ H fun vs H1=>sp (vs++dvs) H1 Q E
def O5 (K:W.Frag) (fd:FuncData) (ps:List Str) (ds:List Value):Prop :=
 ∀ (s:Shared) (us:List Value),K.In s.heap->(us++ds).length=ps.length->BindsTo s fd ⟨us,[]⟩ (ps.zip (us++ds))
theorem O5.all {K:W.Frag}{fd:FuncData}{ps:List Str} (h:∀ us:List Value,us.length=ps.length->bindArgs fd ⟨us,[]⟩=pure (ps.zip us)):O5 K fd ps []:=fun s us _ hl=>by
 rw [List.append_nil] at hl ⊢
 exact .of_eq (h us hl)
def Xd (CX:CXT) (X:Cx) (E:XK):Prop:=∀ (Ab:List (Addr × Obj)) (σ:St) (H:Hp) (s:Shared) (e:Value) (s':Shared),Inv X Ab σ H s->CX X.stack H s E e s'->X.xe e s'
section
variable {X:Cx}{CX:CXT}{k:Nat}{f C:Addr}{fd:FuncData}{ps:List Str}{sp:Sp}{dvs:List V}{ds:List Value}{E:XK}{x m:Str}{p pos apos:Pos}{e o:Expr}{es:List Expr}{ta:TE}{t:TA}
theorem e7 {Ab:List (Addr × Obj)}{σ:St}{H:Hp}{s:Shared}{Q:VK}{us:List Value}{vs:List V} (F:FnOk X.prog X.w X.K X.mg X.base CX k f fd ps sp) (hr:Room k X.A) (hb:O5 X.K fd ps ds) (hd:Vals dvs ds) (hx:Xd CX X E)
 (I:Inv X Ab σ H s) (r:Vals vs us) (h:sp (vs++dvs) H Q E):wpAny (model X.prog X.w) X.A (call (.ref f) us) (EP X Ab σ Q) X.xe s:=by
 have r2:Vals (vs++dvs) (us++ds):=r.append hd
 have hl:(us++ds).length=ps.length:=by rw [←r2.length];exact F.len _ _ _ _ h
 refine wpAny_call (codeAny_mono (F.run X.A X.stack s H ⟨us,[]⟩ (us++ds) (vs++dvs) Q E hr I.env0 (hb s us I.kIn hl) r2 h) fun r s' hq=>?_)
 cases r with
 | error e=>exact hx Ab σ H s e s' I hq
 | ok fl =>
   cases fl with
   | ret u=>exact I.after hq
   | next=>exact False.elim hq
   | brk=>exact False.elim hq
   | cont=>exact False.elim hq
theorem Zj (F:FnOk X.prog X.w X.K X.mg X.base CX k f fd ps sp) (hr:Room k X.A) (hg:Gl X x) (hm:X.mg x=some (.ref f)) (hk:PySem.W.keepIn X.K (.ref f)=true) (hb:O5 X.K fd ps ds) (hd:Vals dvs ds) (hx:Xd CX X E)
 (ha:PA X (e::es) t) (hdb:(x==("__debug__":Str))=false:=by decide) (he:starEach (e::es) X.env=(false,eval e X.env)::starEach es X.env:=by rfl) (hpl:(backTo pos (starEach es X.env)).any (·.1)=false:=by rfl) :
 PE X (.Call (.Name x p) (e::es) [] pos) (tCall sp dvs E t):=by
 intro Ab s σ H Q I h
 refine wpAny_Call_Name_kw (Iy I hg hm ?_ hdb)
 refine PySem.W.callWith_K (h₀:=X.base) I.ok.mod.kin hk (thn (ha pos Ab s σ H _ I h) fun us s1 ⟨vs,H1,I1,r,q⟩=>⟨I1.kIn,?_⟩) he hpl
 exact e7 F hr hb hd hx I1 r q
end
section
variable {X:Cx}{CX:CXT}{k:Nat}{f C:Addr}{fd:FuncData}{ps ks:List Str}{sp:Sp}{E:XK}{x m:Str}{p pos apos kpos:Pos}{e o:Expr}{es:List Expr}{kws:List Keyword}{te ta:TE}{t tk:TA}{nm:Option Str}
variable {g:List Value->List Value->List Value}{gV:List V->List V->List V}
end
structure FnScope (N P:List Str) (sc:Scope):Prop where
 kind:sc.kind=.function
 co:sc.isCoroutine=false
 gen:sc.isGenerator=false
 nd:N.Nodup
 pre:N.take P.length=P
 par:∀ x∈P,sc.names.lookup x=some .local\/sc.names.lookup x=some .cell
 nofree:∀ y∈sc.names,y.2≠.free
theorem Ro {kindOf:Str->Option NameKind}{x:Str}:∀{binds:List (Str × Value)}{m:Str->Option Value},(∀ v,(x,v) ∉ binds)->bindL kindOf binds m x=m x
 | [],_,_=>rfl
 | (n,v)::r,m,h=>by
   unfold bindL
   rw [Ro fun w hw=>h w (List.mem_cons_of_mem _ hw)]
   split
   . have:x≠n:=by rintro rfl;exact h v List.mem_cons_self
     simp [this]
   . rfl
theorem Rq {kindOf:Str->Option NameKind}{x:Str}:∀{binds:List (Str × Value)}{m:Str->Option Value},(∀ v,(x,v) ∉ binds)->bindC kindOf binds m x=m x
 | [],_,_=>rfl
 | (n,v)::r,m,h=>by
   unfold bindC
   rw [Rq fun w hw=>h w (List.mem_cons_of_mem _ hw)]
   split
   . rfl
   . have:x≠n:=by rintro rfl;exact h v List.mem_cons_self
     simp [this]
theorem Rp {kindOf:Str->Option NameKind}{x:Str}{v:Value}:∀{P:List Str}{vs:List Value}{i:Nat}{m:Str->Option Value},P.Nodup->P[i]?=some x->vs[i]?=some v->kindOf x=some .local →
 bindL kindOf (P.zip vs) m x=some v
 | [],_,_,_,_,h,_,_=>by simp at h
 | _::_,[],_,_,_,_,h,_=>by simp at h
 | p::P,w::vs,0,m,nd,h1,h2,hk=>by
   simp at h1 h2;subst h1;subst h2
   show bindL kindOf ((p,w)::P.zip vs) m p=_
   unfold bindL
   rw [Ro fun v hv=>(List.nodup_cons.mp nd).1 (List.of_mem_zip hv).1,if_pos hk]
   simp
 | p::P,w::vs,i+1,m,nd,h1,h2,hk=>by
   show bindL kindOf ((p,w)::P.zip vs) m x=_
   unfold bindL
   exact Rp (i:=i) (List.nodup_cons.mp nd).2 (by simpa using h1) (by simpa using h2) hk
theorem Rr {kindOf:Str->Option NameKind}{x:Str}{v:Value}:∀{P:List Str}{vs:List Value}{i:Nat}{m:Str->Option Value},P.Nodup->P[i]?=some x->vs[i]?=some v->kindOf x≠some .local →
 bindC kindOf (P.zip vs) m x=some v
 | [],_,_,_,_,h,_,_=>by simp at h
 | _::_,[],_,_,_,_,h,_=>by simp at h
 | p::P,w::vs,0,m,nd,h1,h2,hk=>by
   simp at h1 h2;subst h1;subst h2
   show bindC kindOf ((p,w)::P.zip vs) m p=_
   unfold bindC
   rw [Rq fun v hv=>(List.nodup_cons.mp nd).1 (List.of_mem_zip hv).1,if_neg hk]
   simp
 | p::P,w::vs,i+1,m,nd,h1,h2,hk=>by
   show bindC kindOf ((p,w)::P.zip vs) m x=_
   unfold bindC
   exact Rr (i:=i) (List.nodup_cons.mp nd).2 (by simpa using h1) (by simpa using h2) hk
def start (N:List Str) (vs:List V):St:=vs.map some++List.replicate (N.length-vs.length) none
def cxOf (CX:CXT) (P:Program) (w:World) (K:W.Frag) (mg:Str->Option Value) (base:Heap) (N:List Str) (qual:Str) (scope:Scope) (f:Addr) (cd:Value) (A:Around) (outer:List Env) (s:Shared) (H:Hp) (E:XK):Cx where
 prog:=P
 w:=w
 K:=K
 mg:=mg
 base:=base
 A:=A.deeper (envOfC qual scope s.heap.objs.size f cd)
 N:=N
 s₀:=s
 H₀:=H
 env:=envOfC qual scope s.heap.objs.size f cd
 outer:=outer
 stack:=envOfC qual scope s.heap.objs.size f cd::outer
 ex:=[]
 calm:=true
 fn:=fun _=>true
 pn:=[]
 xe:=fun e s'=>wpAny (model P w) (A.deeper (envOfC qual scope s.heap.objs.size f cd)) (leaving (envOfC qual scope s.heap.objs.size f cd) e) (fun _ s''=>CX outer H s E e s'') (fun e' s''=>CX outer H s E e' s'') s'
theorem T8 {sc:Scope}{n:Nat}{x:Str} (h:sc.names.lookup x=some .cell):∃ c,(cellsFrom n sc.names []).lookup x=some c:=by
 have q:=PySem.W.cellsFrom_some sc.names n [] (.inl h)
 exact Option.isSome_iff_exists.mp q
theorem Qx {CX:CXT}{P:Program}{w:World}{K:W.Frag}{mg:Str->Option Value}{base:Heap}{N ps:List Str}{qual:Str}{scope:Scope}{f:Addr}{cd:Value}{A:Around}{outer:List Env}{s s1:Shared}{H:Hp}{E:XK}{us:List Value}{vs:List V}
 (S:FnScope N ps scope) (hd:A.handled=none) (e0:Env0 P w K mg base A outer s H) (hl:vs.length=ps.length) (r:Vals vs us)
 (x:InCallC s s.heap.objs.size (bindL (envOfC qual scope s.heap.objs.size f cd).kindOf (ps.zip us) fun _=>none) (cellsFrom (s.heap.objs.size+1) scope.names []) (bindC (envOfC qual scope s.heap.objs.size f cd).kindOf (ps.zip us) fun _=>none) s1) :
 Inv (cxOf CX P w K mg base N qual scope f cd A outer s H E) [] (start N vs) H s1:=by
 have hpl:ps.length<=N.length:=by have:=congrArg List.length S.pre;rw [List.length_take] at this;omega
 obtain⟨h1,tk,rfl,hk⟩:=x.done
 have noA:∀ b:Addr,b ∉ (cxOf CX P w K mg base N qual scope f cd A outer s H E).ex:=fun b z=>absurd (show b∈([]:List Addr) from z) (by simp)
 refine⟨⟨e0.mod,S.kind,rfl,rfl,Nat.le_refl _,fun y z c h1 h2=>?_,fun y hy=>?_,fun y c _ h=>?_,fun _=>hd,Around.frames_deeper e0.frames,.inr ⟨rfl,rfl⟩,fun b z=>absurd z (noA b),e0.bs,e0.bsz,fun b _ _=>noA b,fun b z=>absurd z (noA b),e0.funs,e0.frf⟩,
  rfl,e0.bare,Un.kept hk,⟨_,x.toInCall.ns,fun i y v h1 h2 h3=>?_⟩,fun y c h=>⟨_,x.cell y c h⟩,e0.hok.fresh (Nat.le_refl _),fun y c h=>?_,fun p hp=>absurd (show p∈([]:List (Addr × Obj)) from hp) (by simp),e0.hok.kept hk,?_⟩
 . exact name_of_addr x.apart (PySem.mem_of_lookup h1) (PySem.mem_of_lookup h2)
 . have hy:scope.names.lookup y=some .cell\/scope.names.lookup y=some .free:=hy
   rcases hy with hy | hy
   . exact T8 hy
   . exact absurd rfl (S.nofree _ (PySem.mem_of_lookup hy))
 . exact Nat.le_of_lt (x.above y c (PySem.mem_of_lookup h))
 . have hi:i<vs.length:=by
    unfold start at h2
    by_cases hi:i<vs.length
    . exact hi
    . rw [List.getElem?_append_right (by simpa using hi)] at h2
      rw [List.getElem?_replicate] at h2
      split at h2<;>cases h2
   have ha:vs[i]?=some v:=by
    unfold start at h2
    rw [List.getElem?_append_left (by simpa using hi),List.getElem?_map] at h2
    cases e:vs[i]? with
    | none=>rw [e] at h2;cases h2
    | some a=>rw [e] at h2;cases h2;rfl
   obtain⟨u,hu,rv⟩:=r.get ha
   have hp:ps[i]?=some y:=by
    rw [←S.pre,List.getElem?_take_of_lt (by omega)];exact h1
   have ndP:ps.Nodup:=by rw [←S.pre];exact S.nd.sublist (List.take_sublist _ _)
   refine⟨u,rv,?_⟩
   rcases S.par y (List.mem_of_getElem? hp) with k | k
   . exact .inl ⟨k,Rp ndP hp hu k⟩
   . obtain⟨c,e⟩:=T8 (n:=s.heap.objs.size+1) k
     refine .inr ⟨.inl k,c,e,?_⟩
     have q:=x.cell y c e
     rw [Rr ndP hp hu (by show scope.names.lookup y≠_;rw [k];decide)] at q
     exact q
 . exact e0.hok.fresh (Nat.le_of_lt (x.above y c (PySem.mem_of_lookup h)))
 . unfold start
   show _=N.length
   rw [List.length_append,List.length_map,List.length_replicate]
   omega
theorem q9 {CX:CXT}{P:Program}{w:World}{K:W.Frag}{mg:Str->Option Value}{base:Heap}{k:Nat}{f:Addr}{name qual:Str}{params:Arguments}{body:List Stmt}{scope:Scope}{dV kV doc pm Cf ct oc:Value}{an od:Option Addr}
 {osl:Array (Option Value)}{N ps:List Str}{sp:Sp} (lk:K.lookup f=some ⟨oc,od,.func (PySem.W.fnOf name qual params body scope dV kV doc pm an Cf ct),osl⟩) (hcd:PySem.W.codeIn K Cf qual=true) (S:FnScope N ps scope)
 (len:∀ vs H Q E,sp vs H Q E->vs.length=ps.length)
 (hbody:∀ (A:Around) (outer:List Env) (s:Shared) (H:Hp) (vs:List V) (Q:VK) (E:XK),Room k (A.deeper (envOfC qual scope s.heap.objs.size f Cf))->sp vs H Q E →
   ∃ t,PSs (cxOf CX P w K mg base N qual scope f Cf A outer s H E) body t/\t { nx:=fun _ H'=>Q .non H',rt:=Q } (start N vs) H) :
 FnOk P w K mg base CX (k+1) f (PySem.W.fnOf name qual params body scope dV kV doc pm an Cf ct) ps sp:=by
 refine⟨len,fun A outer s H args us vs Q E hr e0 hb r hsp=>?_⟩
 have hl:=len _ _ _ _ hsp
 have KX:K.In s.heap:=e0.mod.kin.keeps fun b o e=>(e0.bs b o e).1
 have lim:s.heap.NoLimit:=e0.mod.nolimit.keeps fun b o e=>(e0.bs b o e).1
 have hkind:∀ y∈ps.zip us,scope.names.lookup y.1=some .local\/(scope.names.lookup y.1=some .cell/\((cellsFrom (s.heap.objs.size+1) scope.names []).lookup y.1).isSome=true):=fun ⟨n,v⟩ hy=>by
  rcases S.par n (List.of_mem_zip hy).1 with q | q
  . exact .inl q
  . exact .inr ⟨q,PySem.W.cellsFrom_some _ _ _ (.inl q)⟩
 refine codeAny_call_function hr.depth (KX _ _ lk) rfl S.co S.gen rfl (PySem.W.codeRec_of KX hcd) (hb _ _ _ _ ?_)
 refine wpAny_newFunctionEnv_cells S.kind hkind fun env he s1 x=>?_
 subst he
 refine⟨lim.keeps x.toInCall.keep,codeAny_func ?_⟩
 obtain⟨t,ht,hq⟩:=hbody A outer s H vs Q E (hr.deeper _) hsp
 have I:Inv (cxOf CX P w K mg base N qual scope f Cf A outer s H E) [] (start N vs) H s1:=Qx S hr.hd e0 hl r x
 refine wpAny_mono (ht [] s1 (start N vs) H _ I hq) (fun fl s' hs=>?_) fun e s' hs=>hs
 have fin:∀{σ':St}{H':Hp}{v:V}{u:Value},Inv (cxOf CX P w K mg base N qual scope f Cf A outer s H E) [] σ' H' s'->RelV v u->Q v H'->CE outer P w H s Q u s' :=
  fun {σ' H' v u} J rv q=>⟨v,H',J.os,J.bare,J.base,J.hok,rv,q⟩
 cases fl with
 | ret u =>
   obtain⟨v,σ',H',J,rv,q⟩:=hs
   exact fin J rv q
 | next =>
   obtain⟨σ',H',J,q⟩:=hs
   exact fin (v:=V.non) (u:=Value.none) J rfl q
 | brk =>
   obtain⟨_,_,_,q⟩:=hs
   exact False.elim q
 | cont =>
   obtain⟨_,_,_,q⟩:=hs
   exact False.elim q
end L2
namespace L2
open PySem PySem.Spec PyProof.Rows
section
variable {X:Cx}{x:Str}{p pos:Pos}{e:Expr}{es:List Expr}{t:TA}{id T:String}{r:List V->Hp->VK->Prop}
def tCB (r:List V->Hp->VK->Prop) (t:TA):TE:=fun σ H Q=>t σ H fun vs H1=>r vs H1 Q
theorem Ak (hc:Eu X (.builtin id) r) (hg:Gl X x) (hm:X.mg x=none) (hv:bootBuiltins x=some (.builtin id)) (ha:PA X (e::es) t) (hn:x≠"__name__":=by decide) (hdb:(x==("__debug__":Str))=false:=by decide)
 (he:starEach (e::es) X.env=(false,eval e X.env)::starEach es X.env:=by rfl) (hpl:(backTo pos (starEach es X.env)).any (·.1)=false:=by rfl):PE X (.Call (.Name x p) (e::es) [] pos) (tCB r t):=by
 intro Ab s σ H Q I h
 refine wpAny_Call_Name_kw (Hl I hg hm hv ?_ hn hdb)
 exact PyProof.Rows.callWith_builtin1 (thn (ha pos Ab s σ H _ I h) fun us s1 ⟨vs,H1,I1,r1,q1⟩=>hc Ab s1 σ H1 vs us Q I1 r1 q1) he hpl
theorem B8 (hc:Eu X (.type T) r) (hg:Gl X x) (hm:X.mg x=none) (hv:bootBuiltins x=some (.type T)) (ha:PA X (e::es) t) (hn:x≠"__name__":=by decide) (hdb:(x==("__debug__":Str))=false:=by decide)
 (he:starEach (e::es) X.env=(false,eval e X.env)::starEach es X.env:=by rfl) (hpl:(backTo pos (starEach es X.env)).any (·.1)=false:=by rfl):PE X (.Call (.Name x p) (e::es) [] pos) (tCB r t):=by
 intro Ab s σ H Q I h
 refine wpAny_Call_Name_kw (Hl I hg hm hv ?_ hn hdb)
 exact PyProof.Rows.callWith_type1 (thn (ha pos Ab s σ H _ I h) fun us s1 ⟨vs,H1,I1,r1,q1⟩=>hc Ab s1 σ H1 vs us Q I1 r1 q1) he hpl
end
end L2
namespace HT
open PySem PyProof.Rows
section
open PySem.SeqAt
open PySem.AutoSeq1 (wpAny_loadPart')
open PySem.MeetsSeq PySem.MeetsSeq2 PySem.MeetsSeq3
end
section
variable {prog:Program}{w:World}{A:Around}{E:Value->Shared->Prop}{s:Shared}
theorem cat_tup {t b:Addr}{vs ws:List Value}{Q:Value->Shared->Prop} (ht:IsTup s.heap t vs.toArray) (hb:IsTup s.heap b ws.toArray) (hv:vs≠[])
 (h1:ws=[]->Q (.ref t) s) (h2:ws≠[]->Q (.ref s.heap.objs.size) { s with heap:=s.heap.push { cls:=.type "tuple",data:=.seq (vs++ws).toArray } })
 (hsz:vs.length+ws.length<=sizeLine):wpAny (model prog w) A (binaryOp .Add (.ref t) (.ref b)) Q E s:=by
 obtain⟨⟨cls,dd,data,sl⟩,ho,hc,n,hd⟩:=id ht
 obtain⟨⟨cls2,dd2,data2,sl2⟩,ho2,hc2,n2,hd2⟩:=id hb
 simp only at hc hd hc2 hd2
 subst hc hd hc2 hd2
 have e:vs.toArray++ws.toArray=(vs++ws).toArray:=by simp
 by_cases hw:ws=[]
 . exact concat_meets ⟨_,ho,rfl⟩ ⟨_,ho2,rfl⟩ noFill_tuple_add seq_tuple_add PySem.F.slot_tuple_add PySem.F.entry_tuple_add (PySem.F.args_tuple_add_2 _ _)
    (tuple_addW1 t b vs.toArray ws.toArray n n2 dd dd2 sl sl2 (by simpa using hv) (by simp [hw])) ⟨ho,ho2,h1 hw⟩
 . refine concat_meets ⟨_,ho,rfl⟩ ⟨_,ho2,rfl⟩ noFill_tuple_add seq_tuple_add PySem.F.slot_tuple_add PySem.F.entry_tuple_add (PySem.F.args_tuple_add_2 _ _)
    (tuple_addW2 t b vs.toArray ws.toArray n n2 dd dd2 sl sl2 (by simpa using hv) (by simpa using hw) (by rw [List.size_toArray,List.size_toArray];exact hsz)) ⟨ho,ho2,?_⟩
   rw [e]
   exact h2 hw
def sIx (n d:Nat):Option Int->Nat
 | none=>d
 | some v=>if v<0 then (v+(n:Int)).toNat else min v.toNat n
theorem sIx_none (n d:Nat):sIx n d none=d:=rfl
theorem sIx_nat (n d k:Nat):sIx n d (some (k:Int))=min k n:=by
 show (if (k:Int)<0 then ((k:Int)+(n:Int)).toNat else min (k:Int).toNat n)=min k n
 rw [if_neg (by omega),Int.toNat_natCast]
theorem d9 (n d:Nat) (hd:d<=n) (o:Option Int):sIx n d o<=n:=by
 cases o with
 | none=>exact hd
 | some v =>
   show (if v<0 then (v+(n:Int)).toNat else min v.toNat n)<=n
   by_cases hv:v<0
   . rw [if_pos hv];omega
   . rw [if_neg hv];exact Nat.min_le_right _ _
theorem Ws (v:Int) (n d:Nat):(if v<0 then max (v+(n:Int)) 0 else min v (n:Int))=((sIx n d (some v):Nat):Int):=by
 show (if v<0 then max (v+(n:Int)) 0 else min v (n:Int))=(((if v<0 then (v+(n:Int)).toNat else min v.toNat n):Nat):Int)
 by_cases hv:v<0
 . simp only [if_pos hv];omega
 . simp only [if_neg hv];omega
theorem Uz (lo hi:Option Int) (n:Nat):Builtin.Slice.sliceAdjust lo hi 1 (n:Int)=(((sIx n 0 lo:Nat):Int),((sIx n n hi:Nat):Int)):=by
 have h1:¬((1:Int)<0):=by omega
 unfold Builtin.Slice.sliceAdjust
 simp only [h1,if_false]
 refine Prod.ext ?_ ?_
 . cases lo with
   | none=>rfl
   | some v=>exact Ws v n 0
 . cases hi with
   | none=>rfl
   | some v=>exact Ws v n n
theorem Ul (i j:Nat):Builtin.Slice.slicePlaces (i:Int) (j:Int) 1=j-i:=by
 unfold Builtin.Slice.slicePlaces
 have h1:(1:Int) > 0:=by omega
 simp only [h1,if_true,Int.ediv_one]
 split<;>omega
theorem Ml {v:Value}{o:Option Int}{Q:Option Int->Shared->Prop} (p:IsPart v o) (h:Q o s):wpAny (model prog w) A (Builtin.Slice.slicePartIndex v) Q E s:=by
 cases p with
 | none=>exact slicePart_none h
 | int i t=>exact slicePart_int h
theorem J4 {sl:Addr}{vl vu:Value}{lo hi:Option Int}{n:Nat}{Q:Int × Int × Nat->Shared->Prop} (hs:s.heap.IsSliceOf sl vl vu .none) (pl:IsPart vl lo) (pu:IsPart vu hi)
 (h:Q (((sIx n 0 lo:Nat):Int),1,sIx n n hi-sIx n 0 lo) s):wpAny (model prog w) A (Builtin.Slice.sliceApplied (.ref sl) (pure (n:Int))) Q E s:=by
 obtain⟨os,hos,hcs,hds⟩:=id hs
 unfold Builtin.Slice.sliceApplied Builtin.Slice.sliceFields
 refine wpAny_bind (wpAny_bind (wpAny_field hos hds (x:=vl) rfl (wpAny_bind (wpAny_field hos hds (x:=vu) rfl (wpAny_bind (wpAny_field hos hds (x:=.none) rfl (wpAny_pure ?_)))))))
 refine wpAny_bind (slicePart_none ?_)
 show wpAny _ _ (if ((1:Int)==0)=true then _ else _) _ _ s
 rw [if_neg (by decide)]
 refine wpAny_bind (Ml pl (wpAny_bind (Ml pu (wpAny_bind (wpAny_pure ?_)))))
 show wpAny _ _ (match Builtin.Slice.sliceAdjust lo hi 1 (n:Int) with | (lo,hi)=>pure (lo,(1:Int),Builtin.Slice.slicePlaces lo hi 1)) _ _ s
 rw [Uz lo hi n]
 show wpAny _ _ (pure (((sIx n 0 lo:Nat):Int),(1:Int),Builtin.Slice.slicePlaces ((sIx n 0 lo:Nat):Int) ((sIx n n hi:Nat):Int) 1)) _ _ s
 rw [Ul]
 exact wpAny_pure h
theorem Xr (xs:Array Value) (i k:Nat):((List.range k).filterMap fun (m:Nat)=>xs[((i:Int)+(m:Int)*1).toNat]?).toArray=((xs.toList.drop i).take k).toArray:=by
 have e:(fun (m:Nat)=>xs[((i:Int)+(m:Int)*1).toNat]?)=fun m=>xs[i+m]?:=by
  funext m
  have:((i:Int)+(m:Int)*1).toNat=i+m:=by omega
  rw [this]
 rw [e]
 have:=pick_run xs i k
 rw [List.filterMap_map] at this
 have e2:((fun x=>xs[x]?) ∘ fun x=>i+x)=fun m=>xs[i+m]?:=rfl
 rw [e2] at this
 rw [this]
theorem getItem_tuple_cut {t sl:Addr}{items:Array Value}{vl vu:Value}{lo hi:Option Int}{Q:Value->Shared->Prop} (ht:IsTup s.heap t items) (hs:s.heap.IsSliceOf sl vl vu .none) (pl:IsPart vl lo) (pu:IsPart vu hi)
 (hw:¬(sIx items.size 0 lo=0/\sIx items.size items.size hi=items.size))
 (h:Q (.ref s.heap.objs.size) { s with heap:=s.heap.push { cls:=.type "tuple",data:=.seq ((items.toList.drop (sIx items.size 0 lo)).take (sIx items.size items.size hi-sIx items.size 0 lo)).toArray } })
 (hsz:items.size<=sizeLine):wpAny (model prog w) A (getItem (.ref t) (.ref sl)) Q E s:=by
 have htake:sizeOk (.seq ((items.toList.drop (sIx items.size 0 lo)).take (sIx items.size items.size hi-sIx items.size 0 lo)).toArray):=by
  show ((items.toList.drop (sIx items.size 0 lo)).take (sIx items.size items.size hi-sIx items.size 0 lo)).toArray.size<=sizeLine
  rw [List.size_toArray,List.length_take,List.length_drop,Array.length_toList]
  omega
 have hj:sIx items.size items.size hi<=items.size:=d9 _ _ (Nat.le_refl _) hi
 obtain⟨os,hos,hcs,hds⟩:=id hs
 have hTs:s.TypeIs (.ref sl) "slice":=⟨os,hos,hcs⟩
 unfold getItem
 try with_reducible refine wpAny_holding ?_
 first | refine wpAny_bind (wpAny_pure ?_) | skip
 refine wpAny_bind (wpAny_sequenceKey ht.typeIs (by decide) ?_)
 refine wpAny_bind (wpAny_callSpecial?_slot (name:=Str.ofString "__getitem__") ht.typeIs PyProof.Rows.slot_tuple_getitem
  (wpAny_call_entry PyProof.Rows.slot_tuple_getitem ht.typeIs entry_tuple_getitem ?_ (args_tuple_getitem _ _)))
 show wpAny _ _ (Builtin.Tuple.tupleItemsOf (.ref t)>>=_) _ _ s
 refine wpAny_bind (tupleItemsOf_ ht ?_)
 refine wpAny_bind (wpAny_typeOf hTs ?_)
 rw [if_pos (by decide)]
 refine wpAny_bind (J4 hs pl pu ?_)
 have hno:¬((((sIx items.size 0 lo:Nat):Int)==0&&(1:Int)==1&&(sIx items.size items.size hi-sIx items.size 0 lo)==items.size)=true):=by
  intro q
  rw [Bool.and_eq_true,Bool.and_eq_true] at q
  have q1:((sIx items.size 0 lo:Nat):Int)=0:=eq_of_beq q.1.1
  have q2:sIx items.size items.size hi-sIx items.size 0 lo=items.size:=eq_of_beq q.2
  exact hw ⟨by omega,by omega⟩
 show wpAny _ _ (if (((sIx items.size 0 lo:Nat):Int)==0&&(1:Int)==1&&(sIx items.size items.size hi-sIx items.size 0 lo)==items.size)=true then _ else _) _ _ s
 rw [if_neg hno,Xr]
 first
  | exact wpAny_bind (m:=Builtin.Tuple.tupleExact _) (wpAny_newObj_type (wpAny_pure ⟨_,rfl,wpAny_pure h⟩) htake)
  | exact wpAny_bind (m:=Builtin.Tuple.tupleExact _) (wpAny_newObj_type (wpAny_bind (wpAny_pure (wpAny_pure ⟨_,rfl,wpAny_pure h⟩))) htake)
  | exact wpAny_bind (wpAny_bind (m:=Builtin.Tuple.tupleExact _) (wpAny_newObj_type (wpAny_pure (wpAny_pure ⟨_,rfl,wpAny_pure h⟩)) htake))
  | exact wpAny_bind (wpAny_bind (m:=Builtin.Tuple.tupleExact _) (wpAny_newObj_type (wpAny_pure ⟨_,rfl,wpAny_pure h⟩) htake))
end
end HT
namespace L2
open PySem PySem.Spec PyProof.Rows
abbrev TO:=St->Hp->(Option Int->Hp->Prop)->Prop
def PO (X:Cx) (e:Option Expr) (t:TO):Prop :=
 ∀ (Ab:List (Addr × Obj)) (s:Shared) (σ:St) (H:Hp) (Q:Option Int->Hp->Prop),Inv X Ab σ H s->t σ H Q →
   wpAny (model X.prog X.w) X.A (evalPart e X.env) (fun u s'=>∃ o H',Inv X Ab σ H' s'/\IsPart u o/\Q o H') X.xe s
def Y6:TO:=fun _ H Q=>Q none H
def v6 (t:TE):TO:=fun σ H Q=>t σ H fun x H1=>∃ i,x=.int i/\Q (some i) H1
section
variable {X:Cx}{e:Expr}{te:TE}{lo hi:Option Expr}{tl th:TO}{pos p2:Pos}
theorem D6:PO X none Y6:=by
 intro Ab s σ H Q I h
 rw [evalPart_none]
 exact wpAny_pure ⟨none,H,I,.none,h⟩
theorem Cv (h:PE X e te):PO X (some e) (v6 te):=by
 intro Ab s σ H Q I hw
 rw [evalPart_some]
 refine thn (h Ab s σ H _ I hw) fun u s1 ⟨x,H1,I1,r1,q1⟩=>?_
 obtain⟨i,rfl,q⟩:=q1
 obtain⟨t,rfl⟩:=r1
 exact ⟨some i,H1,I1,.int i t,q⟩
def SlR (X:Cx) (r:V->Option Int->Option Int->Hp->VK->Prop):Prop :=
 ∀ (Ab:List (Addr × Obj)) (s:Shared) (σ:St) (H:Hp) (x:V) (v vl vu:Value) (lo hi:Option Int) (sl:Addr) (Q:VK),Inv X Ab σ H s->RelV x v->s.heap.IsSliceOf sl vl vu .none->IsPart vl lo->IsPart vu hi->r x lo hi H Q →
   ∃ T id,typeLookup (.type T) "__getitem__"=pure (some (.builtin id))/\s.TypeIs v T/\wpAny (model X.prog X.w) X.A (getItem v (.ref sl)) (EP X Ab σ Q) X.xe s
def tSl (r:V->Option Int->Option Int->Hp->VK->Prop) (te:TE) (tl th:TO):TE:=fun σ H Q=>te σ H fun x H1=>tl σ H1 fun l H2=>th σ H2 fun u H3=>r x l u H3 Q
theorem Ci {r:V->Option Int->Option Int->Hp->VK->Prop} (hr:SlR X r) (he:PE X e te) (hl:PO X lo tl) (hu:PO X hi th):PE X (.Subscript e (.Slice lo hi none p2) pos) (tSl r te tl th):=by
 intro Ab s σ H Q I h
 refine Subscript_ (thn (he Ab s σ H _ I h) fun v s1 ⟨x,H1,I1,r1,q1⟩=>?_)
 refine wpAny_Slice (thn (hl Ab s1 σ H1 _ I1 q1) fun vl s2 ⟨l,H2,I2,pl,q2⟩=>thn (hu Ab s2 σ H2 _ I2 q2) fun vu s3 ⟨u,H3,I3,pu,q3⟩=>?_)
 rw [evalPart_none]
 refine wpAny_pure ?_
 have I4:Inv X Ab σ H3 { s3 with heap:=s3.heap.push { cls:=.type "slice",data:=.fields #[vl,vu,.none] } }:=I3.kept (t':=s3.toks) fun b ob q=>Heap.get?_push_of_some _ q
 obtain⟨T,id,hT,ht,hg⟩:=hr Ab { s3 with heap:=s3.heap.push { cls:=.type "slice",data:=.fields #[vl,vu,.none] } } σ H3 x v vl vu l u s3.heap.objs.size Q I4 r1 (Heap.IsSliceOf.new ..) pl pu q3
 show wpAny (model X.prog X.w) X.A (subscriptTail e (.Slice lo hi none p2) v (.ref s3.heap.objs.size)) (EP X Ab σ Q) X.xe { s3 with heap:=s3.heap.push { cls:=.type "slice",data:=.fields #[vl,vu,.none] } }
 exact tail_any (ops:=[.ref s3.heap.objs.size,v]) ht hT hg (by with_unfolding_all rfl)
def cutV (xs:List V) (lo hi:Option Int):List V:=(xs.drop (HT.sIx xs.length 0 lo)).take (HT.sIx xs.length xs.length hi-HT.sIx xs.length 0 lo)
theorem K2 (xs:List V) (lo hi:Option Int):(cutV xs lo hi).length<=xs.length:=by
 unfold cutV
 rw [List.length_take,List.length_drop]
 omega
def rSlT (K:W.Frag):V->Option Int->Option Int->Hp->VK->Prop:=fun x lo hi H Q=>∃ a xs,x=.ref a/\SqT K H a xs ∧
 ¬(HT.sIx xs.length 0 lo=0/\HT.sIx xs.length xs.length hi=xs.length)/\∀ p,H p=none->Q (.ref p) (upd H p (.tup (cutV xs lo hi)))
theorem d6:SlR X (rSlT X.K):=by
 intro Ab s σ H x v vl vu lo hi sl Q I rx hs pl pu h
 obtain⟨a,xs,rfl,hx,hw,q⟩:=h
 cases rx
 obtain⟨its,r,ht,hz⟩:=I.tuple hx
 have hlen:its.toArray.size=xs.length:=by rw [List.size_toArray];exact r.length.symm
 refine⟨"tuple",_,PyProof.Rows.slot_tuple_getitem.lookup,ht.typeIs,?_⟩
 refine HT.getItem_tuple_cut ht hs pl pu (by rw [hlen];exact hw) ?_ (by rw [hlen];exact hz)
 rw [hlen]
 refine⟨.ref s.heap.objs.size,_,I.laid (t':=s.toks) (o:=.tup (cutV xs lo hi)) (fun b ob q=>Heap.get?_push_of_some _ q) (Nat.le_refl _) ?_,rfl,q _ (I.hok.fresh (Nat.le_refl _))⟩
 exact ⟨Nat.le_trans (K2 xs lo hi) hz,_,(r.drop (HT.sIx xs.length 0 lo)).take (HT.sIx xs.length xs.length hi-HT.sIx xs.length 0 lo),Gc.new _ _⟩
def y0 (K:W.Frag):R2:=fun x y H Q=>∃ a b xs ys,x=.ref a/\y=.ref b/\SqT K H a xs/\SqT K H b ys/\xs≠[]/\xs.length+ys.length<=sizeLine ∧
 (ys=[]->Q (.ref a) H)/\(ys≠[]->∀ p,H p=none->Q (.ref p) (upd H p (.tup (xs++ys))))
theorem Vals.nil_iff {xs:List V}{us:List Value} (r:Vals xs us):us=[]↔xs=[]:=by
 cases r with
 | nil=>simp
 | cons _ _=>simp
theorem Zn:OpR X (binaryOp .Add) (y0 X.K):=by
 intro Ab s σ H x y v u Q I rx ry h
 obtain⟨a,b,xs,ys,rfl,rfl,ha,hb,hx,hz,q1,q2⟩:=h
 cases rx
 cases ry
 obtain⟨its,r1,p1,_⟩:=I.tuple ha
 obtain⟨its2,r2,p2,_⟩:=I.tuple hb
 refine HT.cat_tup p1 p2 (fun z=>hx (r1.nil_iff.mp z)) (fun z=>⟨.ref a,H,I,rfl,q1 (r2.nil_iff.mp z)⟩) (fun z=>?_) (by rw [←r1.length,←r2.length];exact hz)
 refine⟨.ref s.heap.objs.size,_,I.laid (t':=s.toks) (o:=.tup (xs++ys)) (fun b ob q=>Heap.get?_push_of_some _ q) (Nat.le_refl _) ?_,rfl,q2 (fun w=>z (r2.nil_iff.mpr w)) _ (I.hok.fresh (Nat.le_refl _))⟩
 exact ⟨by rw [List.length_append];exact hz,_,r1.append r2,Gc.new _ _⟩
end
end L2
namespace L2
open PySem PySem.Spec PyProof.Rows
def ixN (n:Nat) (i:Int):Option Nat:=if 0<=i then (if i<n then some i.toNat else none) else if -(n:Int)<=i then some (i+n).toNat else none
def atI {α:Type} (xs:List α) (i:Int):Option α:=(ixN xs.length i).bind fun j=>xs[j]?
theorem Zz {n:Nat}{i:Int}{j:Nat} (h:ixN n i=some j):seqIndex? i n=some j/\j<n/\-(n:Int)<=i/\i<n:=by
 unfold ixN at h
 by_cases h0:0<=i
 . rw [if_pos h0] at h
   by_cases h1:i<n
   . rw [if_pos h1] at h
     have e:i.toNat=j:=Option.some.inj h
     exact ⟨by rw [seqIndex_of h0 h1,e],by omega,by omega,h1⟩
   . rw [if_neg h1] at h;cases h
 . rw [if_neg h0] at h
   by_cases h1:-(n:Int)<=i
   . rw [if_pos h1] at h
     have e:(i+n).toNat=j:=Option.some.inj h
     exact ⟨by rw [seqIndex_neg (by omega) h1,e],by omega,h1,by omega⟩
   . rw [if_neg h1] at h;cases h
theorem W9 {α:Type}{xs:List α}{i:Int}{v:α} (h:atI xs i=some v):∃ j,seqIndex? i xs.length=some j/\xs[j]?=some v/\j<xs.length/\-(xs.length:Int)<=i/\i<xs.length:=by
 unfold atI at h
 cases e:ixN xs.length i with
 | none=>rw [e] at h;cases h
 | some j =>
   rw [e] at h
   obtain⟨h1,h2,h3,h4⟩:=Zz e
   exact ⟨j,h1,h,h2,h3,h4⟩
theorem Bg {α:Type}{xs:List α}{j:Nat}{v:α} (h:xs[j]?=some v):atI xs (j:Int)=some v:=by
 have hj:j<xs.length:=(List.getElem?_eq_some_iff.mp h).1
 have e:ixN xs.length (j:Int)=some j:=by
  unfold ixN
  rw [if_pos (by omega),if_pos (by omega)];simp
 unfold atI;rw [e];exact h
def b6 (b:Expr):Prop:=∀ o i,subscripted b false o i=operate [o,i] (getItem o i)
def IxR (X:Cx) (r:R2):Prop :=
 ∀ (value slice:Expr) (Ab:List (Addr × Obj)) (s:Shared) (σ:St) (H:Hp) (x y:V) (v u:Value) (Q:VK),Inv X Ab σ H s->RelV x v->RelV y u->r x y H Q →
   subscripted slice false v u=operate [v,u] (getItem v u)->wpAny (model X.prog X.w) X.A (subscriptTail value slice v u) (EP X Ab σ Q) X.xe s
def MtR (X:Cx) (id:String) (r:V->List V->Hp->VK->Prop):Prop :=
 ∀ (Ab:List (Addr × Obj)) (s:Shared) (σ:St) (H:Hp) (x:V) (xs:List V) (v:Value) (us:List Value) (Q:VK),Inv X Ab σ H s->RelV x v->Vals xs us->r x xs H Q →
   wpAny (model X.prog X.w) X.A (call (.builtin id) (v::us)) (EP X Ab σ Q) X.xe s
section
variable {X:Cx}{a b:Expr}{ta tb:TE}{pos:Pos}
theorem IxR.or {r r':R2} (h:IxR X r) (h':IxR X r'):IxR X (fun x y H Q=>r x y H Q\/r' x y H Q):=by
 intro value slice Ab s σ H x y v u Q I rx ry q hs
 rcases q with q | q
 . exact h value slice Ab s σ H x y v u Q I rx ry q hs
 . exact h' value slice Ab s σ H x y v u Q I rx ry q hs
theorem B4 {r:R2} (hr:IxR X r) (ha:PE X a ta) (hb:PE X b tb) (hs:b6 b):PE X (.Subscript a b pos) (tOp r ta tb):=by
 intro Ab s σ H Q I h
 exact Subscript_ (binT ha hb I h fun v u s2 x y H2 I2 rx ry q=>hr a b Ab s2 σ H2 x y v u Q I2 rx ry q (hs _ _))
def rIxL (K:W.Frag):R2:=fun x y H Q=>∃ p xs i v,x=.ref p/\y=.int i/\SqL K H p xs/\atI xs i=some v/\Q v H
def rIxT (K:W.Frag):R2:=fun x y H Q=>∃ p xs i v,x=.ref p/\y=.int i/\SqT K H p xs/\atI xs i=some v/\Q v H
theorem Zx:IxR X (rIxL X.K):=by
 intro value slice Ab s σ H x y v u Q I rx ry h hs
 obtain⟨p,xs,i,z,rfl,rfl,hq,he,q⟩:=h
 cases rx
 obtain⟨t,rfl⟩:=ry
 obtain⟨its,r,pl,hz⟩:=I.list hq
 obtain⟨j,h1,h2,h3,h4,h5⟩:=W9 he
 obtain⟨w,ew,rw'⟩:=r.get h2
 have hl:=r.length
 have hn:=V1
 have fin:EP X Ab σ Q w s:=⟨z,H,I,rw',q⟩
 by_cases h0:0<=i
 . have hj:i.toNat=j:=by
    rw [seqIndex_of h0 h5] at h1
    exact Option.some.inj h1
   exact item_listR pl.isList h0 (by omega) (by rw [hj];simpa using ew) fin hs
 . have hj:(i+(its.toArray.size:Int)).toNat=j:=by
    rw [seqIndex_neg (by omega) h4] at h1
    rw [List.size_toArray,←hl]
    exact Option.some.inj h1
   exact subscriptTail_builtinR (x:=w) pl.isList.typeIs slot_list_getitem.lookup
    (wpAny_getItem_list_neg (Q:=fun r s'=>r=w/\EP X Ab σ Q r s') pl.isList (by omega) (by rw [List.size_toArray]<;>omega) (by omega) (by rw [hj];simpa using ew) ⟨rfl,fin⟩) hs
theorem p4:IxR X (rIxT X.K):=by
 intro value slice Ab s σ H x y v u Q I rx ry h hs
 obtain⟨p,xs,i,z,rfl,rfl,hq,he,q⟩:=h
 cases rx
 obtain⟨t,rfl⟩:=ry
 obtain⟨its,r,pl,hz⟩:=I.tuple hq
 obtain⟨j,h1,h2,h3,h4,h5⟩:=W9 he
 obtain⟨w,ew,rw'⟩:=r.get h2
 have hl:=r.length
 have hn:=V1
 have fin:EP X Ab σ Q w s:=⟨z,H,I,rw',q⟩
 exact subscriptTail_builtinR (x:=w) pl.typeIs slot_tuple_getitem.lookup
  (getItem_tuple (j:=j) (Q:=fun r s'=>r=w/\EP X Ab σ Q r s') pl (by omega) (by omega) (by rw [List.size_toArray,←hl];exact h1) (by simpa using ew) ⟨rfl,fin⟩) hs
theorem Pb (lo hi:Option Int) (n:Nat):(sliceBounds lo hi none n).1=((HT.sIx n 0 lo:Nat):Int)/\(sliceBounds lo hi none n).2.1=((HT.sIx n n hi:Nat):Int)/\(sliceBounds lo hi none n).2.2=1:=by
 refine⟨?_,?_,rfl⟩
 . cases lo with
   | none=>simp [sliceBounds,HT.sIx]
   | some i =>
     simp only [sliceBounds,HT.sIx,Option.getD_none,show (1:Int) > 0 by decide,if_true]
     by_cases h:i<0
     . simp only [h,if_true]<;>omega
     . simp only [h,if_false]<;>omega
 . cases hi with
   | none=>simp [sliceBounds,HT.sIx]
   | some i =>
     simp only [sliceBounds,HT.sIx,Option.getD_none,show (1:Int) > 0 by decide,if_true]
     by_cases h:i<0
     . simp only [h,if_true]<;>omega
     . simp only [h,if_false]<;>omega
theorem Nb (its:List Value) (lo hi:Option Int):slicePick its.toArray lo hi none=((its.drop (HT.sIx its.length 0 lo)).take (HT.sIx its.length its.length hi-HT.sIx its.length 0 lo)).toArray:=by
 obtain⟨h1,h2,h3⟩:=Pb lo hi its.toArray.size
 unfold slicePick
 rw [h1,h2,h3]
 simp only [sliceRange_one,pick_run,List.size_toArray]<;>rfl
def rSlL (K:W.Frag):V->Option Int->Option Int->Hp->VK->Prop:=fun x lo hi H Q=>∃ a xs,x=.ref a/\SqL K H a xs/\∀ p,H p=none->Q (.ref p) (upd H p (.lst (cutV xs lo hi)))
theorem Za:SlR X (rSlL X.K):=by
 intro Ab s σ H x v vl vu lo hi sl Q I rx hs pl pu h
 obtain⟨a,xs,rfl,hx,q⟩:=h
 cases rx
 obtain⟨its,r,ht,hz⟩:=I.list hx
 have hlen:=r.length
 refine⟨"list",_,slot_list_getitem.lookup,ht.isList.typeIs,?_⟩
 refine wpAny_getItem_list_slice ht.isList hs pl pu .none (by simp) ?_ (by rw [List.size_toArray]<;>omega)
 rw [Nb,←hlen]
 refine⟨.ref s.heap.objs.size,_,I.laid (t':=s.toks) (o:=.lst (cutV xs lo hi)) (fun b ob q=>Heap.get?_push_of_some _ q) (Nat.le_refl _) ?_,rfl,q _ (I.hok.fresh (Nat.le_refl _))⟩
 exact ⟨Nat.le_trans (K2 xs lo hi) hz,_,0,(r.drop (HT.sIx xs.length 0 lo)).take (HT.sIx xs.length xs.length hi-HT.sIx xs.length 0 lo),Heap.get?_push_size _ rfl⟩
theorem Rl:Eu X (.builtin "len") (fun xs H Q=>∃ p ys,xs=[.ref p]/\(SqL X.K H p ys\/SqT X.K H p ys)/\Q (.int ys.length) H):=by
 intro Ab s σ H xs us Q I r h
 obtain⟨p,ys,rfl,hq,q⟩:=h
 obtain⟨u,rfl,rx⟩:=Lo r
 cases rx
 have hn:=V1
 rcases hq with hq | hq
 . obtain⟨its,r',pl,hz⟩:=I.list hq
   have hlen:=r'.length
   exact Calls.call_len_list pl.isList (by simp only [List.size_toArray]<;>omega) ⟨.int ys.length,H,I.tok _,⟨s.toks+1,by rw [List.size_toArray,hlen]⟩,q⟩
 . obtain⟨its,r',pl,hz⟩:=I.tuple hq
   have hlen:=r'.length
   exact len_tuple pl (by simp only [List.size_toArray]<;>omega) ⟨.int ys.length,H,I.tok _,⟨s.toks+1,by rw [List.size_toArray,hlen]⟩,q⟩
theorem Rk:Eu X (.type "list") (fun xs H Q=>∃ p ys,xs=[.ref p]/\(SqL X.K H p ys\/SqT X.K H p ys)/\∀ l,H l=none->Q (.ref l) (upd H l (.lst ys))):=by
 intro Ab s σ H xs us Q I r h
 obtain⟨p,ys,rfl,hq,q⟩:=h
 obtain⟨u,rfl,rx⟩:=Lo r
 cases rx
 have fin:∀ (its:List Value),Vals ys its->ys.length<=sizeLine->∀ (h':Heap) (c':Nat),(∀ b o',s.heap.get? b=some o'->h'.get? b=some o') →
  h'.get? s.heap.objs.size=some { cls:=.type "list",dict:=none,data:=.seq its.toArray c',slots:=#[] }->EP X Ab σ Q (.ref s.heap.objs.size) { s with heap:=h' }:=fun its r' hz h' c' kp e =>
  ⟨.ref s.heap.objs.size,_,I.laid (t':=s.toks) kp (Nat.le_refl _) (show Dp X.prog X.w _ h' _ (.lst ys) from ⟨hz,its,c',r',e⟩),rfl,q _ (I.hok.fresh (Nat.le_refl _))⟩
 rcases hq with hq | hq
 . obtain⟨its,r',pl,hz⟩:=I.list hq
   have hlen:=r'.length
   obtain⟨o,ho,hc,n,hd⟩:=pl.isList
   exact call_list_seq p (.inl rfl) ho hc hd (fun h' c' kp e=>fin its r' hz h' c' kp e) (by simp only [List.size_toArray]<;>omega)
 . obtain⟨its,r',pl,hz⟩:=I.tuple hq
   have hlen:=r'.length
   obtain⟨o,ho,hc,n,hd⟩:=pl
   exact call_list_seq p (.inr rfl) ho hc hd (fun h' c' kp e=>fin its r' hz h' c' kp e) (by simp only [List.size_toArray]<;>omega)
theorem Oy:Eu X (.type "tuple") (fun xs H Q=>∃ p ys,xs=[.ref p]/\((SqL X.K H p ys/\∀ l,H l=none->Q (.ref l) (upd H l (.tup ys)))\/(SqT X.K H p ys/\Q (.ref p) H))):=by
 intro Ab s σ H xs us Q I r h
 obtain⟨p,ys,rfl,h⟩:=h
 obtain⟨u,rfl,rx⟩:=Lo r
 cases rx
 rcases h with ⟨hq,q⟩|⟨hq,q⟩
 . obtain⟨its,r',pl,hz⟩:=I.list hq
   have hlen:=r'.length
   refine call_tuple_list pl.isList (fun h' kp=>?_) (by simp only [List.size_toArray]<;>omega)
   have I1:Inv X Ab σ H { s with heap:=h' }:=I.kept (t':=s.toks) kp
   have I2:Inv X Ab σ (upd H h'.objs.size (.tup ys)) { s with heap:=h'.push { cls:=.type "tuple",data:=.seq its.toArray } } :=
    I1.laid (t':=s.toks) (fun b o e=>Heap.get?_push_of_some _ e) (Nat.le_refl _) (show Dp X.prog X.w _ _ _ (.tup ys) from ⟨hz,its,r',Gc.new _ _⟩)
   exact ⟨.ref h'.objs.size,_,I2,rfl,q _ (I1.hok.fresh (Nat.le_refl _))⟩
 . obtain⟨its,r',pl,hz⟩:=I.tuple hq
   exact call_tuple_same pl ⟨.ref p,H,I,rfl,q⟩
def tyV (K:W.Frag) (T:String) (x:V) (H:Hp):Prop:=match x with
 | .str _=>T="str"
 | .int _=>T="int"
 | .ref p=>(T="list"/\∃ xs,SqL K H p xs)\/(T="tuple"/\∃ o,K.lookup p=some o/\o.cls=.type "tuple"/\o.dict=none) ∨
    (T="dict"/\((∃ Aw,H p=some (.dK Aw))\/∃ Aw,H p=some (.dT Aw)))\/(T="set"/\∃ S n,H p=some (.set S n))
 | _=>False
theorem c8 {Ab:List (Addr × Obj)}{σ:St}{H:Hp}{s:Shared}{T:String}{x:V}{v:Value} (I:Inv X Ab σ H s) (r:RelV x v) (ty:tyV X.K T x H) :
 s.TypeIs v T/\∀ a,v=.ref a->∃ ob,s.heap.get? a=some ob/\ob.dict=none:=by
 cases x with
 | str z =>
   obtain⟨t,rfl⟩:=r
   cases (show T="str" from ty)
   exact ⟨typeIs_str s z t,fun _ e=>nomatch e⟩
 | int i =>
   obtain⟨t,rfl⟩:=r
   cases (show T="int" from ty)
   exact ⟨typeIs_int s i t,fun _ e=>nomatch e⟩
 | ref p =>
   cases r
   rcases ty with ⟨rfl,xs,hq⟩|⟨rfl,o,hk,hc,hd⟩|⟨rfl,hk⟩|⟨rfl,S,n,hk⟩
   . obtain⟨its,_,pl,_⟩:=I.list hq
     refine⟨pl.isList.typeIs,fun a e=>?_⟩
     cases e
     obtain⟨o,n,e,c,hd,_⟩:=pl
     exact ⟨o,e,hd⟩
   . refine⟨⟨o,I.kIn p o hk,hc⟩,fun a e=>?_⟩
     cases e
     exact ⟨o,I.kIn _ o hk,hd⟩
   . have z:∃ o,s.heap.get? p=some o/\o.ExactDict:=by
      rcases hk with ⟨Aw,hk⟩|⟨Aw,hk⟩
      . obtain⟨_,_,_,_,o,_,_,e,ex,_⟩:=I.hok p _ hk
        exact ⟨o,e,ex⟩
      . obtain⟨_,_,_,_,o,_,_,e,ex,_⟩:=I.hok p _ hk
        exact ⟨o,e,ex⟩
     obtain⟨o,e,ex⟩:=z
     refine⟨⟨o,e,ex.1⟩,fun a e2=>?_⟩
     cases e2
     exact ⟨o,e,ex.2.1⟩
   . obtain⟨o,_,_,_,e,ex,_⟩:=I.hok p _ hk
     refine⟨⟨o,e,ex.1⟩,fun a e2=>?_⟩
     cases e2
     exact ⟨o,e,ex.2.1⟩
 | _=>exact False.elim ty
def tBM (K:W.Frag) (T:String) (r:V->List V->Hp->VK->Prop) (to:TE) (t:TA):TE:=fun σ H Q=>to σ H fun x H1=>tyV K T x H1/\t σ H1 fun xs H2=>r x xs H2 Q
variable {o e:Expr}{es:List Expr}{to:TE}{t:TA}{name:Str}{apos cpos:Pos}{T id:String}{r:V->List V->Hp->VK->Prop}
theorem y3 (pa:PlainAttrs T) (slot:Slot T name id) (hty:typeOf (.builtin id)=pure (.type "method_descriptor")) (hm:MtR X id r) (ho:PE X o to) (ha:PA X (e::es) t)
 (hbase:attributeBase o name X.env (eval o X.env)=eval o X.env:=by rfl)
 (hfew:((backTo cpos (starEach (e::es) X.env)).all (fun x=>!x.1)&&(backToKw cpos (keywordEach [] X.env)).all (fun x=>x.1.isSome)
   && decide ((e::es).length+([]:List Keyword).length+(if ([]:List Keyword).isEmpty then 0 else 1)<30))=true:=by rfl)
 (hline:(apos.endLine==cpos.line)=true:=by rfl) (hs:starEach (e::es) X.env=(false,eval e X.env)::starEach es X.env:=by rfl) (hplain:(backTo cpos (starEach es X.env)).any (·.1)=false:=by rfl) :
 PE X (.Call (.Attribute o name apos) (e::es) [] cpos) (tBM X.K T r to t):=by
 intro Ab s σ H Q I h
 refine wpAny_Call_method_late hbase hfew hline rfl (thn (ho Ab s σ H _ I h) fun v s1 ⟨x,H1,I1,r1,ty,q1⟩=>?_)
 obtain⟨h1,h2⟩:=c8 I1 r1 ty
 refine⟨T,id,pa,slot,hty,h1,h2,?_⟩
 have hA:=ha cpos Ab s1 σ H1 _ I1 q1
 rw [hs] at hA ⊢
 refine Calls.callWith_builtin (by show (false || (backTo cpos (starEach es X.env)).any (·.1))=false;rw [hplain]<;>rfl) (Calls.evalArgs_plain ?_)
 exact thn hA fun us s2 ⟨vs,H2,I2,r2,q2⟩=>hm Ab s2 σ H2 x vs v us Q I2 r1 r2 q2
end
end L2
namespace L2
open PySem PySem.Spec PyProof.Rows
def MtM (X:Cx) (id:String) (r:V->List V->Hp->VK->Prop):Prop :=
 ∀ (Ab:List (Addr × Obj)) (s:Shared) (σ:St) (H:Hp) (x:V) (xs:List V) (v:Value) (us:List Value) (Q:VK),Inv X Ab σ H s->RelV x v->Vals xs us->r x xs H Q →
   wpAny (model X.prog X.w) X.A (call (.builtin id) (v::us)) (EP X Ab σ Q) X.xe s
theorem Vals.one:∀{x:V}{us:List Value},Vals [x] us->∃ u,us=[u]/\RelV x u
 | _,_,.cons r .nil=>⟨_,rfl,r⟩
section
variable {X:Cx}{Ab:List (Addr × Obj)}{σ:St}{H:Hp}{s:Shared}{l b:Addr}{xs ys zs:List V}
theorem Inv.lset {its its':List Value}{n:Nat}{f:Array Value->Array Value}{t':Nat} (I:Inv X Ab σ H s) (hH:H l=some (.lst xs))
 (e:s.heap.get? l=some { cls:=.type "list",data:=.seq its.toArray n }) (hf:f its.toArray=its'.toArray) (hv:Vals ys its') (hz:ys.length<=sizeLine) :
 Inv X Ab σ (upd H l (.lst ys)) { s with heap:=s.heap.update l (Obj.mapSeq f),toks:=t' }:=by
 have q:=PySem.IsL.update e f
 rw [hf] at q
 refine I.write (x:=l) (e:=l) (by rw [hH];exact trivial) (.inl rfl) (fun b' u hb hu=>(Heap.get?_update_other s.heap (Obj.mapSeq f) (Ne.symm hb)).trans hu) ⟨_,q⟩ ?_
 exact ⟨hz,its',_,hv,q⟩
theorem Inv.lnew {its:List Value}{t':Nat} (I:Inv X Ab σ H s) (hv:Vals ys its) (hz:ys.length<=sizeLine) :
 Inv X Ab σ (upd H s.heap.objs.size (.lst ys)) { s with heap:=s.heap.push { cls:=.type "list",data:=.seq its.toArray },toks:=t' } :=
 I.laid (fun _ _ q=>Heap.get?_push_of_some _ q) (Nat.le_refl _) ⟨hz,its,0,hv,Heap.get?_push_size _ rfl⟩
theorem Inv.fresh (I:Inv X Ab σ H s):H s.heap.objs.size=none:=I.hok.fresh (Nat.le_refl _)
theorem Inv.lstM (I:Inv X Ab σ H s) (hH:H l=some (.lst xs)):xs.length<=sizeLine/\∃ (its:List Value) (n:Nat),Vals xs its/\xs.length=its.length/\s.heap.get? l=some { cls:=.type "list",data:=.seq its.toArray n }:=by
 obtain⟨z,its,n,r,e⟩:=I.hok l _ hH
 exact ⟨z,its,n,r,r.length,e⟩
end
section
variable {X:Cx}
def Zd:V->List V->Hp->VK->Prop:=fun x vs H Q=>∃ l xs y,x=.ref l/\vs=[y]/\H l=some (.lst xs)/\xs.length<sizeLine/\Q .non (upd H l (.lst (xs++[y])))
theorem Dy:MtM X "list.append" Zd:=by
 intro Ab s σ H x vs v us Q I rx rv h
 obtain⟨l,xs,y,rfl,rfl,hH,hz,q⟩:=h
 cases rx
 obtain⟨u,rfl,ru⟩:=rv.one
 obtain⟨z,its,n,r,hl,e⟩:=I.lstM hH
 refine call_meets F.slot_list_append ⟨_,e,rfl⟩ F.entry_list_append (F.args_list_append_2 _ _) (PySem.list_append l its.toArray n u (by rw [List.size_toArray];omega)) ⟨e,?_⟩
 refine⟨.non,_,I.lset (its':=its++[u]) hH e (by simp) (r.append (.cons ru .nil)) ?_,rfl,q⟩
 rw [List.length_append,List.length_singleton]
 omega
end
section
variable {prog:Program}{w:World}{A:Around}{E:Value->Shared->Prop}{s:Shared}
end
section
variable {X:Cx}
end
end L2
namespace Att
open PySem PySem.W PySem.Calls PyProof.Rows
theorem Ku {P:Params}{h:Heap}:∀ (ns:List Int) (vs:List Value),WellAll P h vs (ns.map WData.int)->IntsAre vs ns:=by
 intro ns
 induction ns with
 | nil =>
   intro vs w
   rw [List.map_nil] at w
   cases w
   exact .nil
 | cons n ns ih =>
   intro vs w
   rw [List.map_cons] at w
   cases w with
   | cons a b =>
     cases a
     exact .cons _ _ (ih _ b)
theorem Vg {l:OpenLaw}{n:Nat} (hn:l.most=some n) {P:Params}{h:Heap}{args:List WData}{vals:List Value}
 (hpre:l.row.toRowW.claim.pre args=true) (hwl:WellAll P h vals args) :
 ∃ a vs ns,vals=[Value.ref a]/\args=[WData.list (ns.map WData.int)]/\h.get? a=some { cls:=.type "list",data:=.seq vs.toArray }/\IntsAre vs ns/\ns.length<=n:=by
 have hsh:WShape.hasAll [] args [.list .int]=true:=(pre_splitW hpre).1
 have hc:l.pre.holds [] { args:=args }=true:=(pre_splitW hpre).2
 obtain⟨d,r,rfl,h1,h2⟩:=hasAllW_cons hsh
 obtain rfl:=hasAllW_nil h2
 obtain⟨xs,rfl,h3⟩:=hasW_list h1
 obtain⟨ns,rfl⟩:=items_int h3
 have hlen:ns.length<=n:=by
  unfold OpenLaw.pre at hc
  have h4:(WTm.not (.lt (.lit (.int (n:Int))) (.len (.arg 0)))).holds [] { args:=[.list (ns.map .int)] }=true:=by
   have h4:=(holds_andW hc).1
   rw [hn] at h4
   exact h4
  have h5:=condW_of h4 (w_not (w_lt w_lit (w_len_list (w_arg rfl))))
  rw [List.length_map] at h5
  refine Nat.le_of_not_lt fun q=>?_
  have q':(n:Int)<((ns.length:Nat):Int):=by omega
  first
   | (rw [decide_eq_true q'] at h5;exact absurd h5 (by decide))
   | (simp at h5;omega)
 cases hwl with
 | cons w1 w2 =>
   cases w2
   cases w1 with
   | list ho hall=>exact ⟨_,_,ns,rfl,rfl,ho,Ku ns _ hall,hlen⟩
theorem Vj (l:OpenLaw) (args:List WData):l.row.toRowW.claim.post args (.bool true) args=true :=
 postW_of (r:=l.row.toRowW) (X:=(true==true))
  (show WShape.has [] (.bool true) .bool=true by first | rfl | decide | simp [WShape.has,WShape.arms,WShape.armsAll])
  (show (WTm.eq .res (.lit (.bool true))).value [] { args:=args,res:=some (.bool true),after:=args }=some (.bool (true==true)) from w_eq_bool (w_res rfl) w_lit) rfl
theorem attach_call {l:OpenLaw}{n:Nat}{q:Program}{loose:List Str}{XP:(Str->Option Value)->Heap->Prop}{YP:World->Heap->Prop}{d:DefRec}
 (hn:l.most=some n) (hdf:d.params.defaults=[])
 (call:∀ (w:World) (s₀ s₁:Shared) (mg mb:Str->Option Value) (fa:Addr) (o:Obj) (pm cd doc:Value) (a:Addr) (vs:List Value) (ns:List Int),
   Ground q loose [] XP w s₀ mg mb s₁.heap->YP w s₁.heap →
   s₁.heap.get? fa=some o->o.data=.func (docDef d.name d.params d.body d.scope pm cd doc)->s₁.heap.CodeRec cd d.name->mg d.name=some (.ref fa) →
   s₁.heap.get? a=some { cls:=.type "list",data:=.seq vs.toArray }->IntsAre vs ns->ns.length<=n->s₁.gens=#[] →
   codeAny (model l.prog w) callerA (.call (.ref fa) ⟨[.ref a],[]⟩) (fun r s'=>r=.ok (.ret (.bool true))/\OldK s₁.heap s'.heap/\s'.os=s₁.os/\AllBare s'.gens) s₁) :
 WalkO q loose XP YP l.row.toRowW d [] (fun f vs=>PySem.call f vs):=by
 intro w s₀ s₁ mg mb G Y fa o pm cd doc dV kV ho hd hcd hD hmg hg args vals as hpre hlay hrd hwl hlo
 obtain rfl:dV=.none:=Dflts.none hD hdf
 obtain rfl:kV=.none:=Dflts.noKw hD
 obtain⟨a,vs,ns,rfl,rfl,hobj,hints,hlen⟩:=Vg hn hpre hwl
 refine enter_call (codeAny_mono (call w s₀ s₁ mg mb fa o pm cd doc a vs ns G Y ho (fd_plain hd) hcd hmg hobj hints hlen hg) fun r s' hq=>?_)
 obtain⟨rfl,h2,h3,h4⟩:=hq
 exact ⟨.inl ⟨.bool true,.bool true,[],rfl,fun _=>rfl,.bool true,Vj l _,fun _=>⟨List.Pairwise.nil,fun _ hm=>(nomatch hm)⟩⟩,h2,h3,h4⟩
section
variable {prog:Program}{w:World}{A:Around}{E:Value->Shared->Prop}{s:Shared}{K:Frag}
end
end Att
namespace L2
open PySem PySem.Spec PyProof.Rows
theorem O6:∀{vs:List Value}{ns:List Int},IntsAre vs ns->Vals (ns.map V.int) vs
 | _,_,.nil=>.nil
 | _,_,.cons n t h=>.cons ⟨t,rfl⟩ (O6 h)
def Only (H:Hp):Prop:=∀ b,H b=none\/∃ o xs,H b=some (.frz o (.lst xs))
theorem X4 {P:Program}{w:World}{K:W.Frag}{mg mb:Str->Option Value}{CX:CXT}{k:Nat}{fa a:Addr}{fd:FuncData}{x:Str}{sp:Sp}{s₁:Shared}{vs:List Value}{ns:List Int}
 (KX:K.In s₁.heap) (hns:s₁.heap.Ns mainGlobals mg) (hb:s₁.heap.Ns builtinsNs mb) (hbb:∀ x:Str,x≠"__name__"->mb x=bootBuiltins x) (hlim:s₁.heap.NoLimit) (hg:s₁.gens=#[])
 (ha:s₁.heap.get? a=some { cls:=.type "list",data:=.seq vs.toArray }) (hi:IntsAre vs ns) (hl:ns.length<=sizeLine) (hr:Room k callerA)
 (F:∀ base:Heap,K.In base->base.Ns mainGlobals mg->FnOk P w K mg base CX k fa fd [x] sp) (hbind:∀ (s:Shared) (u:Value),BindsTo s fd ⟨[u],[]⟩ [(x,u)])
 (hsp:∀ H:Hp,Only H->SqL K H a (ns.map V.int)->sp [.ref a] H (fun v _=>v=.bl true) fun _ _ _=>False)
 (hCX:∀ H e s',CX [] H s₁ (fun _ _ _=>False) e s'->False) :
 codeAny (model P w) callerA (.call (.ref fa) ⟨[.ref a],[]⟩) (fun r s'=>r=.ok (.ret (.bool true))/\OldK s₁.heap s'.heap/\s'.os=s₁.os/\AllBare s'.gens) s₁:=by
 have rv:=O6 hi
 have lenV:=hi.length
 have core:∀ H:Hp,Only H->SqL K H a (ns.map V.int)->HOk P w H s₁.heap->(∀ b,H b≠none->b=a)->(H a≠none->K.lookup a=none) →
  codeAny (model P w) callerA (.call (.ref fa) ⟨[.ref a],[]⟩) (fun r s'=>r=.ok (.ret (.bool true))/\OldK s₁.heap s'.heap/\s'.os=s₁.os/\AllBare s'.gens) s₁:=by
  intro H hO hS hok hA hK
  have base_of:∀{b:Addr}{o:Obj},s₁.heap.get? b=some o->H b=none->(hidT s₁.heap H).get? b=some o:=fun e n=>X8 e n
  have noA:∀{b:Addr}{o:Obj}{es:Array DictEntry}{ep:Nat},s₁.heap.get? b=some o->o.data=.dict es ep->H b=none:=fun {b o es ep} e d=>by
   cases q:H b with
   | none=>rfl
   | some u =>
     have e':b=a:=hA b (by rw [q];simp)
     subst e'
     rw [ha] at e;cases e
     have d':Data.seq vs.toArray _=Data.dict es ep:=d
     cases d'
  have nsK:∀{b:Addr}{m:Str->Option Value},s₁.heap.Ns b m->(hidT s₁.heap H).Ns b m:=fun {b m} ⟨o,es,ep,e,d,r⟩=>⟨o,es,ep,base_of e (noA e d),d,r⟩
  have hKb:K.In (hidT s₁.heap H):=fun b o e=>base_of (KX b o e) (by
   cases q:H b with
   | none=>rfl
   | some u =>
     have e':b=a:=hA b (by rw [q];simp)
     subst e'
     rw [hK (by rw [q];simp)] at e;cases e)
  have hM:Mod K mg (hidT s₁.heap H):=⟨hKb,nsK hns,⟨mb,nsK hb,hbb⟩,let ⟨mc,h1,h2⟩:=hlim;⟨mc,nsK h1,h2⟩⟩
  have e0:Env0 P w K mg (hidT s₁.heap H) callerA [] s₁ H:=⟨rfl,hM,fun b o e=>Zp e,Nat.le_of_eq (V8 _ _),trivial,fun b hb=>absurd (show b∈([]:List Addr) from hb) (by simp),hok,.of_eq hg⟩
  refine codeAny_mono ((F _ hKb (nsK hns)).run callerA [] s₁ H ⟨[.ref a],[]⟩ [.ref a] [.ref a] _ _ hr e0 (hbind s₁ (.ref a)) (.cons rfl .nil) (hsp H hO hS)) fun r s' h=>?_
  cases r with
  | error e=>exact (hCX H e s' h).elim
  | ok fl =>
    cases fl with
    | next=>exact False.elim h
    | brk=>exact False.elim h
    | cont=>exact False.elim h
    | ret u =>
      obtain⟨v,H',os,bare,un,hok',r',q⟩:=h
      have q':v=.bl true:=q
      subst q'
      obtain rfl:u=Value.bool true:=r'
      refine⟨rfl,OldK.of_keep fun b o e=>?_,os,bare⟩
      cases q:H b with
      | none=>exact un.keep b o e q (by intro z;exact absurd (show b∈([]:List Addr) from z) (by simp)) (by simp)
      | some u =>
        rcases hO b with z|⟨ob,xs,z⟩
        . rw [q] at z;cases z
        . have z2:=un.frzs b ob _ z
          obtain⟨e1,_⟩:=hok b _ z
          obtain⟨e2,_⟩:=hok' b _ z2
          rw [e] at e1;cases e1
          exact e2
 cases hk:K.lookup a with
 | some o =>
   have e:=KX a o hk
   rw [ha] at e
   cases e
   refine core (fun _=>none) (fun _=>.inl rfl) (.inr ⟨_,vs.toArray,_,hk,rfl,rfl,rfl,by rw [List.size_toArray,lenV];exact hl,by simpa using rv⟩) (fun b u z=>by have z':(none:Option HO)=some u:=z;cases z') (fun b z=>absurd rfl z) fun z=>absurd rfl z
 | none =>
   refine core (fun b=>if b=a then some (.frz { cls:=.type "list",data:=.seq vs.toArray } (.lst (ns.map V.int))) else none) (fun b=>?_) (.inl (.inr ⟨{ cls:=.type "list",data:=.seq vs.toArray },if_pos rfl⟩)) (fun b u z=>?_) (fun b z=>?_) fun _=>hk
   . by_cases hb:b=a
     . exact .inr ⟨_,_,if_pos hb⟩
     . exact .inl (if_neg hb)
   . by_cases hb:b=a
     . have z':=(if_pos hb).symm.trans z
       cases z'
       subst hb
       exact ⟨ha,by rw [List.length_map];exact hl,vs,_,rv,ha⟩
     . have z':=(if_neg hb).symm.trans z
       cases z'
   . by_cases hb:b=a
     . exact hb
     . exact absurd (if_neg hb) z
end L2
namespace L2
open PySem PySem.Spec PyProof.Rows
theorem walk_of {l:PySem.W.OpenLaw}{n k:Nat}{q:Program}{loose:List Str}{XP:(Str->Option Value)->Heap->Prop}{YP:World->Heap->Prop}{d:DefRec}{K:Params->PySem.W.Frag}{CX:World->CXT}{sp:World->Sp}{x:Str}
 (hn:l.most=some n) (hn2:n<=sizeLine) (hdf:d.params.defaults=[]) (hr:Room k callerA)
 (hY:∀ (w:World) (h:Heap),YP w h->(K w.params).In h)
 (F:∀ (w:World) (mg:Str->Option Value) (fa:Addr) (h:Heap),(K w.params).In h->h.Ns mainGlobals mg->mg d.name=some (.ref fa) →
   ∃ fd:FuncData,(∀ (s:Shared) (u:Value),BindsTo s fd ⟨[u],[]⟩ [(x,u)]) ∧
     ∀ base:Heap,(K w.params).In base->base.Ns mainGlobals mg->FnOk l.prog w (K w.params) mg base (CX w) k fa fd [x] (sp w))
 (hsp:∀ (w:World) (H:Hp) (a:Addr) (ns:List Int),ns.length<=n->Only H->SqL (K w.params) H a (ns.map V.int)->sp w [.ref a] H (fun v _=>v=.bl true) fun _ _ _=>False)
 (hCX:∀ (w:World) (H:Hp) (s:Shared) (e:Value) (s':Shared),CX w [] H s (fun _ _ _=>False) e s'->False) :
 PySem.W.WalkO q loose XP YP l.row.toRowW d [] (fun f vs=>PySem.call f vs):=by
 refine Att.attach_call hn hdf fun w s₀ s₁ mg mb fa o pm cd doc a vs ns G Y ho hd hcd hmg hobj hints hlen hg=>?_
 have KX:=hY w _ Y
 obtain⟨fd,hb,hF⟩:=F w mg fa _ KX G.T.g hmg
 exact X4 KX G.T.g G.T.b G.T.builtins G.T.nolimit hg hobj hints (Nat.le_trans hlen hn2) hr hF hb (fun H hO hS=>hsp w H a ns hlen hO hS) fun H e s'=>hCX w H s₁ e s'
end L2
namespace L2
open PySem PySem.Spec PyProof.Rows
def Bi (s:Stmt):Arguments:=match s with
 | .FunctionDef _ a _ _ _ _ _ _ _ _=>a
 | _=>{ posonlyargs:=[],args:=[],vararg:=none,kwonlyargs:=[],kw_defaults:=[],kwarg:=none,defaults:=[] }
def Be (s:Stmt):List Stmt:=match s with
 | .FunctionDef _ _ b _ _ _ _ _ _ _=>b
 | _=>[]
def Ag (s:Stmt):Scope:=match s with
 | .FunctionDef _ _ _ _ _ _ sc _ _ _=>sc
 | _=>{ kind:=.function,names:=[],isGenerator:=false,isCoroutine:=false }
abbrev CX0:CXT:=fun _ _ _ _ _ _=>False
abbrev E0:XK:=fun _ _ _=>False
theorem y4 {X:Cx}:Xd CX0 X E0:=fun _ _ _ _ _ _ _ h=>h.elim
structure Fun (K:W.Frag) (x qual:Str) (st:Stmt) (f:Addr) (fd:FuncData):Prop where
 ex:∃ (oc:Value) (od:Option Addr) (kV doc pm:Value) (an:Option Addr) (Cf ct:Value) (osl:Array (Option Value)),
  fd=PySem.W.fnOf x qual (Bi st) (Be st) (Ag st) .none kV doc pm an Cf ct/\K.lookup f=some ⟨oc,od,.func fd,osl⟩/\PySem.W.codeIn K Cf qual=true
 kp:PySem.W.keepIn K (.ref f)=true
section
variable {P:Program}{w:World}{K:W.Frag}{mg:Str->Option Value}{base:Heap}
theorem Fun.ok {x qual:Str}{st:Stmt}{f:Addr}{fd:FuncData}{N ps:List Str}{k:Nat}{sp:Sp} (F:Fun K x qual st f fd) (S:FnScope N ps (Ag st)) (len:∀ vs H Q E,sp vs H Q E->vs.length=ps.length)
 (hbody:∀ (Cf:Value) (A:Around) (outer:List Env) (s:Shared) (H:Hp) (vs:List V) (Q:VK) (E:XK),Room k (A.deeper (envOfC qual (Ag st) s.heap.objs.size f Cf))->sp vs H Q E →
   ∃ t,PSs (cxOf CX0 P w K mg base N qual (Ag st) f Cf A outer s H E).nox (Be st) t/\t { nx:=fun _ H'=>Q .non H',rt:=Q } (start N vs) H):FnOk P w K mg base CX0 (k+1) f fd ps sp:=by
 obtain⟨oc,od,kV,doc,pm,an,Cf,ct,osl,rfl,lk,hcd⟩:=F.ex
 refine q9 lk hcd S len fun A outer s H vs Q E hr hsp=>?_
 obtain⟨t,h,q⟩:=hbody Cf A outer s H vs Q E hr hsp
 exact ⟨t,h.nox,q⟩
theorem Fun.binds {x qual:Str}{st:Stmt}{f:Addr}{fd:FuncData}{ps:List Str} (F:Fun K x qual st f fd)
 (h:∀ (kV doc pm:Value) (an:Option Addr) (Cf ct:Value) (us:List Value),us.length=ps.length->bindArgs (PySem.W.fnOf x qual (Bi st) (Be st) (Ag st) .none kV doc pm an Cf ct) ⟨us,[]⟩=pure (ps.zip us)):O5 K fd ps []:=by
 obtain⟨oc,od,kV,doc,pm,an,Cf,ct,osl,rfl,lk,hcd⟩:=F.ex
 exact .all (h kV doc pm an Cf ct)
theorem B3 {x qual:Str}{st:Stmt}{f:Addr}{oc:Value}{od an:Option Addr}{osl:Array (Option Value)}{kV doc pm Cf ct:Value} (l:K.lookup f=some ⟨oc,od,.func (PySem.W.fnOf x qual (Bi st) (Be st) (Ag st) .none kV doc pm an Cf ct),osl⟩)
 (c:PySem.W.codeIn K Cf qual=true) (k:PySem.W.keepIn K (.ref f)=true):Fun K x qual st f (PySem.W.fnOf x qual (Bi st) (Be st) (Ag st) .none kV doc pm an Cf ct):=⟨⟨oc,od,kV,doc,pm,an,Cf,ct,osl,rfl,l,c⟩,k⟩
end
section
variable {X:Cx}
theorem pv (i:Nat) {x:Str}{pos:Pos} (hN:X.N[i]?=some x:=by rfl) (hv:Vis X.env.scope x:=by first | exact Or.inl rfl | exact Or.inr (Or.inl rfl) | exact Or.inr (Or.inr rfl)) (hd:(x==("__debug__":Str))=false:=by decide)
 (hcd:(x==("__classdict__":Str))=false:=by decide):PE X (.Name x pos) (tVar i):=i8 hN hv hd hcd
end
theorem ite2 {c A B:Prop} [Decidable c] (h1:c->A) (h2:¬c->B):if c then A else B:=by
 by_cases h:c
 . rw [if_pos h]
   exact h1 h
 . rw [if_neg h]
   exact h2 h
def Same (H H':Hp):Prop:=∀ b o,H b=some o->H' b=some o
theorem Same.refl (H:Hp):Same H H:=fun _ _ h=>h
theorem Same.trans {H H1 H2:Hp} (a:Same H H1) (b:Same H1 H2):Same H H2:=fun c o h=>b c o (a c o h)
theorem Same.free {H H':Hp} (e:Same H H') {l:Addr} (h:H' l=Option.none):H l=Option.none:=by
 cases q:H l with
 | none=>rfl
 | some o =>
   rw [e l o q] at h
   cases h
theorem Same.seq {K:W.Frag}{H H':Hp}{a:Addr}{xs:List V} (e:Same H H') (h:SqL K H a xs):SqL K H' a xs:=by
 rcases h with (h|⟨o,h⟩) | h
 . exact .inl (.inl (e _ _ h))
 . exact .inl (.inr ⟨o,e _ _ h⟩)
 . exact .inr h
end L2
namespace L2
open PySem PySem.Spec PyProof.Rows
section
variable {κ:Type} [DecidableEq κ]
def valV (Aw:List (κ × V)) (k:κ):Option V:=(Aw.find? fun kv=>decide (kv.1=k)).map (·.2)
def putK (Aw:List (κ × V)) (k:κ) (v:V):List (κ × V) :=
 if (Aw.any fun kv=>decide (kv.1=k))=true then Aw.map (fun kv=>if kv.1=k then (kv.1,v) else kv) else Aw++[(k,v)]
theorem M5 {p:κ × V}{r:List (κ × V)}{k:κ} (e:p.1=k):valV (p::r) k=some p.2:=by simp [valV,List.find?_cons,e]
theorem M6 {p:κ × V}{r:List (κ × V)}{k:κ} (e:¬p.1=k):valV (p::r) k=valV r k:=by simp [valV,List.find?_cons,e]
theorem M7 (k:κ):∀ Aw:List (κ × V),(Aw.any fun kv=>decide (kv.1=k))=(valV Aw k).isSome
 | []=>rfl
 | p::r=>by
   rw [List.any_cons]
   by_cases e:p.1=k
   . simp only [M5 e,decide_eq_true e,Bool.true_or,Option.isSome_some]
   . rw [M6 e,decide_eq_false e,Bool.false_or];exact M7 k r
theorem Gk (Aw:List (κ × V)) (k:κ) (v:V):(putK Aw k v).length<=Aw.length+1:=by
 unfold putK
 split
 . rw [List.length_map];omega
 . rw [List.length_append,List.length_cons,List.length_nil];omega
theorem RelO.isSome_eq {o:Option V}{u:Option Value} (r:RelO o u):o.isSome=u.isSome:=by
 cases o with
 | none=>cases u with
   | none=>rfl
   | some _=>exact (show False from r).elim
 | some _=>cases u with
   | none=>exact (show False from r).elim
   | some _=>rfl
theorem KV.val {Aw:List (κ × V)}{vs:List (κ × Value)} (r:KV Aw vs) (k:κ):RelO (valV Aw k) (valueAt vs k):=by
 unfold KV at r
 induction r with
 | nil=>exact True.intro
 | @cons p q ps qs h t ih =>
   obtain⟨h1,h2⟩:=h
   by_cases e:p.1=k
   . have e':q.1=k:=h1.symm.trans e
     have b:valueAt (q::qs) k=some q.2:=by simp [valueAt,List.find?_cons,e']
     rw [M5 e,b];exact h2
   . have e':¬q.1=k:=fun z=>e (h1.trans z)
     have b:valueAt (q::qs) k=valueAt qs k:=by simp [valueAt,List.find?_cons,e']
     rw [M6 e,b];exact ih
theorem KV.any {Aw:List (κ × V)}{vs:List (κ × Value)} (r:KV Aw vs) (k:κ):(Aw.any fun kv=>decide (kv.1=k))=vs.any fun kv=>decide (kv.1=k):=by
 unfold KV at r
 induction r with
 | nil=>rfl
 | cons h t ih=>rw [List.any_cons,List.any_cons,ih,h.1]
theorem KV.repl {Aw:List (κ × V)}{vs:List (κ × Value)} (r:KV Aw vs) (k:κ) {y:V}{u:Value} (ry:RelV y u) :
 KV (Aw.map fun kv=>if kv.1=k then (kv.1,y) else kv) (vs.map fun kv=>if kv.1=k then (kv.1,u) else kv):=by
 unfold KV at r ⊢
 induction r with
 | nil=>exact .nil
 | @cons p q ps qs h t ih =>
   rw [List.map_cons,List.map_cons]
   refine .cons ?_ ih
   obtain⟨h1,h2⟩:=h
   by_cases e:p.1=k
   . rw [if_pos e,if_pos (h1.symm.trans e)];exact ⟨h1,ry⟩
   . rw [if_neg e,if_neg (fun z=>e (h1.trans z))];exact ⟨h1,h2⟩
theorem KV.put {Aw:List (κ × V)}{vs:List (κ × Value)} (r:KV Aw vs) (k:κ) {y:V}{u:Value} (ry:RelV y u):KV (putK Aw k y) (stored vs k u):=by
 unfold putK stored
 rw [r.any k]
 by_cases e:(vs.any fun kv=>decide (kv.1=k))=true
 . rw [if_pos e,if_pos e];exact r.repl k ry
 . rw [if_neg e,if_neg e];exact Paired.snoc r ⟨rfl,ry⟩
theorem KV.keys {Aw:List (κ × V)}{vs:List (κ × Value)} (r:KV Aw vs):Aw.map (·.1)=vs.map (·.1):=by
 unfold KV at r
 induction r with
 | nil=>rfl
 | cons h t ih=>rw [List.map_cons,List.map_cons,ih,h.1]
theorem KV.length {Aw:List (κ × V)}{vs:List (κ × Value)} (r:KV Aw vs):Aw.length=vs.length:=Paired.length r
end
theorem kV_is {P:Program}{w:World}{k:Key}{u:Value} (r:RelV (kV k) u):(mixKind P w).is k u=true:=by
 cases k with
 | inl i=>obtain⟨t,e⟩:=(show ∃ t,u=Value.int i t from r);subst e;exact Sv P w i t
 | inr x=>obtain⟨t,e⟩:=(show ∃ t,u=Value.str x t from r);subst e;exact Su P w x t
theorem Qw {P:Program}{w:World}:∀{ks:List Key}{us:List Value},Vals (ks.map kV) us->ItemsAre (mixKind P w) ks us
 | [],_,r=>by rw [List.map_nil] at r;cases r;exact .nil
 | k::ks,_,r=>by
   rw [List.map_cons] at r
   cases r with
   | cons h t=>exact .cons (kV_is h) (Qw t)
abbrev KT (H:Hp):List (List Key × V)->List (List Key × Addr × Value)->Prop:=Paired fun p q=>p.1=q.1/\H q.2.1=some (.tup (p.1.map kV))/\RelV p.2 q.2.2
theorem KT.val {H:Hp}{Aw:List (List Key × V)}{xs:List (List Key × Addr × Value)} (r:KT H Aw xs) (k:List Key):RelO (valV Aw k) ((atKey xs k).map (·.2)):=by
 induction r with
 | nil=>exact True.intro
 | @cons p q ps qs h t ih =>
   obtain⟨h1,_,h2⟩:=h
   by_cases e:p.1=k
   . have e':q.1=k:=h1.symm.trans e
     have b:atKey (q::qs) k=some q.2:=by simp [atKey,List.find?_cons,e']
     rw [M5 e,b];exact h2
   . have e':¬q.1=k:=fun z=>e (h1.trans z)
     have b:atKey (q::qs) k=atKey qs k:=by simp [atKey,List.find?_cons,e']
     rw [M6 e,b];exact ih
theorem KT.repl {H:Hp}{Aw:List (List Key × V)}{xs:List (List Key × Addr × Value)} (r:KT H Aw xs) (k:List Key) {y:V}{u:Value} (ry:RelV y u) :
 KT H (Aw.map fun kv=>if kv.1=k then (kv.1,y) else kv) (xs.map (putAt k u)):=by
 induction r with
 | nil=>exact .nil
 | @cons p q ps qs h t ih =>
   rw [List.map_cons,List.map_cons]
   refine .cons ?_ ih
   obtain⟨h1,h2,h3⟩:=h
   unfold putAt
   by_cases e:p.1=k
   . rw [if_pos e,if_pos (h1.symm.trans e)];exact ⟨h1,h2,ry⟩
   . rw [if_neg e,if_neg (fun z=>e (h1.trans z))];exact ⟨h1,h2,h3⟩
theorem KT.put {H:Hp}{Aw:List (List Key × V)}{xs:List (List Key × Addr × Value)} (r:KT H Aw xs) (k:List Key) {b:Addr}{y:V}{u:Value} (hb:H b=some (.tup (k.map kV))) (ry:RelV y u) :
 KT H (putK Aw k y) (storedH xs k b u):=by
 have e:(Aw.any fun kv=>decide (kv.1=k))=(atKey xs k).isSome:=by
  rw [M7,(r.val k).isSome_eq,Option.isSome_map]
 unfold putK storedH
 rw [e]
 by_cases q:(atKey xs k).isSome=true
 . rw [if_pos q,if_pos q];exact r.repl k ry
 . rw [if_neg q,if_neg q];exact Paired.snoc r ⟨rfl,hb,ry⟩
theorem KT.keeps {H H':Hp}{Aw:List (List Key × V)}{xs:List (List Key × Addr × Value)} (r:KT H Aw xs) (ht:∀ b ys,H b=some (.tup ys)->H' b=some (.tup ys)):KT H' Aw xs :=
 Paired.mapP r fun _ _ z=>⟨z.1,ht _ _ z.2.1,z.2.2⟩
section
variable {P:Program}{w:World}{H:Hp}{h:Heap}{a:Addr}
theorem f8 {u:HO} (ok:HOk P w H h) (e:Rd H a u):Dp P w H h a u:=e.ok ok
theorem Yg {Aw:List (Key × V)} (ok:HOk P w H h) (e:Rd H a (.dK Aw)):Aw.length<=sizeLine/\(a==sysModules)=false/\∃ vs,KV Aw vs/\h.DictOf (mixKind P w) a vs :=
 show Dp P w H h a (.dK Aw) from f8 ok e
theorem Aa8 {Aw:List (Key × V)} (ok:HOk P w H h) (e:H a=some (.dK Aw)):Aw.length<=sizeLine/\(a==sysModules)=false/\∃ vs,KV Aw vs/\h.DictOf (mixKind P w) a vs:=Yg ok (.inl e)
theorem Tx {ks:List Key} (ok:HOk P w H h) (e:H a=some (.tup (ks.map kV))):(tupleKind (mixKind P w)).is h ks a:=by
 obtain⟨_,its,r,o,h1,h2,_,n,h3⟩:=(show Dp P w H h a (.tup (ks.map kV)) from ok a _ e)
 exact ⟨o,its.toArray,n,h1,h2,h3,by simpa using Qw r⟩
theorem Yf {Aw:List (List Key × V)} (ok:HOk P w H h) (e:Rd H a (.dT Aw)):Aw.length<=sizeLine/\(a==sysModules)=false ∧
 ∃ xs,KT H Aw xs/\h.DictOfH (tupleKind (mixKind P w)) a xs:=by
 obtain⟨z,y,xs,r,o,es,ep,h1,h2,h3,h4,h5⟩:=(show Dp P w H h a (.dT Aw) from f8 ok e)
 refine⟨z,y,xs,r,o,es,ep,h1,h2,h3,h4,fun x hx=>?_,h5⟩
 have all:∀{l:List (List Key × V)}{m:List (List Key × Addr × Value)},KT H l m->∀ x∈m,(tupleKind (mixKind P w)).is h x.1 x.2.1:=by
  intro l m q
  induction q with
  | nil=>intro x hx;exact nomatch hx
  | @cons p q ps qs hq t ih =>
    intro x hx
    rcases List.mem_cons.mp hx with e | hx
    . subst e
      exact Tx ok (by rw [←hq.1];exact hq.2.1)
    . exact ih x hx
 exact all r x hx
theorem Aa7 {Aw:List (List Key × V)} (ok:HOk P w H h) (e:H a=some (.dT Aw)):Aw.length<=sizeLine/\(a==sysModules)=false ∧
 ∃ xs,KT H Aw xs/\h.DictOfH (tupleKind (mixKind P w)) a xs:=Yf ok (.inl e)
end
def DGet (H:Hp) (a:Addr) (y:V) (r:Option V):Prop :=
 (∃ Aw k,Rd H a (.dK Aw)/\y=kV k/\r=valV Aw k)\/∃ Aw k b,Rd H a (.dT Aw)/\y=.ref b/\H b=some (.tup (k.map kV))/\r=valV Aw k
def DPut (H:Hp) (a:Addr) (y v:V) (H':Hp):Prop :=
 (∃ Aw k,H a=some (.dK Aw)/\y=kV k/\Aw.length<sizeLine/\H'=upd H a (.dK (putK Aw k v))) ∨
 ∃ Aw k b,H a=some (.dT Aw)/\y=.ref b/\H b=some (.tup (k.map kV))/\Aw.length<sizeLine/\H'=upd H a (.dT (putK Aw k v))
theorem DGet.k {H:Hp}{a:Addr}{Aw:List (Key × V)}{k:Key} (e:H a=some (.dK Aw)):DGet H a (kV k) (valV Aw k):=.inl ⟨Aw,k,.inl e,rfl,rfl⟩
theorem DPut.k {H:Hp}{a:Addr}{Aw:List (Key × V)}{k:Key}{v:V} (e:H a=some (.dK Aw)) (hl:Aw.length<sizeLine):DPut H a (kV k) v (upd H a (.dK (putK Aw k v))):=.inl ⟨Aw,k,e,rfl,hl,rfl⟩
section
variable {X:Cx}{Ab:List (Addr × Obj)}{σ:St}{H:Hp}{s:Shared}{a:Addr}{y v:V}{u r:Value}{o:Option V}{A:Around}{E:Value->Shared->Prop}
theorem Inv.big (I:Inv X Ab σ H s):sysModules<s.heap.objs.size:=by
 have h:mainGlobals<s.heap.objs.size:=(I.mod.glob.keeps I.bk).lt
 exact Nat.lt_trans (by decide) h
theorem Wo {Q:Value->Shared->Prop} (hu:A.units+1<cLine) (I:Inv X Ab σ H s) (g:DGet H a y (some v)) (ry:RelV y u) (h:∀ w' s',Inv X Ab σ H s'->RelV v w'->Q w' s') :
 wpAny (model X.prog X.w) A (getItem (.ref a) u) Q E s:=by
 rcases g with ⟨Aw,k,e,ey,l⟩|⟨Aw,k,b,e,ey,eb,l⟩
 . subst ey
   obtain⟨z,hd,vs,rel,dd⟩:=Yg I.hok e
   obtain⟨w',hw,rw'⟩:=RelO.some_of (v:=v) (o:=valueAt vs k) (by rw [l];exact rel.val k)
   exact wpAny_getItem_of (kV_is ry) dd.mapOf hw (h w' _ (I.tok _) rw')
 . subst ey
   cases (show u=Value.ref b from ry)
   obtain⟨z,hd,xs,rel,dd⟩:=Yf I.hok e
   obtain⟨w',hw,rw'⟩:=RelO.some_of (v:=v) (o:=(atKey xs k).map (·.2)) (by rw [l];exact rel.val k)
   obtain⟨p,hp,hp2⟩:=Option.map_eq_some_iff.mp hw
   refine wpAny_getItem_heap (tupleKind_room_in1 hu) (Tx I.hok eb) dd hp ?_
   rw [hp2]
   exact h w' _ (I.tok _) rw'
theorem d_in {Q:Value->Shared->Prop} (hu:A.units+1<cLine) (I:Inv X Ab σ H s) (g:DGet H a y o) (ry:RelV y u) (h:∀ s',Inv X Ab σ H s'->Q (.bool o.isSome) s') :
 wpAny (model X.prog X.w) A (compareOp .In u (.ref a)) Q E s:=by
 rcases g with ⟨Aw,k,e,ey,l⟩|⟨Aw,k,b,e,ey,eb,l⟩
 . subst ey
   obtain⟨z,hd,vs,rel,dd⟩:=Yg I.hok e
   refine wpAny_in_of (kV_is ry) hd dd.mapOf ?_
   rw [←(rel.val k).isSome_eq,←l]
   exact h _ (I.tok _)
 . subst ey
   cases (show u=Value.ref b from ry)
   obtain⟨z,hd,xs,rel,dd⟩:=Yf I.hok e
   refine wpAny_in_heap (tupleKind_room_in1 hu) (Tx I.hok eb) hd dd ?_
   have q:=(rel.val k).isSome_eq
   rw [Option.isSome_map] at q
   rw [←q,←l]
   exact h _ (I.tok _)
theorem Wm {h':Heap}{t':Nat}{ob:HO} (I:Inv X Ab σ H s) (mu:Mut (H a)) (hs:Heap.SameBut a s.heap h') (he:∃ q,h'.get? a=some q) (new:Dp X.prog X.w (upd H a ob) h' a ob) :
 Inv X Ab σ (upd H a ob) { s with heap:=h',toks:=t' } :=
 I.write (x:=a) (e:=a) mu (.inl rfl) (fun b q hb z=>(hs.2 b hb).trans z) he new
theorem Yx {P:Program}{w:World}{H':Hp}{h':Heap}{Aw:List (Key × V)}{vs:List (Key × Value)} (z:Aw.length<=sizeLine) (hd:(a==sysModules)=false) (rel:KV Aw vs) (dd:h'.DictOf (mixKind P w) a vs) :
 Dp P w H' h' a (.dK Aw):=⟨z,hd,vs,rel,dd⟩
theorem Wn {H':Hp}{Q:Unit->Shared->Prop} (hu:A.units+1<cLine) (I:Inv X Ab σ H s) (g:DPut H a y v H') (ry:RelV y u) (rv:RelV v r) (h:∀ s',Inv X Ab σ H' s'->Q () s') :
 wpAny (model X.prog X.w) A (setItem (.ref a) u r) Q E s:=by
 rcases g with ⟨Aw,k,e,ey,l,eH⟩|⟨Aw,k,b,e,ey,eb,l,eH⟩
 . subst ey eH
   obtain⟨z,hd,vs,rel,dd⟩:=Aa8 I.hok e
   have hz:vs.length<=sizeLine:=by rw [←rel.length];exact z
   have hl:(putK Aw k v).length<=sizeLine:=by have:=Gk Aw k v;omega
   refine wpAny_setItem_pairs (hsz:=hz) (kV_is ry) dd fun h' dd' hs=>h _ ?_
   have he:∃ q,h'.get? a=some q:=let ⟨q,_,_,hq,_⟩:=dd';⟨q,hq⟩
   exact Wm I (by rw [e];exact True.intro) hs he (Yx hl hd (rel.put k rv) dd')
 . subst ey eH
   cases (show u=Value.ref b from ry)
   obtain⟨z,hd,xs,rel,dd⟩:=Aa7 I.hok e
   have hz:xs.length<=sizeLine:=by rw [←Paired.length rel];exact z
   have hl:(putK Aw k v).length<=sizeLine:=by have:=Gk Aw k v;omega
   refine wpAny_setItem_heap (hsz:=hz) (tupleKind_room_in1 hu) (Tx I.hok eb) dd fun h' dd' hs=>h _ ?_
   obtain⟨q,es,ep,hq,h2,h3,h4,_,h5⟩:=dd'
   refine Wm I (by rw [e];exact True.intro) hs ⟨q,hq⟩ ⟨hl,hd,_,(rel.put k eb rv).keeps fun c ys ec=>?_,q,es,ep,hq,h2,h3,h4,h5⟩
   rw [A7 (V0 ec e (fun z=>nomatch z))]
   exact ec
end
section
variable {X:Cx}{Ab:List (Addr × Obj)}{σ:St}{H:Hp}{s:Shared}{a:Addr}{Aw:List (Key × V)}{k:Key}{u:Value}{A:Around}{E:Value->Shared->Prop}
end
theorem dict_typeIs {X:Cx}{Ab:List (Addr × Obj)}{σ:St}{H:Hp}{s:Shared}{a:Addr}{y:V}{o:Option V} (I:Inv X Ab σ H s) (g:DGet H a y o):s.TypeIs (.ref a) "dict":=by
 rcases g with ⟨Aw,k,e,_,_⟩|⟨Aw,k,b,e,_,_,_⟩
 . obtain⟨_,_,vs,_,dd⟩:=Yg I.hok e
   exact dd.typeIs
 . obtain⟨_,_,xs,_,dd⟩:=Yf I.hok e
   exact dd.typeIs
def x9 (td ty tv:TE):TS:=fun D σ H=>tv σ H fun v H1=>td σ H1 fun x H2=>ty σ H2 fun y H3=>∃ a H4,x=.ref a/\DPut H3 a y v H4/\D.nx σ H4
section
variable {X:Cx}{o i e value:Expr}{pos pos' tpos:Pos}{td ty tv:TE}
theorem Ze (hu:X.A.units+1<cLine) (ho:PE X o td) (hi:PE X i ty) (hv:PE X value tv) (hs:swapsWith value (some (.Subscript o i pos')) pos.line X.env=pure false) :
 PS X (.Assign [.Subscript o i pos'] value pos) (x9 td ty tv):=by
 intro Ab s σ H D I h
 refine wpAny_Assign_Subscript (thn (hv Ab s σ H _ I h) fun r s1 ⟨v,H1,I1,rv,q1⟩=>thn (ho Ab s1 σ H1 _ I1 q1) fun u s2 ⟨x,H2,I2,rx,q2⟩=>thn (hi Ab s2 σ H2 _ I2 q2) fun iv s3 ⟨y,H3,I3,ry,a,H4,ex,g,q3⟩=>?_) hs
 subst ex
 obtain rfl:u=Value.ref a:=rx
 exact Wn hu I3 g ry rv fun s4 I4=>⟨σ,H4,I4,q3⟩
end
section
variable {X:Cx}{pos:Pos}
end
def mergeK (Aw more:List (Key × V)):List (Key × V):=more.foldl (fun acc kv=>putK acc kv.1 kv.2) Aw
theorem KV.merge:∀{more:List (Key × V)}{rs:List (Key × Value)}{Aw:List (Key × V)}{vs:List (Key × Value)},KV more rs->KV Aw vs->KV (mergeK Aw more) (merged vs rs):=by
 intro more rs Aw vs r
 unfold KV at r
 induction r generalizing Aw vs with
 | nil=>intro q;exact q
 | @cons p q ps qs h t ih =>
   intro r0
   have e:KV (putK Aw p.1 p.2) (stored vs q.1 q.2):=by
    have:=r0.put p.1 h.2
    rw [←h.1];exact this
   exact ih e
theorem Hk:∀ (more Aw:List (Key × V)),(mergeK Aw more).length<=Aw.length+more.length
 | [],Aw=>by show Aw.length<=Aw.length+0;omega
 | p::r,Aw=>by
   have h1:=Hk r (putK Aw p.1 p.2)
   have h2:=Gk Aw p.1 p.2
   show (mergeK (putK Aw p.1 p.2) r).length<=_
   rw [List.length_cons];omega
section
variable {X:Cx}{Ab:List (Addr × Obj)}{σ:St}{H:Hp}{s:Shared}{a:Addr}{y d:V}{u r:Value}{o:Option V}{A:Around}{E:Value->Shared->Prop}
end
section
variable {X:Cx}{o e f:Expr}{apos cpos:Pos}{td ty tx:TE}
end
section
variable {X:Cx}{Ab:List (Addr × Obj)}{σ:St}{H:Hp}{s:Shared}{a:Addr}{Aw:List (Key × V)}{A:Around}{E:Value->Shared->Prop}
end
section
variable {X:Cx}{Ab:List (Addr × Obj)}{σ:St}{H:Hp}{s:Shared}{a:Addr}{y:V}{u:Value}{A:Around}{E:Value->Shared->Prop}
end
end L2
namespace L2
open PySem PySem.Spec PyProof.Rows
section
variable {X:Cx}
end
end L2
namespace L2
open PySem PySem.Spec PyProof.Rows
def clOf (cells:List (Str × Addr)):List (Str × NameKind)->List (Str × Addr)->List (Str × Addr)
 | [],acc=>acc
 | (n,k)::r,acc=>clOf cells r (if (k==NameKind.free)=true then (n,(cells.lookup n).getD 0)::acc else acc)
theorem Jo {sc:Scope}{env:Env} (h:∀ n,(n,NameKind.free)∈sc.names->∃ c,env.cells.lookup n=some c):closureFor sc env=pure (clOf env.cells sc.names []):=by
 have all:∀ (l:List (Str × NameKind)) (acc:List (Str × Addr)),(∀ n,(n,NameKind.free)∈l->∃ c,env.cells.lookup n=some c) →
  (forIn l acc fun (x:Str × NameKind) (cs:List (Str × Addr))=>match x with
    | (name,kind)=>if (kind==NameKind.free)=true then (do let c ←cellOf env name;pure (ForInStep.yield ((name,c)::cs))) else pure (ForInStep.yield cs))=(pure (clOf env.cells l acc):Sem _):=by
  intro l
  induction l with
  | nil=>intro acc _;rfl
  | cons x r ih =>
    intro acc hl
    obtain⟨n,k⟩:=x
    rw [List.forIn_cons]
    by_cases hk:(k==NameKind.free)=true
    . have hk':k=NameKind.free:=by simpa using hk
      subst hk'
      obtain⟨c,hc⟩:=hl n List.mem_cons_self
      have e1:cellOf env n=pure c:=by unfold cellOf;rw [hc]
      simp only [beq_self_eq_true,if_true,e1,pure_bind]
      rw [ih _ fun m hm=>hl m (List.mem_cons_of_mem _ hm)]
      show _=(pure (clOf env.cells r (if (NameKind.free==NameKind.free)=true then (n,(env.cells.lookup n).getD 0)::acc else acc)):Sem _)
      rw [if_pos (by simp),hc]
      rfl
    . have hk2:(k==NameKind.free)=false:=by simpa using hk
      simp only [hk2,Bool.false_eq_true,if_false,pure_bind]
      rw [ih _ fun m hm=>hl m (List.mem_cons_of_mem _ hm)]
      show _=(pure (clOf env.cells r (if (k==NameKind.free)=true then (n,(env.cells.lookup n).getD 0)::acc else acc)):Sem _)
      rw [if_neg hk]
 have:=all sc.names [] h
 unfold closureFor
 dsimp only
 rw [this,pure_bind]
theorem Cm {cells:List (Str × Addr)}{x:Str}{c:Addr}:∀{l:List (Str × NameKind)}{acc:List (Str × Addr)},(∀ n,(n,NameKind.free)∈l->∃ c,cells.lookup n=some c) →
 (acc.lookup x=some c->cells.lookup x=some c)->(clOf cells l acc).lookup x=some c->cells.lookup x=some c
 | [],_,_,ha,h=>ha h
 | (n,k)::r,acc,hl,ha,h=>by
   refine Cm (l:=r) (fun m hm=>hl m (List.mem_cons_of_mem _ hm)) ?_ h
   by_cases hk:(k==NameKind.free)=true
   . rw [if_pos hk]
     have hk':k=NameKind.free:=by simpa using hk
     subst hk'
     obtain⟨d,hd⟩:=hl n List.mem_cons_self
     intro e
     rw [List.lookup_cons] at e
     cases hx:x==n with
     | true =>
       rw [hx] at e
       have hxn:x=n:=by simpa using hx
       subst hxn
       rw [hd] at e ⊢
       exact e
     | false=>rw [hx] at e;exact ha e
   . rw [if_neg hk];exact ha
theorem Ox {cells:List (Str × Addr)}{x:Str}:∀{l:List (Str × NameKind)}{acc:List (Str × Addr)},((x,NameKind.free)∈l\/∃ c,acc.lookup x=some c)->∃ c,(clOf cells l acc).lookup x=some c
 | [],_,h=>by
   rcases h with h | h
   . exact nomatch h
   . exact h
 | (n,k)::r,acc,h=>by
   refine Ox (l:=r) ?_
   by_cases hk:(k==NameKind.free)=true
   . rw [if_pos hk]
     by_cases hx:(x==n)=true
     . exact .inr ⟨(cells.lookup n).getD 0,by rw [List.lookup_cons,hx]⟩
     . have hx2:(x==n)=false:=by simpa using hx
       rcases h with h|⟨c,h⟩
       . rcases List.mem_cons.mp h with e | e
         . have e1:x=n:=congrArg Prod.fst e
           exact absurd (by simp [e1]) hx
         . exact .inl e
       . exact .inr ⟨c,by rw [List.lookup_cons,hx2];exact h⟩
   . rw [if_neg hk]
     rcases h with h | h
     . rcases List.mem_cons.mp h with e | e
       . have e2:NameKind.free=k:=congrArg Prod.snd e
         exact absurd (by simp [←e2]) hk
       . exact .inl e
     . exact .inr h
def Bw (X:Cx) (sc:Scope) (N':List Str) (C:Addr) (s₀:Shared) (H₀:Hp) (fp:List Addr):Cx where
 prog:=X.prog
 w:=X.w
 K:=X.K
 mg:=X.mg
 base:=X.base
 A:=X.A
 N:=N'
 s₀:=s₀
 H₀:=H₀
 env:=compEnvC sc (clOf X.env.cells sc.names []) C X.env
 outer:=X.stack
 stack:=X.stack
 ex:=fp
 fn:=fun _=>false
 calm:=X.calm
 pn:=[]
 xe:=fun _ _=>False
def capS (cap:List (Option Nat)) (σ:St):St:=cap.map fun o=>o.bind fun j=>(σ[j]?).join
structure Mk (X:Cx) (sc:Scope) (N':List Str) (cap:List (Option Nat)):Prop where
 kind:sc.kind=.function
 len:cap.length=N'.length
 nocell:∀ x∈sc.names,x.2≠NameKind.cell
 locals:∀ x∈sc.names,x.2=NameKind.local->sc.names.lookup x.1=some NameKind.local
 free:∀ n,(n,NameKind.free)∈sc.names->X.env.kindOf n=some .cell\/X.env.kindOf n=some .free
 slots:∀ (i j:Nat) (x:Str),N'[i]?=some x->cap[i]?=some (some j)->X.N[j]?=some x/\((relabel sc X.env).names.lookup x=some .cell\/(relabel sc X.env).names.lookup x=some .free)/\Vis X.env.scope x
section
variable {X:Cx}{sc:Scope}{N':List Str}{cap:List (Option Nat)}{Ab:List (Addr × Obj)}{σ:St}{H:Hp}{s:Shared}{C:Addr}{fp:List Addr}
theorem Mk.cells (c:Mk X sc N' cap) (ok:X.Ok):∀ n,(n,NameKind.free)∈sc.names->∃ c,X.env.cells.lookup n=some c:=fun n hn=>ok.has n (c.free n hn)
theorem Eo {env:Env}{x:Str}{k:NameKind} (hnc:∀ x∈sc.names,x.2≠NameKind.cell) (h:(relabel sc env).names.lookup x=some k) (hk:k=.cell\/k=.free):(x,NameKind.free)∈sc.names:=by
 have all:∀ (l:List (Str × NameKind)),(∀ x∈l,x.2≠NameKind.cell)->(l.map fun (n,k)=>if (k==NameKind.free&&env.scope.kind==.function&&env.kindOf n==some .cell) then (n,NameKind.cell) else (n,k)).lookup x=some k->(x,NameKind.free)∈l:=by
  intro l
  induction l with
  | nil=>intro _ h;exact nomatch h
  | cons p r ih =>
    intro hn h
    obtain⟨n,q⟩:=p
    rw [List.map_cons,List.lookup_cons] at h
    by_cases hc:(q==NameKind.free&&env.scope.kind==.function&&env.kindOf n==some .cell)=true
    . have hq:q=NameKind.free:=by
       have:=hc
       simp only [Bool.and_eq_true] at this
       simpa using this.1.1
      simp only [hc,if_true] at h
      cases hx:x==n with
      | true =>
        have e:x=n:=by simpa using hx
        rw [e,hq]
        exact List.mem_cons_self
      | false =>
        rw [hx] at h
        exact List.mem_cons_of_mem _ (ih (fun y hy=>hn y (List.mem_cons_of_mem _ hy)) h)
    . simp only [hc] at h
      cases hx:x==n with
      | true =>
        have e:x=n:=by simpa using hx
        simp only [Bool.false_eq_true,if_false,hx] at h
        have e2:q=k:=by simpa using h
        rcases hk with z | z
        . exact absurd (e2.trans z) (hn (n,q) List.mem_cons_self)
        . rw [e,←z,←e2]
          exact List.mem_cons_self
      | false =>
        simp only [Bool.false_eq_true,if_false,hx] at h
        exact List.mem_cons_of_mem _ (ih (fun y hy=>hn y (List.mem_cons_of_mem _ hy)) h)
 exact all sc.names hnc h
theorem Z7 (c:Mk X sc N' cap) (I:Inv X Ab σ H s) (hC:s.heap.objs.size<=C) (hf:∀ b∈fp,FpOk X Ab H b) (hb:∀ b∈fp,b<s.heap.objs.size):(Bw X sc N' C s H fp).Ok where
 mod:=I.ok.mod
 kind:=c.kind
 glob:=I.ok.glob
 blt:=I.ok.blt
 above:=hC
 inj:=fun x y a hx hy=>I.ok.inj x y a (Cm (c.cells I.ok) (fun z=>by simp at z) hx) (Cm (c.cells I.ok) (fun z=>by simp at z) hy)
 has:=fun x hx=>by
  refine Ox (.inl ?_)
  rcases hx with hx | hx
  . exact Eo c.nocell hx (.inl rfl)
  . exact Eo c.nocell hx (.inr rfl)
 cab:=fun _ _ h=>nomatch h
 hd:=I.ok.hd
 frames:=I.ok.frames
 stk:=.inl rfl
 exf:=fun b hb'=>⟨Nat.ne_of_lt (Nat.lt_of_lt_of_le (hb b hb') hC),fun x a e=>(hf b hb').2.2.2.2.1 x a (Cm (c.cells I.ok) (fun z=>by simp at z) e)⟩
 bs:=I.bs
 bsz:=Nat.le_trans I.ok.bsz I.sz
 noex:=fun b o e hb'=>by
  rcases (hf b hb').2.2.2.1 with z | z
  . exact I.ok.noex b o e z
  . exact absurd (Nat.lt_of_lt_of_le (Heap.lt_size e) (Nat.le_trans I.ok.bsz z)) (Nat.lt_irrefl _)
 exfs:=fun b hb' z=>by
  obtain⟨_,f1,f2,_⟩:=hf b hb'
  rcases List.mem_cons.mp (I.stkSub b z) with e | e
  . exact f1 e
  . exact f2 e
 funs:=I.stack
 frf:=I.stkFree
theorem T7 (c:Mk X sc N' cap) (I:Inv X Ab σ H s) {D:Addr}{h1:Heap}{t:Nat} (hC:C=s.heap.objs.size+1) (hD:D=s.heap.objs.size) (hf:∀ b∈fp,FpOk X Ab H b) (hb:∀ b∈fp,b<s.heap.objs.size)
 (hn:h1.Ns C fun _=>none) (hl:h1.get? D=some { cls:=.type "list",data:=.seq #[] 0 }) (k:∀ b o,s.heap.get? b=some o->h1.get? b=some o) :
 Inv (Bw X sc N' C s H fp) [] (capS cap σ) (upd H D (.lst [])) { s with heap:=h1,toks:=t }:=by
 have hCs:s.heap.objs.size<=C:=by rw [hC];exact Nat.le_succ _
 have hCD:C≠D:=by rw [hC,hD];exact Nat.succ_ne_self _
 have ok:=Z7 (C:=C) (fp:=fp) c I hCs hf hb
 have hDn:H D=none:=by rw [hD];exact I.fresh
 have ltc:∀ x a,(clOf X.env.cells sc.names []).lookup x=some a->X.env.cells.lookup x=some a:=fun x a e=>Cm (c.cells I.ok) (fun z=>by simp at z) e
 have cel:∀ a v,s.heap.IsCell a v->h1.IsCell a v:=fun a v ⟨o,ho,hd⟩=>⟨o,k a o ho,hd⟩
 have ltD:∀ a v,s.heap.IsCell a v->a≠D:=fun a v ⟨o,ho,hd⟩=>by rw [hD];exact Nat.ne_of_lt (Heap.lt_size ho)
 refine⟨ok,rfl,I.bare,Un.laid k (by rw [hD];exact Nat.le_refl _) hDn,⟨_,hn,fun i x v e1 e2 e3=>?_⟩,fun x a e=>?_,?_,fun x a e=>?_,fun p hp=>absurd hp (by simp [Bw]),?_,?_⟩
 . have e2':cap[i]?.map (fun o=>o.bind fun j=>(σ[j]?).join)=some (some v):=by
    have:=e2
    unfold capS at this
    rw [List.getElem?_map] at this
    exact this
   cases hc:cap[i]? with
   | none=>rw [hc] at e2';cases e2'
   | some o =>
     rw [hc] at e2'
     cases o with
     | none=>cases e2'
     | some j =>
       have e4:(σ[j]?).join=some v:=by simpa using e2'
       obtain⟨q1,q2',q3⟩:=c.slots i j x e1 hc
       have q2:(x,NameKind.free)∈sc.names:=q2'.elim (fun z=>Eo c.nocell z (.inl rfl)) fun z=>Eo c.nocell z (.inr rfl)
       obtain⟨m,hm,hl'⟩:=I.loc
       have e5:σ[j]?=some (some v):=by
        cases z:σ[j]? with
        | none=>rw [z] at e4;cases e4
        | some y=>rw [z] at e4;cases y with
          | none=>cases e4
          | some y'=>cases e4;rfl
       obtain⟨u,r,l⟩:=hl' j x v q1 e5 q3
       refine⟨u,r,?_⟩
       obtain⟨a,ha⟩:=Ox (cells:=X.env.cells) (l:=sc.names) (acc:=[]) (x:=x) (.inl q2)
       have kd:X.env.kindOf x=some .cell\/X.env.kindOf x=some .free:=c.free x q2
       rcases l with ⟨hk,_⟩|⟨hk,a',ha',hcell⟩
       . rcases kd with z | z<;>rw [z] at hk<;>cases hk
       . have e6:a'=a:=by
          have:=ltc x a ha
          rw [ha'] at this
          exact Option.some.inj this
         refine .inr ⟨q2',a,ha,?_⟩
         rw [←e6]
         exact cel _ _ hcell
 . obtain⟨v,z⟩:=I.cell x a (ltc x a e)
   exact ⟨v,cel a v z⟩
 . show upd H D (.lst []) C=none
   rw [A7 hCD]
   exact I.hok.fresh hCs
 . show upd H D (.lst []) a=none
   obtain⟨v,z⟩:=I.cell x a (ltc x a e)
   rw [A7 (ltD a v z)]
   exact I.freeC x a (ltc x a e)
 . exact I.hok.laid k (by rw [hD];exact Nat.le_refl _) ⟨Nat.zero_le _,[],0,.nil,hl⟩
 . show (capS cap σ).length=N'.length
   unfold capS
   rw [List.length_map,c.len]
end
end L2
namespace L2
open PySem PySem.Spec PyProof.Rows
def capB (osc:Scope) (N:List Str) (sc:Scope) (N':List Str) (cap:List (Option Nat)):Bool :=
 decide (sc.kind=.function)&&decide (cap.length=N'.length)&&sc.names.all (fun x=>decide (x.2≠NameKind.cell))&&sc.names.all (fun x=>decide (x.2=NameKind.local->sc.names.lookup x.1=some NameKind.local)) &&
 sc.names.all (fun x=>decide (x.2=NameKind.free->(osc.names.lookup x.1=some .cell\/osc.names.lookup x.1=some .free))) &&
 (N'.zip cap).all (fun p=>match p.2 with
   | none=>true
   | some j=>decide (N[j]?=some p.1)&&decide (((sc.names.map fun (n,k)=>if (k==.free&&osc.kind==.function&&osc.names.lookup n==some .cell) then (n,NameKind.cell) else (n,k)).lookup p.1=some .cell) ∨
      ((sc.names.map fun (n,k)=>if (k==.free&&osc.kind==.function&&osc.names.lookup n==some .cell) then (n,NameKind.cell) else (n,k)).lookup p.1=some .free)) &&
     decide (osc.names.lookup p.1=some .local\/osc.names.lookup p.1=some .cell\/osc.names.lookup p.1=some .free))
theorem Tg {X:Cx}{sc:Scope}{N':List Str}{cap:List (Option Nat)} (h:capB X.env.scope X.N sc N' cap=true):Mk X sc N' cap:=by
 unfold capB at h
 rw [Bool.and_eq_true,Bool.and_eq_true,Bool.and_eq_true,Bool.and_eq_true,Bool.and_eq_true,List.all_eq_true,List.all_eq_true,List.all_eq_true,List.all_eq_true] at h
 obtain⟨⟨⟨⟨⟨h1,h2⟩,h3⟩,h4⟩,h5⟩,h6⟩:=h
 refine⟨of_decide_eq_true h1,of_decide_eq_true h2,fun x hx=>of_decide_eq_true (h3 x hx),fun x hx=>of_decide_eq_true (h4 x hx),fun n hn=>of_decide_eq_true (h5 _ hn) rfl,fun i j x e1 e2=>?_⟩
 have hm:(x,some j)∈N'.zip cap:=by
  have e:(N'.zip cap)[i]?=some (x,some j):=by
   rw [List.getElem?_zip_eq_some]
   exact ⟨e1,e2⟩
  exact List.mem_of_getElem? e
 have h7:=h6 _ hm
 dsimp only at h7
 rw [Bool.and_eq_true,Bool.and_eq_true] at h7
 obtain⟨⟨h8,h9⟩,h10⟩:=h7
 exact ⟨of_decide_eq_true h8,of_decide_eq_true (p:=(relabel sc X.env).names.lookup x=some .cell\/(relabel sc X.env).names.lookup x=some .free) h9,of_decide_eq_true (p:=X.env.scope.names.lookup x=some .local\/X.env.scope.names.lookup x=some .cell\/X.env.scope.names.lookup x=some .free) h10⟩
def PTs (X:Cx) (ifs:List Expr) (t:TT):Prop :=
 ∀ (Ab:List (Addr × Obj)) (s:Shared) (σ:St) (H:Hp) (Q:Bool->Hp->Prop),Inv X Ab σ H s->t σ H Q →
   wpAny (model X.prog X.w) X.A (forIn ifs true fun c r=>if r=true then do let ok ←isTrue c X.env (eval c X.env);pure (ForInStep.yield ok) else pure (ForInStep.yield r)) (TP X Ab σ Q) X.xe s
def tYes:TT:=fun _ H Q=>Q true H
theorem Cl {X:Cx}:PTs X [] tYes:=fun _ _ _ H _ I h=>wpAny_tests_nil ⟨H,I,h⟩
theorem Sf {X:Cx}{c:Expr}{t:TT} (h:PT X c t):PTs X [c] t:=fun Ab s σ H Q I hw=>wpAny_tests_one (h Ab s σ H Q I hw)
def RunC (J:It) (g:TG) (tc:TT) (te:TE) (D:Addr) (Q:Hp->Prop) (τ:St) (H:Hp):Prop :=
 ∃ W:Nat->Nat->List V->St->Hp->Prop,(∃ m,W 0 m [] τ H)/\∀ i m ys τ H,W i m ys τ H →
   (J.stop i H/\Q H) ∨
   (J.go i H/\∃ N:List V->St->Hp->Prop,(∀ ys' τ' H',N ys' τ' H'->∃ m',m'<m/\W (i+1) m' ys' τ' H') ∧
     ∀ x H',J.yld i H x H'->g x τ H' fun τ2 H2=>tc τ2 H2 fun b H3=>if b=true then te τ2 H3 fun y H4=>H4 D=some (.lst ys)/\ys.length<sizeLine/\N (ys++[y]) τ2 (upd H4 D (.lst (ys++[y]))) else N ys τ2 H3)
section
variable {X:Cx}{sc:Scope}{N':List Str}{cap:List (Option Nat)}{tg elt iter:Expr}{ifs:List Expr}{pos:Pos}{g:TG}{tc:TT}{te:TE}
theorem Wq {Y:Cx}{J:It}{fp:List Addr}{it D:Addr}{tn:Nat->Heap->Prop}{R:Result->Shared->Prop}{Q:Hp->Prop}{τ:St}{H:Hp}{s:Shared}
 (hx:Y.xe=fun _ _=>False) (hc:Y.calm=true) (hg:PG Y tg g) (ht:PTs Y ifs tc) (he:PE Y elt te) (T:Turn Y.prog Y.w Y.K tg J fp it tn) (st:tn 0 s.heap) (hf:∀ b∈fp,FpOk Y [] H b) (I:Inv Y [] τ H s)
 (h:RunC J g tc te D Q τ H) (hR:∀ τ' H' s',Inv Y [] τ' H' s'->Q H'->R (.ok .next) s') :
 codeAny (model Y.prog Y.w) Y.A (.compLoop (.ListComp elt [⟨tg,iter,ifs,0⟩] sc pos) 0 (.ref it) (.ref D) Y.env) R s:=by
 obtain⟨W,⟨m0,w0⟩,turn⟩:=h
 have stat:∀{H':Hp},(∀ b∈fp,H' b=none)->∀ b∈fp,FpOk Y [] H' b:=fun hn b hb=>⟨hn b hb,(hf b hb).2⟩
 have no:∀{P:Prop}{e:Value}{s':Shared},Y.xe e s'->P:=fun z=>by rw [hx] at z;exact z.elim
 refine codeAny_loop rfl (fun n s'=>∃ i ys τ' H',Inv Y [] τ' H' s'/\tn i s'.heap/\(∀ b∈fp,H' b=none)/\W i n ys τ' H') ?_ m0 ⟨0,[],τ,H,I,st,fun b hb=>(hf b hb).1,w0⟩
 rintro n s3 ⟨i,ys,τ3,H3,I3,st3,fr3,w3⟩
 show wpAny _ Y.A ((compTurn (.ListComp elt [⟨tg,iter,ifs,0⟩] sc pos) 0 (.ref it) (.ref D) Y.env).onRaise (fun x=>do noteFrame x Y.env;theTreesLotGoes x)) _ _ s3
 refine wpAny_noted ?_
 rw [compTurn_list]
 refine wpAny_bind (wpAny_standAt (wpAny_bind ?_))
 rcases turn i n ys τ3 H3 w3 with ⟨stop,qn⟩|⟨go,N,hN,step⟩
 . refine wpAny_mono (T.done Y rfl rfl rfl hc i [] s3 τ3 H3 (fun _ _=>False) I3 (stat fr3) st3 stop) (fun r s4 ⟨hr,I4⟩=>?_) fun _ _ z=>z.elim
   subst hr
   exact wpAny_pure (hR _ _ _ I4 qn)
 . refine wpAny_mono (T.item Y rfl rfl rfl hc i [] s3 τ3 H3 (fun _ _=>False) I3 (stat fr3) st3 go) (fun r s4 ⟨u,hr,h4⟩=>?_) fun _ _ z=>z.elim
   subst hr
   refine wpAny_bind (wpAny_mono h4 (fun _ s5 ⟨x,H5,I5,r5,y5,st5,fr5⟩=>?_) fun _ _ z=>z.elim)
   have I5':=I5.pinned (stat fr5) (T.obj _ _ st5)
   have again:∀{τ7:St}{H7:Hp}{ys7:List V}{s7:Shared},Inv Y ([]++Mn fp s5.heap) τ7 H7 s7->N ys7 τ7 H7->∃ m,m<n/\∃ i ys τ' H',Inv Y [] τ' H' s7/\tn i s7.heap/\(∀ b∈fp,H' b=none)/\W i m ys τ' H':=fun {τ7 H7 ys7 s7} I7 n7=>by
    obtain⟨m',hm,w7⟩:=hN ys7 τ7 H7 n7
    refine⟨m',hm,i+1,ys7,τ7,H7,I7.unpinned,T.keep _ _ _ st5 fun b hb o e=>(I7.pin (b,o) (List.mem_append_right _ (List.mem_append_right _ (Dt hb e)))).1,fun b hb=>?_,w7⟩
    obtain⟨o,e,d⟩:=T.obj _ _ st5 b hb
    exact (I7.pin (b,o) (List.mem_append_right _ (List.mem_append_right _ (Dt hb e)))).2.1
   refine wpAny_bind (wpAny_mono (hg _ s5 τ3 H5 x u _ I5' r5 (step x H5 y5)) (fun _ s6 ⟨τ6,H6,I6,q6⟩=>?_) fun _ _ z=>no z)
   refine wpAny_bind (wpAny_mono (ht _ s6 τ6 H6 _ I6 q6) (fun ok s7 ⟨H7,I7,q7⟩=>?_) fun _ _ z=>no z)
   cases ok with
   | false =>
     have q8:N ys τ6 H7:=by simpa using q7
     exact wpAny_pure ⟨rfl,again I7 q8⟩
   | true =>
     have q8:te τ6 H7 fun y H4=>H4 D=some (.lst ys)/\ys.length<sizeLine/\N (ys++[y]) τ6 (upd H4 D (.lst (ys++[y]))):=by simpa using q7
     refine wpAny_bind (wpAny_bind (wpAny_mono (he _ s7 τ6 H7 _ I7 q8) (fun y s8 ⟨v8,H8,I8,r8,hD,hl,n8⟩=>?_) fun _ _ z=>no z))
     refine wpAny_bind (wpAny_mono (Dy _ s8 τ6 H8 (.ref D) [v8] (.ref D) [y] (fun _ H9=>N (ys++[v8]) τ6 H9) I8 rfl (.cons r8 .nil) ⟨D,ys,v8,rfl,rfl,hD,hl,n8⟩) (fun _ s9 ⟨_,H9,I9,_,n9⟩=>?_) fun _ _ z=>no z)
     exact wpAny_pure (wpAny_pure ⟨rfl,again I9 n9⟩)
theorem Mr {Ab:List (Addr × Obj)}{σ:St}{H:Hp}{s:Shared}{J:It}{fp:List Addr}{it:Addr}{tn:Nat->Heap->Prop}{RR:Value->Addr->Result->Shared->Prop}{Q:Addr->Hp->Prop}{E:Value->Shared->Prop}
 (c:Mk X sc N' cap) (hc:X.calm=true) (hg:∀ C s₀ H₀ fp,PG (Bw X sc N' C s₀ H₀ fp) tg g) (ht:∀ C s₀ H₀ fp,PTs (Bw X sc N' C s₀ H₀ fp) ifs tc) (he:∀ C s₀ H₀ fp,PE (Bw X sc N' C s₀ H₀ fp) elt te)
 (I:Inv X Ab σ H s) (T:Turn X.prog X.w X.K tg J fp it tn) (st:tn 0 s.heap) (hf:∀ b∈fp,FpOk X Ab H b)
 (h:∀ D,H D=none->RunC J g tc te D (Q D) (capS cap σ) (upd H D (.lst [])))
 (hR:∀ D C s' H' m',H D=none->s.heap.objs.size<=C->s'.os=s.os->AllBare s'.gens->Un (frs X.stack) fp H H' s.heap s'.heap->HOk X.prog X.w H' s'.heap->s'.heap.Ns C m'->H' C=none->C ∉ fp->Q D H'->RR (.ref D) C (.ok .next) s') :
 wpAny (model X.prog X.w) X.A (newList []) (fun acc s₃=>wpAny (model X.prog X.w) X.A (newFunctionEnv sc X.env.globals (clOf X.env.cells sc.names []) [] X.env.qual none .none (some X.env)) (fun cenv s₄ =>
  codeAny (model X.prog X.w) X.A (.compStart (.ListComp elt [⟨tg,iter,ifs,0⟩] sc pos) 0 (.ref it) acc { cenv with scope:=relabel sc X.env }) (RR acc cenv.locals) s₄) E s₃) E s:=by
 have hb:∀ b∈fp,b<s.heap.objs.size:=fun b hb=>by
  obtain⟨o,e,_⟩:=T.obj _ _ st b hb
  exact Heap.lt_size e
 refine wpAny_newObj_type (wpAny_newFunctionEnv c.nocell (by intro y hy;simp at hy) (fun h₁ hns₁ hsb₁=>?_) c.kind)
 dsimp only at hns₁ hsb₁ ⊢
 generalize hH2:s.heap.push { cls:=.type "list",dict:=none,data:=.seq ([]:List Value).toArray }=H2 at hns₁ hsb₁ ⊢
 have hC:H2.objs.size=s.heap.objs.size+1:=by rw [←hH2,Heap.size_push]
 have hCl:s.heap.objs.size<=H2.objs.size:=by rw [hC];exact Nat.le_succ _
 have hCn:s.heap.objs.size≠H2.objs.size:=by rw [hC];exact (Nat.succ_ne_self _).symm
 have old:∀ b o,s.heap.get? b=some o->h₁.get? b=some o:=fun b o e=>by
  have l1:=Heap.lt_size e
  exact hsb₁.extBut b o (Nat.ne_of_lt (Nat.lt_of_lt_of_le l1 hCl)) (Heap.get?_push_of_some _ (hH2▸Heap.get?_push_of_some _ e))
 have hl:h₁.get? s.heap.objs.size=some { cls:=.type "list",data:=.seq #[] 0 }:=hsb₁.extBut _ _ hCn (Heap.get?_push_of_some _ (hH2▸Heap.get?_push_size _ rfl))
 have hns₂:h₁.Ns H2.objs.size fun _=>none:=by simpa using hns₁
 have I4:Inv (Bw X sc N' H2.objs.size s H fp) [] (capS cap σ) (upd H s.heap.objs.size (.lst [])) { s with heap:=h₁,toks:=s.toks+([]:List (Str × Value)).length }:=T7 c I hC rfl hf hb hns₂ hl old
 have hfr:H s.heap.objs.size=none:=I.fresh
 have f4:∀ b∈fp,FpOk (Bw X sc N' H2.objs.size s H fp) [] (upd H s.heap.objs.size (.lst [])) b:=fun b hb'=>by
  obtain⟨f0,f1,f2,f3,f4,f5⟩:=hf b hb'
  have lb:=hb b hb'
  refine⟨by rw [A7 (Nat.ne_of_lt lb)];exact f0,(Nat.ne_of_lt (Nat.lt_of_lt_of_le lb hCl):b≠H2.objs.size),fun z=>?_,.inl hb',fun x a e=>f4 x a (Cm (c.cells I.ok) (fun z=>by simp at z) e),fun p hp=>absurd hp (by simp [Bw])⟩
  rcases List.mem_cons.mp (I.stkSub b z) with e | e
  . exact f1 e
  . exact f2 e
 have st4:tn 0 h₁:=T.keep _ _ _ st fun b _ o e=>old b o e
 have loop:∀ s₅:Shared,s₅={ s with heap:=h₁,toks:=s.toks+([]:List (Str × Value)).length } →
  codeAny (model X.prog X.w) X.A (.compLoop (.ListComp elt [⟨tg,iter,ifs,0⟩] sc pos) 0 (.ref it) (.ref s.heap.objs.size) (Bw X sc N' H2.objs.size s H fp).env) (RR (.ref s.heap.objs.size) H2.objs.size) s₅:=by
  rintro s₅ rfl
  refine Wq (Y:=Bw X sc N' H2.objs.size s H fp) (J:=J) (fp:=fp) (tn:=tn) (Q:=Q s.heap.objs.size) rfl hc (hg _ _ _ _) (ht _ _ _ _) (he _ _ _ _) T st4 f4 I4 (h _ hfr) fun τ' H' s' I' q'=>?_
  obtain⟨m',hn',_⟩:=I'.loc
  exact hR _ _ s' H' m' hfr hCl I'.os I'.bare I'.base I'.hok hn' I'.free (fun z=>absurd (Nat.lt_of_lt_of_le (hb _ z) hCl) (Nat.lt_irrefl _)) q'
 exact codeAny_compStart_list (loop _ rfl) (T.self _ 0 _ _ _ st4 (loop _ rfl))
def Y7 (wi:TI) (cap:List (Option Nat)) (g:TG) (tc:TT) (te:TE):TE:=fun σ H Q=>wi σ H fun J H1=>∀ D,H1 D=none->RunC J g tc te D (fun H'=>Q (.ref D) H') (capS cap σ) (upd H1 D (.lst []))
theorem Inv.fpCh {Ab:List (Addr × Obj)}{H:Hp}{fp:List Addr} (hf:∀ b∈fp,FpOk X Ab H b):∀ b∈fp,(b∈X.ex\/X.s₀.heap.objs.size<=b)/\b≠X.env.locals/\(∀ x c,X.env.cells.lookup x=some c->c≠b)/\∀ p∈X.pn++Ab,p.1≠b :=
 fun b hb=>let ⟨_,f1,_,f3,f4,f5⟩:=hf b hb;⟨f3,f1,f4,f5⟩
theorem C9 {wi:TI} (hc:X.calm=true) (hcap:capB X.env.scope X.N sc N' cap=true) (hi:PI X tg iter wi) (hg:∀ C s₀ H₀ fp,PG (Bw X sc N' C s₀ H₀ fp) tg g) (ht:∀ C s₀ H₀ fp,PTs (Bw X sc N' C s₀ H₀ fp) ifs tc)
 (he:∀ C s₀ H₀ fp,PE (Bw X sc N' C s₀ H₀ fp) elt te) (hs:∀ x,foldedSetIterable iter X.env x=pure x:=by intro _;rfl):PE X (.ListComp elt [⟨tg,iter,ifs,0⟩] sc pos) (Y7 wi cap g tc te):=by
 intro Ab s σ H Q I h
 have c:Mk X sc N' cap:=Tg hcap
 rw [eval_ListComp]
 refine wpAny_comprehension_free (use:=none) rfl hs (Jo (c.cells I.ok)) c.kind c.locals (thn (hi Ab s σ H _ I h) fun v s1 h1=>thn h1 fun itv s2 h2=>?_)
 obtain⟨it,fp,tn,J,H2,e,I2,T,st2,f2,hW⟩:=h2
 subst e
 refine Mr (RR:=fun acc C=>compPost (model X.prog X.w) X.A X.xe none (EP X Ab σ Q) acc C) (Q:=fun D H'=>Q (.ref D) H') c hc hg ht he I2 T st2 f2 hW ?_
 intro D C s' H' m' hD hC hos hbare hun hok hn hHC hCf q
 refine⟨m',hn,fun h' hsb=>?_⟩
 have I3:Inv X Ab σ H' s':=I2.call' hos hun hok hbare (Inv.fpCh f2)
 have f3:FpOk X Ab H' C:=I2.fpOk hC hHC
 obtain⟨_,k1,_,k3,k4,k5⟩:=f3
 have I4:Inv X Ab σ H' { s' with heap:=h' }:=I3.turned (t':=s'.toks) (fun b o hb e=>(hsb.2 b hb).trans e) hHC k1 k3 k4 k5
 exact ⟨.ref D,H',I4,rfl,q⟩
theorem Nn {wi:TI}{i:Nat}{x:Str}{px spos:Pos} (hN:X.N.Nodup) (hi':X.N[i]?=some x) (hx:Loc X.env.scope x) (hc:X.calm=true) (hcap:capB X.env.scope X.N sc N' cap=true) (hi:PI X tg iter wi)
 (hg:∀ C s₀ H₀ fp,PG (Bw X sc N' C s₀ H₀ fp) tg g) (ht:∀ C s₀ H₀ fp,PTs (Bw X sc N' C s₀ H₀ fp) ifs tc) (he:∀ C s₀ H₀ fp,PE (Bw X sc N' C s₀ H₀ fp) elt te)
 (hsw:swapsWith (.ListComp elt [⟨tg,iter,ifs,0⟩] sc pos) (some (.Name x px)) spos.line X.env=pure true:=by rfl)
 (hs:∀ x,foldedSetIterable iter X.env x=pure x:=by intro _;rfl) (hf:X.fn x=true\/X.env.scope.names.lookup x=some .local:=by first | exact .inl rfl | exact .inr rfl | assumption) :
 PS X (.Assign [.Name x px] (.ListComp elt [⟨tg,iter,ifs,0⟩] sc pos) spos) (tAsg (Y7 wi cap g tc te) (Ya i)):=by
 intro Ab s σ H D I h
 have c:Mk X sc N' cap:=Tg hcap
 rw [exec_Assign_Name_used _ _ _ _ hsw]
 refine wpAny_bind (wpAny_standAt (wpAny_bind ?_))
 show wpAny _ X.A (do let _ ←comprehension (.ListComp elt [⟨tg,iter,ifs,0⟩] sc pos) sc X.env _ (newList []) false (eval iter X.env) (some (assign (.Name x px) X.env))) _ _ s
 refine wpAny_bind (thn (wpAny_comprehension_free (use:=some (assign (.Name x px) X.env)) (Q:=fun _ s'=>SP X Ab D .next s') rfl hs (Jo (c.cells I.ok)) c.kind c.locals
  (thn (hi Ab s σ H _ I h) fun v s1 h1=>thn h1 fun itv s2 h2=>?_)) fun _ s' hq=>wpAny_pure (wpAny_pure hq))
 obtain⟨it,fp,tn,J,H2,e,I2,T,st2,f2,hW⟩:=h2
 subst e
 refine Mr (RR:=fun acc C=>compPost (model X.prog X.w) X.A X.xe (some (assign (.Name x px) X.env)) (fun _ s'=>SP X Ab D .next s') acc C) (Q:=fun A H'=>Ya i (.ref A) σ H' D.nx) c hc hg ht he I2 T st2 f2 hW ?_
 intro A C s' H' m' hD hC hos hbare hun hok hn hHC hCf q
 have I3:Inv X Ab σ H' s':=I2.call' hos hun hok hbare (Inv.fpCh f2)
 have f3:FpOk X Ab H' C:=I2.fpOk hC hHC
 obtain⟨_,k1,_,k3,k4,k5⟩:=f3
 show wpAny _ X.A (assign (.Name x px) X.env (.ref A)) _ _ s'
 refine wpAny_assign_Name (O9 I3 hN hi' hx (v:=.ref A) rfl (fun s'' I'' ⟨a,hsb,ha⟩=>?_) hf)
 have hCa:C≠a:=by
  rcases ha with z | z
  . rw [z];exact k1
  . exact fun z'=>k4 x a z z'.symm
 refine⟨m',hn.sameBut hsb hCa,fun h' hsb'=>?_⟩
 have I4:Inv X Ab (σ.set i (some (.ref A))) H' { s'' with heap:=h' }:=I''.turned (t':=s''.toks) (fun b o hb e=>(hsb'.2 b hb).trans e) hHC k1 k3 k4 k5
 exact ⟨_,H',I4,q⟩
end
section
variable {g:TG}{tc:TT}{te:TE}{D:Addr}{Q:Hp->Prop}{τ:St}{H:Hp}
theorem Wr {K:W.Frag}{a:Addr}{xs:List V} (Pv:Nat->List V->St->Hp->Prop) (h0:Pv 0 [] τ H) (hl:∀ i ys τ H,i<=xs.length->Pv i ys τ H->SqL K H a xs)
 (hs:∀ i x ys τ H,xs[i]?=some x->Pv i ys τ H->g x τ H fun τ2 H2=>tc τ2 H2 fun b H3=>if b=true then te τ2 H3 fun y H4=>H4 D=some (.lst ys)/\ys.length<sizeLine/\Pv (i+1) (ys++[y]) τ2 (upd H4 D (.lst (ys++[y]))) else Pv (i+1) ys τ2 H3)
 (hd:∀ ys τ H,Pv xs.length ys τ H->Q H):RunC (Itl K a) g tc te D Q τ H:=by
 refine⟨fun i m ys τ H=>m=xs.length-i/\i<=xs.length/\Pv i ys τ H,⟨xs.length,by simp,Nat.zero_le _,h0⟩,?_⟩
 rintro i m ys τ H ⟨rfl,hi,p⟩
 have q:=hl i ys τ H hi p
 by_cases hlt:i<xs.length
 . refine .inr ⟨⟨xs,xs[i],q,by simp [hlt]⟩,Pv (i+1),fun ys' τ' H' p'=>⟨xs.length-(i+1),by omega,rfl,hlt,p'⟩,fun x H' y=>?_⟩
   obtain⟨e,y⟩:=y
   subst e
   exact hs i x ys τ _ (y xs q) p
 . have e:i=xs.length:=by omega
   subst e
   exact .inl ⟨⟨xs,q,Nat.le_refl _⟩,hd ys τ H p⟩
theorem Yj {K:W.Frag}{a:Addr}{xs:List V} (Pv:Nat->List V->St->Hp->Prop) (h0:Pv 0 [] τ H) (hl:∀ i ys τ H,i<=xs.length->Pv i ys τ H->SqT K H a xs)
 (hs:∀ i x ys τ H,xs[i]?=some x->Pv i ys τ H->g x τ H fun τ2 H2=>tc τ2 H2 fun b H3=>if b=true then te τ2 H3 fun y H4=>H4 D=some (.lst ys)/\ys.length<sizeLine/\Pv (i+1) (ys++[y]) τ2 (upd H4 D (.lst (ys++[y]))) else Pv (i+1) ys τ2 H3)
 (hd:∀ ys τ H,Pv xs.length ys τ H->Q H):RunC (Itt K a) g tc te D Q τ H:=by
 refine⟨fun i m ys τ H=>m=xs.length-i/\i<=xs.length/\Pv i ys τ H,⟨xs.length,by simp,Nat.zero_le _,h0⟩,?_⟩
 rintro i m ys τ H ⟨rfl,hi,p⟩
 have q:=hl i ys τ H hi p
 by_cases hlt:i<xs.length
 . refine .inr ⟨⟨xs,xs[i],q,by simp [hlt]⟩,Pv (i+1),fun ys' τ' H' p'=>⟨xs.length-(i+1),by omega,rfl,hlt,p'⟩,fun x H' y=>?_⟩
   obtain⟨e,y⟩:=y
   subst e
   exact hs i x ys τ _ (y xs q) p
 . have e:i=xs.length:=by omega
   subst e
   exact .inl ⟨⟨xs,q,Nat.le_refl _⟩,hd ys τ H p⟩
theorem Jn {lo:Int}{n:Nat} (Pv:Nat->List V->St->Hp->Prop) (h0:Pv 0 [] τ H)
 (hs:∀ i ys τ H,i<n->Pv i ys τ H->g (.int (lo+i)) τ H fun τ2 H2=>tc τ2 H2 fun b H3=>if b=true then te τ2 H3 fun y H4=>H4 D=some (.lst ys)/\ys.length<sizeLine/\Pv (i+1) (ys++[y]) τ2 (upd H4 D (.lst (ys++[y]))) else Pv (i+1) ys τ2 H3)
 (hd:∀ ys τ H,Pv n ys τ H->Q H):RunC (Itr lo n) g tc te D Q τ H:=by
 refine⟨fun i m ys τ H=>m=n-i/\i<=n/\Pv i ys τ H,⟨n,by simp,Nat.zero_le _,h0⟩,?_⟩
 rintro i m ys τ H ⟨rfl,hi,p⟩
 by_cases hlt:i<n
 . refine .inr ⟨hlt,Pv (i+1),fun ys' τ' H' p'=>⟨n-(i+1),by omega,rfl,hlt,p'⟩,fun x H' y=>?_⟩
   obtain⟨e,y⟩:=y
   subst e y
   exact hs i ys τ _ hlt p
 . have e:i=n:=by omega
   subst e
   exact .inl ⟨Nat.le_refl _,hd ys τ H p⟩
end
end L2
namespace L2
open PySem PySem.Spec PyProof.Rows PySem.SeqAt
def cK (ms:List (Int × Int)):List (Key × V):=ms.map fun p=>(Sum.inl p.1,V.int p.2)
def Oa (ms:List (Int × Int)) (k:Int):Option Int:=(ms.find? fun p=>decide (p.1=k)).map (·.2)
end L2
namespace L2
open PySem PySem.Spec PyProof.Rows
section
variable {prog:Program}{w:World}{A:Around}{E:Value->Shared->Prop}
theorem Qi:typeLookup (.type "list") "keys"=pure none:=am_miss_of_fast (by kernel_rfl)
theorem L8 {s:Shared}{a:Addr}{xs:Array Value}{k:Nat}{Q:Option Value->Shared->Prop}
 (hx:s.heap.get? a=some { cls:=.type "list",data:=.seq xs k }) (hA:A.handled=none)
 (h:∀ h' tk,(∀ b o,s.heap.get? b=some o->h'.get? b=some o)->Q none { s with heap:=h',toks:=tk }) :
 wpAny (model prog w) A (getAttr? (.ref a) "keys") Q E s:=by
 obtain⟨hp,g,d,tk,os⟩:=s
 have hT:∀ tk',(⟨hp,g,d,tk',os⟩:Shared).TypeIs (.ref a) "list":=fun _=>⟨_,hx,rfl⟩
 have f1:=sub_AttributeError
 have f3:=F.slot_list_getattribute.lookup
 have f4:=F.slot_list_getattribute.bind (.ref a)
 have f5:=am_list_getattr_none
 unfold getAttr? getAttrBy? getAttrBy
 repeat (any_goals (first | assumption | exact hT _ | ((with_reducible show wpAny _ _ (call (Value.builtin "list.__getattribute__") _ _) _ _ _);refine call_meets F.slot_list_getattribute (hT _) am_entry_list_getattribute (F.args_list_getattribute_2 _ _) (meets_getattribute_miss_list a xs k #[] "keys" _ Qi (by decide +kernel)) ⟨hx,hA,fun h' tk' e hx'=>?_⟩) | wp_step))
 obtain⟨t',u',he⟩:=hx'.there
 show wpAny _ _ (getattributeRaised _ _ _ _ _ _ _) _ _ _
 unfold getattributeRaised
 repeat (any_goals (first | assumption | wp_step))
 exact h _ _ hx'.keeps
theorem Ep:plainId "dict.update.loop"=true:=by decide +kernel
theorem Kz:entryFor table "dict.update.loop"=some Builtin.«dict.update.loop»:=entryFor_of_fast (by kernel_rfl)
variable {KT:Type} [DecidableEq KT] {knd:KeyKind prog w KT}
def But2 (d it:Addr) (h0 h:Heap):Prop:=∀ b o,b≠d->b≠it->h0.get? b=some o->h.get? b=some o
theorem Wh (hh:A.handled=none) {d it l:Addr}{items:Array Value}{prs:List (KT × Value)} (hl:prs.length=items.size) (ndi:d≠it) (nld:l≠d) (nli:l≠it) {h0:Heap} (hL:h0.IsList l items)
 (hP:∀ (i:Nat) (x:Value),items[i]?=some x->∃ (p:KT × Value) (t:Addr) (key:Value),prs[i]?=some p/\x=.ref t/\t≠d/\t≠it/\h0.IsTuple t #[key,p.2]/\knd.is p.1 key=true) {R:Result->Shared->Prop} :
 ∀ (n i:Nat) (s:Shared) (acc:List (KT × Value)),prs.length-i=n->i<=prs.length->acc.length+n<=sizeLine->s.heap.DictOf knd d acc->s.heap.IsListIter it l i->But2 d it h0 s.heap →
   (∀ h' tk,h'.DictOf knd d (merged acc (prs.drop i))->But2 d it h0 h'->R (.ok (.ret .none)) { s with heap:=h',toks:=tk }) →
   codeAny (model prog w) A (.builtin "dict.update.loop" ⟨[.ref d,.ref it,rawInt i,.none],[]⟩) R s:=by
 intro n
 induction n with
 | zero =>
   intro i s acc hn hi hz hd hit hb k
   refine codeAny_builtin Kz ?_
   rw [Around.under_plainId Ep]
   have hLs:s.heap.IsList l items:=let ⟨o,ho,r⟩:=hL;⟨o,hb _ _ nld nli ho,r⟩
   have hx:items[i]?=none:=by simp;omega
   show wpAny _ _ (pyNext (.ref it)>>=_) _ _ s
   refine wpAny_bind (wpAny_pyNext_list_end hh hit hLs hx fun h' he=>?_)
   show wpAny _ _ (Builtin.Dict.addKeywords d []>>=_) _ _ _
   refine wpAny_bind (wpAny_pure (wpAny_pure ?_))
   have e:prs.drop i=[]:=by simp;omega
   have k':=k h' s.toks (by rw [e];exact hd.extBut he ndi) fun b o n1 n2 q=>he b o n2 (hb b o n1 n2 q)
   exact k'
 | succ n ih =>
   intro i s acc hn hi hz hd hit hb k
   refine codeAny_builtin Kz ?_
   rw [Around.under_plainId Ep]
   have hLs:s.heap.IsList l items:=let ⟨o,ho,r⟩:=hL;⟨o,hb _ _ nld nli ho,r⟩
   have hlt:i<items.size:=by omega
   obtain⟨p,t,key,hp,ex,ntd,nti,hT,hkey⟩:=hP i items[i] (by simp [hlt])
   show wpAny _ _ (pyNext (.ref it)>>=_) _ _ s
   refine wpAny_bind (wpAny_pyNext_list_item hit hLs (x:=items[i]) (by simp [hlt]) fun h1 hit1 hs1=>?_)
   rw [ex]
   have hT1:h1.IsTuple t #[key,p.2]:=let ⟨o,ho,r⟩:=hT;⟨o,(hs1.2 t nti).trans (hb _ _ ntd nti ho),r⟩
   have hd1:h1.DictOf knd d acc:=hd.sameBut hs1 ndi
   obtain⟨o,ho,hc,m,hdat⟩:=hT1
   refine wpAny_bind (wpAny_holding ?_)
   refine wpAny_bind (wpAny_tryCatch ?_)
   unfold Builtin.Dict.pairItems
   refine wpAny_bind (wpAny_typeOf (show (({ s with heap:=h1 }:Shared).TypeIs (.ref t) "tuple") from ⟨o,ho,hc⟩) ?_)
   rw [if_pos (by decide)]
   refine wpAny_bind (wpAny_seqItems ho hdat (wpAny_pure ?_))
   show wpAny _ _ (holding [key,p.2] (dictSet d key p.2)) _ _ _
   refine wpAny_holding (wpAny_dictSet_pairs (s:={ s with heap:=h1 }) hkey hd1 (fun h2 hd2 hs2=>?_) (by omega))
   refine wpAny_pure ⟨plainId_quiet Ep _,?_⟩
   have e2:prs.drop i=p::prs.drop (i+1):=by
    rw [List.drop_eq_getElem_cons (by omega)]
    congr 1
    rw [List.getElem?_eq_getElem (by omega)] at hp
    exact Option.some.inj hp
   have hl2:=stored_length_le acc p.1 p.2
   refine ih (i+1) { s with heap:=h2,toks:=s.toks+1 } (stored acc p.1 p.2) (by omega) (by omega) (by omega) hd2 ?_ (fun b o' n1 n2 q=>?_) (fun h' tk hd' hb'=>k h' tk (by rw [e2];exact hd') hb')
   . obtain⟨oi,hoi,ri⟩:=hit1
     exact ⟨oi,(hs2.2 it (Ne.symm ndi)).trans hoi,ri⟩
   . exact (hs2.2 b n1).trans ((hs1.2 b n2).trans (hb b o' n1 n2 q))
end
theorem vals_pair {x y:V}{us:List Value} (r:Vals [x,y] us):∃ a b,us=[a,b]/\RelV x a/\RelV y b:=by
 cases r with
 | cons h1 r =>
   cases r with
   | cons h2 r =>
     cases r
     exact ⟨_,_,rfl,h1,h2⟩
theorem Tv {P:Program}{w:World}{H:Hp}{h:Heap} (hok:HOk P w H h):∀ (ts:List Addr) (Aw:List (Key × V)),ts.length=Aw.length->(∀ (i:Nat) t,ts[i]?=some t->∃ kv:Key × V,Aw[i]?=some kv/\H t=some (.tup [kV kv.1,kv.2])) →
 ∃ prs:List (Key × Value),KV Aw prs/\prs.length=ts.length/\∀ (i:Nat) t,ts[i]?=some t->∃ (p:Key × Value) (key:Value),prs[i]?=some p/\h.IsTuple t #[key,p.2]/\(mixKind P w).is p.1 key=true
 | [],[],_,_=>⟨[],.nil,rfl,fun i t e=>by simp at e⟩
 | [],_::_,hl,_=>by simp at hl
 | _::_,[],hl,_=>by simp at hl
 | t::ts,kv::Aw,hl,hk=>by
   obtain⟨prs,h1,h2,h3⟩:=Tv hok ts Aw (by simpa using hl) fun i t e=>by
    obtain⟨kv',e1,e2⟩:=hk (i+1) t (by simpa using e)
    exact ⟨kv',by simpa using e1,e2⟩
   obtain⟨kv',e1,e2⟩:=hk 0 t rfl
   have e1':kv=kv':=by simpa using e1
   subst e1'
   obtain⟨_,its,rv,o,ho,hc,hdn,n,hd⟩:=hok t _ e2
   obtain⟨a,b,rfl,ra,rb⟩:=vals_pair rv
   refine⟨(kv.1,b)::prs,.cons ⟨rfl,rb⟩ h1,by simp [h2],fun i t' e=>?_⟩
   cases i with
   | zero =>
     have:t=t':=by simpa using e
     subst this
     exact ⟨(kv.1,b),a,rfl,⟨o,ho,hc,n,hd⟩,kV_is ra⟩
   | succ i =>
     obtain⟨p,key,q1,q2,q3⟩:=h3 i t' (by simpa using e)
     exact ⟨p,key,by simpa using q1,q2,q3⟩
theorem Mt {X:Cx} (hc:X.calm=true):Eu X (.type "dict") (fun xs H Q=>∃ (p:Addr) (ts:List Addr) (Aw:List (Key × V)),xs=[.ref p]/\H p=some (.lst (ts.map V.ref))/\ts.length=Aw.length ∧
 (∀ (i:Nat) t,ts[i]?=some t->∃ kv:Key × V,Aw[i]?=some kv/\H t=some (.tup [kV kv.1,kv.2]))/\∀ D,H D=none->Q (.ref D) (upd H D (.dK (mergeK [] Aw)))):=by
 intro Ab s σ H xs us Q I r h
 obtain⟨l,ts,Aw,rfl,hl,hlen,hk,q⟩:=h
 obtain⟨u,rfl,ru⟩:=Lo r
 cases ru
 have hh:X.A.handled=none:=I.ok.hd hc
 obtain⟨hz,its,n,rv,ho⟩:=I.hok l _ hl
 rw [List.length_map] at hz
 have hil:its.length=ts.length:=by rw [←rv.length,List.length_map]
 obtain⟨prs,hkv,hpl,hP⟩:=Tv I.hok ts Aw hlen hk
 have at_:∀ (i:Nat) (x:Value),its.toArray[i]?=some x->∃ t,ts[i]?=some t/\x=.ref t:=fun i x e=>by
  have e':its[i]?=some x:=by simpa using e
  have hlt:i<its.length:=(List.getElem?_eq_some_iff.mp e').1
  have hb:ts[i]?=some (ts[i]'(by omega)):=by simp<;>omega
  obtain⟨u,hu,ru⟩:=rv.get (i:=i) (x:=V.ref (ts[i]'(by omega))) (by rw [List.getElem?_map,hb];rfl)
  rw [e'] at hu
  cases hu
  cases ru
  exact ⟨_,hb,rfl⟩
 refine callType_codes (Q₁:=fun obj s₁=>obj=.ref s.heap.objs.size/\s₁={ s with heap:=s.heap.push { cls:=.type "dict",data:=.dict #[] } }) PySem.F.kt_called_dict (PySem.F.kt_typeCall_dict_1 _) PySem.F.entry_dict_init (kt_code_dict_new _ ⟨rfl,rfl⟩) ?_
 rintro obj s₁ ⟨rfl,rfl⟩
 have hnew:(s.heap.push { cls:=.type "dict",data:=.dict #[] }).DictOf (mixKind X.prog X.w) s.heap.objs.size []:=Heap.DictOf.new s.heap
 refine⟨hnew.typeIs,PySem.F.args_dict_init_2 _ _,?_⟩
 unfold Builtin.«dict.__init__»
 refine wpAny_bind ?_
 unfold Builtin.Dict.selfAndRest
 refine wpAny_bind (wpAny_notOrdered_dict hnew.typeIs ?_)
 show wpAny _ _ (pure (s.heap.objs.size,[Value.ref l])) _ _ _
 refine wpAny_pure ?_
 show wpAny _ _ (Builtin.Dict.updateFrom "dict.__init__" s.heap.objs.size (.ref l) [] .none) _ _ _
 unfold Builtin.Dict.updateFrom
 have ho1:(s.heap.push { cls:=.type "dict",data:=.dict #[] }).get? l=some { cls:=.type "list",data:=.seq its.toArray n }:=Heap.get?_push_of_some _ ho
 refine wpAny_bind (wpAny_typeOf (show (({ s with heap:=s.heap.push { cls:=.type "dict",data:=.dict #[] } }:Shared).TypeIs (.ref l) "list") from ⟨_,ho1,rfl⟩) ?_)
 rw [if_pos (by decide)]
 refine wpAny_bind (L8 ho1 hh fun h1 tk hk1=>?_)
 rw [if_pos (show (none:Option Value).isNone=true from rfl)]
 refine wpAny_bind (wpAny_rule ?_)
 have hl1:h1.IsList l its.toArray:=⟨_,hk1 _ _ ho1,rfl,n,rfl⟩
 refine wpAny_bind (wpAny_pyIter_list hl1 ?_)
 refine wpAny_pure ⟨plainId_quiet Ep _,?_⟩
 have lt0:l<s.heap.objs.size:=Heap.lt_size ho
 have nD:∀ b o,s.heap.get? b=some o->b≠s.heap.objs.size:=fun b o e=>Nat.ne_of_lt (Heap.lt_size e)
 have up:∀ b o,s.heap.get? b=some o->h1.get? b=some o:=fun b o e=>hk1 _ _ (Heap.get?_push_of_some _ e)
 have nI:∀ b o,s.heap.get? b=some o->b≠h1.objs.size:=fun b o e=>Nat.ne_of_lt (Heap.lt_size (up b o e))
 obtain⟨oD,esD,epD,hoD,rD⟩:=id hnew
 have hD1:h1.DictOf (mixKind X.prog X.w) s.heap.objs.size []:=⟨oD,esD,epD,hk1 _ _ hoD,rD⟩
 have ndi:s.heap.objs.size≠h1.objs.size:=Nat.ne_of_lt (Heap.lt_size (hk1 _ _ hoD))
 refine Wh (knd:=mixKind X.prog X.w) (show X.A.in1.handled=none from hh) (prs:=prs) (items:=its.toArray) (l:=l) (d:=s.heap.objs.size) (it:=h1.objs.size) (h0:=h1.push { cls:=.type "list_iterator",data:=.fields #[.ref l,.int 0 0] }) (by simp;omega) ndi (nD _ _ ho) (nI _ _ ho)
  ⟨_,Heap.get?_push_of_some _ (hk1 _ _ ho1),rfl,n,rfl⟩ (fun i x e=>?_) prs.length 0 _ [] (by omega) (by omega) ?_ (hD1.push _) ⟨_,Heap.get?_push_size _ rfl,rfl,rfl⟩ (fun b o _ _ e=>e) (fun h' tk' hd' hb'=>?_)
 . obtain⟨t,e1,rfl⟩:=at_ i x e
   obtain⟨p,key,e2,⟨o,ho',r'⟩,e4⟩:=hP i t e1
   exact ⟨p,t,key,e2,rfl,nD _ _ ho',nI _ _ ho',⟨o,Heap.get?_push_of_some _ (up _ _ ho'),r'⟩,e4⟩
 . have e0:([]:List (Key × Value)).length=0:=rfl
   omega
 . refine⟨rfl,.ref s.heap.objs.size,upd H s.heap.objs.size (.dK (mergeK [] Aw)),?_,rfl,q _ (I.hok.fresh (Nat.le_refl _))⟩
   have hzz:(mergeK [] Aw).length<=sizeLine:=by
    have h1:=Hk Aw []
    rw [List.length_nil] at h1
    omega
   refine I.laid (a:=s.heap.objs.size) (o:=.dK (mergeK [] Aw)) (t':=tk') (fun b o e=>hb' b o (nD _ _ e) (nI _ _ e) (Heap.get?_push_of_some _ (up _ _ e))) (Nat.le_refl _) (Yx hzz (beq_eq_false_iff_ne.mpr (Ne.symm (Nat.ne_of_lt I.big))) (hkv.merge .nil) ?_)
   simpa using hd'
theorem Js:∀ (more Aw:List (Key × V)),((Aw++more).map (·.1)).Nodup->mergeK Aw more=Aw++more
 | [],Aw,_=>by simp [mergeK]
 | p::more,Aw,h=>by
   have hnot:(Aw.any fun kv=>decide (kv.1=p.1))=false:=by
    rw [List.any_eq_false]
    intro kv hkv hd
    have e:kv.1=p.1:=by simpa using hd
    rw [List.map_append,List.nodup_append] at h
    exact h.2.2 kv.1 (List.mem_map_of_mem hkv) p.1 (by simp) e
   have e:putK Aw p.1 p.2=Aw++[p]:=by
    unfold putK
    rw [if_neg (by rw [hnot];decide)]
   show mergeK (putK Aw p.1 p.2) more=_
   rw [e,Js more (Aw++[p]) (by simpa using h)]
   simp
end L2
namespace L2
open PySem PySem.Spec PyProof.Rows PySem.SeqAt
end L2
namespace L2
open PySem PySem.Spec PyProof.Rows PySem.SeqAt
inductive D where
 | non | bl (b:Bool) | int (i:Int) | str (x:Str) | tup (ds:List D) | lst (ds:List D)
mutual
def Rep (K:W.Frag) (H:Hp):V->D->Prop
 | v,.non=>v=.non
 | v,.bl b=>v=.bl b
 | v,.int i=>v=.int i
 | v,.str x=>v=.str x
 | v,.tup ds=>∃ a vs,v=.ref a/\SqT K H a vs/\Reps K H vs ds
 | v,.lst ds=>∃ a vs,v=.ref a/\SqL K H a vs/\Reps K H vs ds
def Reps (K:W.Frag) (H:Hp):List V->List D->Prop
 | vs,[]=>vs=[]
 | vs,d::ds=>∃ v r,vs=v::r/\Rep K H v d/\Reps K H r ds
end
mutual
def imm:D->Bool
 | .lst _=>false
 | .tup ds=>imms ds
 | _=>true
def imms:List D->Bool
 | []=>true
 | d::ds=>imm d&&imms ds
end
mutual
def dep:D->Nat
 | .lst ds=>deps ds+1
 | .tup ds=>deps ds+1
 | _=>0
def deps:List D->Nat
 | []=>0
 | d::ds=>max (dep d) (deps ds)
end
mutual
def eqD:D->D->Bool
 | .non,.non=>true
 | .bl a,.bl b=>a==b
 | .bl a,.int b=>(if a then 1 else 0)==b
 | .int a,.bl b=>a==(if b then 1 else 0)
 | .int a,.int b=>a==b
 | .str a,.str b=>a==b
 | .tup a,.tup b=>eqDs a b
 | .lst a,.lst b=>eqDs a b
 | _,_=>false
def eqDs:List D->List D->Bool
 | [],[]=>true
 | a::r,b::q=>eqD a b&&eqDs r q
 | _,_=>false
end
mutual
theorem Fu (d:D):eqD d d=true:=by
 cases d with
 | non=>rfl
 | bl b=>simp [eqD]
 | int b=>simp [eqD]
 | str b=>simp [eqD]
 | tup ds=>simp only [eqD];exact eqDs_refl ds
 | lst ds=>simp only [eqD];exact eqDs_refl ds
theorem eqDs_refl (ds:List D):eqDs ds ds=true:=by
 cases ds with
 | nil=>rfl
 | cons d r=>simp only [eqDs,Bool.and_eq_true];exact ⟨Fu d,eqDs_refl r⟩
end
theorem eqDs_len:∀{a b:List D},eqDs a b=true->a.length=b.length
 | [],[],_=>rfl
 | [],_::_,h=>by simp [eqDs] at h
 | _::_,[],h=>by simp [eqDs] at h
 | x::a,y::b,h=>by
   simp only [eqDs,Bool.and_eq_true] at h
   rw [List.length_cons,List.length_cons,eqDs_len h.2]
theorem Hq:∀ (a b:List D),a.length=b.length->eqDs a b=(List.range a.length).all fun j=>match a[j]?,b[j]? with | some x,some y=>eqD x y | _,_=>true
 | [],[],_=>by simp [eqDs]
 | [],_::_,h=>by simp at h
 | _::_,[],h=>by simp at h
 | x::a,y::b,h=>by
   have h':a.length=b.length:=by simpa using h
   rw [List.length_cons,List.range_succ_eq_map,List.all_cons,List.all_map]
   simp only [eqDs,Hq a b h']
   congr 1
structure O3 (H H':Hp):Prop where
 tup:∀ b xs,H b=some (.tup xs)->H' b=some (.tup xs)
 frz:∀ b o u,H b=some (.frz o u)->H' b=some (.frz o u)
section
variable {K:W.Frag}{H H' H1 H2:Hp}{a l p:Addr}{xs:List V}{o:HO}
theorem Same.t (x:Same H H'):O3 H H':=⟨fun b xs h=>x b _ h,fun b o u h=>x b _ h⟩
theorem O3.lst (h:H l=some (.lst xs)):O3 H (upd H l o):=⟨fun b ys e=>by rw [A7 (V0 e h (by intro z;cases z))];exact e,fun b ob u e=>by rw [A7 (V0 e h (by intro z;cases z))];exact e⟩
theorem Same.new (h:H l=none):Same H (upd H l o):=fun b u e=>by rw [A7 (Bm e h)];exact e
theorem Same.turn (x:Same H H1) (h:H l=none):Same H (upd H1 l o):=fun b u e=>by rw [A7 (Bm e h)];exact x b u e
theorem SqT.t (x:O3 H H') (h:SqT K H a xs):SqT K H' a xs:=by
 rcases h with (h|⟨o,h⟩) | h
 . exact .inl (.inl (x.tup _ _ h))
 . exact .inl (.inr ⟨o,x.frz _ _ _ h⟩)
 . exact .inr h
theorem Same.seqT (x:Same H H') (h:SqT K H a xs):SqT K H' a xs:=h.t x.t
mutual
theorem Rep.t (x:O3 H H') {v:V}{d:D} (hi:imm d=true) (h:Rep K H v d):Rep K H' v d:=by
 cases d with
 | non=>exact h
 | bl b=>exact h
 | int i=>exact h
 | str x=>exact h
 | tup ds =>
   obtain⟨a,vs,e,q,r⟩:=h
   exact ⟨a,vs,e,q.t x,Reps.t x (by simpa [imm] using hi) r⟩
 | lst ds=>simp [imm] at hi
theorem Reps.t (x:O3 H H') {vs:List V}{ds:List D} (hi:imms ds=true) (h:Reps K H vs ds):Reps K H' vs ds:=by
 cases ds with
 | nil=>exact h
 | cons d r =>
   obtain⟨v,q,e,h1,h2⟩:=h
   simp only [imms,Bool.and_eq_true] at hi
   exact ⟨v,q,e,Rep.t x hi.1 h1,Reps.t x hi.2 h2⟩
end
mutual
theorem Rep.same (x:Same H H') {v:V}{d:D} (h:Rep K H v d):Rep K H' v d:=by
 cases d with
 | non=>exact h
 | bl b=>exact h
 | int i=>exact h
 | str x=>exact h
 | tup ds =>
   obtain⟨a,vs,e,q,r⟩:=h
   exact ⟨a,vs,e,x.seqT q,Reps.same x r⟩
 | lst ds =>
   obtain⟨a,vs,e,q,r⟩:=h
   exact ⟨a,vs,e,x.seq q,Reps.same x r⟩
theorem Reps.same (x:Same H H') {vs:List V}{ds:List D} (h:Reps K H vs ds):Reps K H' vs ds:=by
 cases ds with
 | nil=>exact h
 | cons d r =>
   obtain⟨v,q,e,h1,h2⟩:=h
   exact ⟨v,q,e,Rep.same x h1,Reps.same x h2⟩
end
theorem Reps.length:∀{vs:List V}{ds:List D},Reps K H vs ds->vs.length=ds.length
 | vs,[],h=>by cases (show vs=[] from h);rfl
 | vs,d::ds,h=>by
   obtain⟨v,r,rfl,_,h2⟩:=h
   rw [List.length_cons,List.length_cons,Reps.length h2]
theorem Reps.get:∀{vs:List V}{ds:List D}{i:Nat}{d:D},Reps K H vs ds->ds[i]?=some d->∃ v,vs[i]?=some v/\Rep K H v d
 | vs,[],i,d,h,e=>by simp at e
 | vs,d0::ds,0,d,h,e=>by
   obtain⟨v,r,rfl,h1,_⟩:=h
   simp only [List.getElem?_cons_zero,Option.some.injEq] at e
   subst e
   exact ⟨v,by simp,h1⟩
 | vs,d0::ds,i+1,d,h,e=>by
   obtain⟨v,r,rfl,_,h2⟩:=h
   obtain⟨u,e1,e2⟩:=Reps.get (i:=i) h2 (by simpa using e)
   exact ⟨u,by simpa using e1,e2⟩
theorem Reps.getV:∀{vs:List V}{ds:List D}{i:Nat}{v:V},Reps K H vs ds->vs[i]?=some v->∃ d,ds[i]?=some d/\Rep K H v d:=fun {vs ds i v} h e=>by
 have hl:=h.length
 have hi:i<vs.length:=(List.getElem?_eq_some_iff.mp e).1
 obtain⟨d,hd⟩:∃ d,ds[i]?=some d:=⟨ds[i]'(by omega),by simp<;>omega⟩
 obtain⟨u,e1,e2⟩:=h.get hd
 rw [e] at e1
 cases e1
 exact ⟨d,hd,e2⟩
theorem Reps.append:∀{vs ws:List V}{ds es:List D},Reps K H vs ds->Reps K H ws es->Reps K H (vs++ws) (ds++es)
 | vs,ws,[],es,h,h'=>by cases (show vs=[] from h);exact h'
 | vs,ws,d::ds,es,h,h'=>by
   obtain⟨v,r,rfl,h1,h2⟩:=h
   exact ⟨v,r++ws,rfl,h1,Reps.append h2 h'⟩
theorem Reps.one {v:V}{d:D} (h:Rep K H v d):Reps K H [v] [d]:=⟨v,[],rfl,h,rfl⟩
theorem Reps.snoc {vs:List V}{ds:List D}{v:V}{d:D} (h:Reps K H vs ds) (h':Rep K H v d):Reps K H (vs++[v]) (ds++[d]):=h.append (.one h')
theorem Reps.take:∀{vs:List V}{ds:List D} (n:Nat),Reps K H vs ds->Reps K H (vs.take n) (ds.take n)
 | vs,ds,0,h=>by simp [Reps]
 | vs,[],n+1,h=>by cases (show vs=[] from h);simp [Reps]
 | vs,d::ds,n+1,h=>by
   obtain⟨v,r,rfl,h1,h2⟩:=h
   exact ⟨v,r.take n,rfl,h1,Reps.take n h2⟩
def nums (ns:List Int):List D:=ns.map D.int
abbrev tI (ns:List Int):D:=.tup (nums ns)
theorem Qy:∀ ns:List Int,imms (nums ns)=true
 | []=>rfl
 | n::ns=>by show (imm (.int n)&&imms (nums ns))=true;rw [Qy ns];rfl
theorem Yv (ns:List Int):imm (tI ns)=true:=Qy ns
theorem Oi:∀ xs:List (List Int),imms (xs.map tI)=true
 | []=>rfl
 | x::xs=>by show (imm (tI x)&&imms (xs.map tI))=true;rw [Oi xs,Yv];rfl
theorem Q1:∀ a b:List Int,eqDs (nums a) (nums b)=decide (a=b)
 | [],[]=>by simp [nums,eqDs]
 | [],_::_=>by simp [nums,eqDs]
 | _::_,[]=>by simp [nums,eqDs]
 | x::a,y::b=>by
   show (eqD (.int x) (.int y)&&eqDs (nums a) (nums b))=_
   rw [Q1 a b]
   simp only [eqD]
   by_cases e:x=y
   . subst e;by_cases e2:a=b<;>simp [e2]
   . simp [e]
theorem Yw (a b:List Int):eqD (tI a) (tI b)=decide (a=b):=by simp only [eqD];exact Q1 a b
theorem Dw:∀{vs:List V}{ns:List Int},Reps K H vs (nums ns)↔vs=ns.map V.int
 | vs,[]=>Iff.rfl
 | vs,n::ns=>by
   constructor
   . rintro ⟨v,r,rfl,h1,h2⟩
     have h1':v=.int n:=h1
     rw [h1',Dw.mp h2];rfl
   . rintro rfl
     exact ⟨.int n,ns.map V.int,rfl,rfl,Dw.mpr rfl⟩
end
section
variable {X:Cx}{Ab:List (Addr × Obj)}{σ:St}{H:Hp}{s:Shared}
theorem Vz (I:Inv X Ab σ H s) {a:Addr}{xs ys:List V} (h:SqT X.K H a xs) (h':SqL X.K H a ys):False:=by
 obtain⟨its,r,⟨o,e,c,n,d⟩,_⟩:=I.tuple h
 obtain⟨its',r',⟨o',n',e',c',_,d'⟩,_⟩:=I.list h'
 rw [e] at e';cases e'
 rw [c] at c'
 have z:("tuple":String)="list":=by injection c'
 exact absurd z (by decide)
mutual
theorem Rep.inj (I:Inv X Ab σ H s) {v:V}{d e:D} (h:Rep X.K H v d) (h':Rep X.K H v e):d=e:=by
 cases d with
 | non=>cases (show v=.non from h);cases e<;>first | rfl | (exfalso;first | (cases (show V.non=_ from h')) | (obtain⟨_,_,z,_⟩:=h';cases z))
 | bl b=>cases (show v=.bl b from h);cases e<;>first | (cases (show V.bl b=_ from h');rfl) | (exfalso;first | (cases (show V.bl b=_ from h')) | (obtain⟨_,_,z,_⟩:=h';cases z))
 | int b=>cases (show v=.int b from h);cases e<;>first | (cases (show V.int b=_ from h');rfl) | (exfalso;first | (cases (show V.int b=_ from h')) | (obtain⟨_,_,z,_⟩:=h';cases z))
 | str b=>cases (show v=.str b from h);cases e<;>first | (cases (show V.str b=_ from h');rfl) | (exfalso;first | (cases (show V.str b=_ from h')) | (obtain⟨_,_,z,_⟩:=h';cases z))
 | tup ds =>
   obtain⟨a,vs,rfl,q,r⟩:=h
   cases e with
   | tup es =>
     obtain⟨b,ws,z,q',r'⟩:=h'
     cases z
     have e1:=I.tuple_inj q q'
     subst e1
     rw [Reps.inj I r r']
   | lst es =>
     obtain⟨b,ws,z,q',r'⟩:=h'
     cases z
     exact (Vz I q q').elim
   | non=>cases (show V.ref a=_ from h')
   | bl _=>cases (show V.ref a=_ from h')
   | int _=>cases (show V.ref a=_ from h')
   | str _=>cases (show V.ref a=_ from h')
 | lst ds =>
   obtain⟨a,vs,rfl,q,r⟩:=h
   cases e with
   | lst es =>
     obtain⟨b,ws,z,q',r'⟩:=h'
     cases z
     have e1:=I.list_inj q q'
     subst e1
     rw [Reps.inj I r r']
   | tup es =>
     obtain⟨b,ws,z,q',r'⟩:=h'
     cases z
     exact (Vz I q' q).elim
   | non=>cases (show V.ref a=_ from h')
   | bl _=>cases (show V.ref a=_ from h')
   | int _=>cases (show V.ref a=_ from h')
   | str _=>cases (show V.ref a=_ from h')
theorem Reps.inj (I:Inv X Ab σ H s) {vs:List V}{ds es:List D} (h:Reps X.K H vs ds) (h':Reps X.K H vs es):ds=es:=by
 cases ds with
 | nil =>
   cases (show vs=[] from h)
   cases es with
   | nil=>rfl
   | cons e es=>obtain⟨_,_,z,_⟩:=h';cases z
 | cons d ds =>
   obtain⟨v,r,rfl,h1,h2⟩:=h
   cases es with
   | nil=>cases (show v::r=[] from h')
   | cons e es =>
     obtain⟨v',r',z,h1',h2'⟩:=h'
     cases z
     rw [Rep.inj I h1 h1',Reps.inj I h2 h2']
end
def EqD (X:Cx) (H:Hp) (s:Shared) (d:D):Prop:=∀ (A:Around) (x y:V) (u v:Value) (e:D),A.units+dep d<cLine->Rep X.K H x d->Rep X.K H y e->RelV x u->RelV y v->RcAt A s u v (eqD d e)/\EqAt A s u v (eqD d e)
theorem To (I:Inv X Ab σ H s) {ds es:List D}{vs ws:List V}{us us':List Value}{A:Around} (hu:A.units+deps ds<cLine) (r:Reps X.K H vs ds) (r':Reps X.K H ws es) (rv:Vals vs us) (rv':Vals ws us')
 (ih:∀ d∈ds,EqD X H s d) (hdm:∀ d∈ds,dep d<=deps ds):∀ j (h1:j<us.toArray.size) (h2:j<us'.toArray.size),EqAt A s us.toArray[j] us'.toArray[j] (match ds[j]?,es[j]? with | some x,some y=>eqD x y | _,_=>true):=by
 intro j h1 h2
 have l1:=r.length
 have l2:=r'.length
 have l3:=rv.length
 have l4:=rv'.length
 have h1':j<us.length:=by simpa using h1
 have h2':j<us'.length:=by simpa using h2
 have e1:ds[j]?=some (ds[j]'(by omega)):=by simp<;>omega
 have e2:es[j]?=some (es[j]'(by omega)):=by simp<;>omega
 obtain⟨v,ev,rd⟩:=r.get e1
 obtain⟨w,ew,re⟩:=r'.get e2
 obtain⟨u,eu,ru⟩:=rv.get ev
 obtain⟨u',eu',ru'⟩:=rv'.get ew
 have f1:us.toArray[j]=u:=by
  have:us[j]?=some us[j]:=by simp
  rw [eu] at this
  have:=(Option.some.inj this).symm
  simpa using this
 have f2:us'.toArray[j]=u':=by
  have:us'[j]?=some us'[j]:=by simp
  rw [eu'] at this
  have:=(Option.some.inj this).symm
  simpa using this
 rw [f1,f2,e1,e2]
 have hm:ds[j]'(by omega)∈ds:=List.getElem_mem _
 exact (ih _ hm A v w u u' _ (by have:=hdm _ hm;omega) rd re ru ru').2
theorem deps_le:∀{ds:List D}{d:D},d∈ds->dep d<=deps ds
 | d0::ds,d,h=>by
   simp only [deps]
   rcases List.mem_cons.mp h with rfl | h
   . omega
   . have:=deps_le h;omega
theorem Hg {a b:List D} (h:¬a.length=b.length):eqDs a b=false:=by
 cases q:eqDs a b with
 | false=>rfl
 | true=>exact absurd (eqDs_len q) h
mutual
theorem Wg (I:Inv X Ab σ H s) (d:D):EqD X H s d:=by
 intro A x y u v e hu hx hy rx ry
 cases d with
 | non =>
   cases (show x=.non from hx)
   cases (show u=Value.none from rx)
   cases e with
   | non=>cases (show y=.non from hy);cases (show v=Value.none from ry);exact ⟨.none_none,.same _⟩
   | bl b=>cases (show y=.bl b from hy);cases (show v=Value.bool b from ry);exact ⟨.none_bool b,.none_bool b⟩
   | int i=>cases (show y=.int i from hy);obtain⟨t,rfl⟩:=ry;exact ⟨.none_int i t,.none_int i t⟩
   | str z=>cases (show y=.str z from hy);obtain⟨t,rfl⟩:=ry;exact ⟨.none_str z t,.none_str z t⟩
   | tup es=>obtain⟨a,vs,rfl,q,r⟩:=hy;cases ry;obtain⟨its,_,p,_⟩:=I.tuple q;exact ⟨.none_tuple p (by omega),.none_tuple p (by omega)⟩
   | lst es=>obtain⟨a,vs,rfl,q,r⟩:=hy;cases ry;obtain⟨its,_,p,_⟩:=I.list q;exact ⟨.none_list p.isList (by omega),.none_list p.isList (by omega)⟩
 | bl c =>
   cases (show x=.bl c from hx)
   cases (show u=Value.bool c from rx)
   cases e with
   | non=>cases (show y=.non from hy);cases (show v=Value.none from ry);exact ⟨.bool_none c,.bool_none c⟩
   | bl b=>cases (show y=.bl b from hy);cases (show v=Value.bool b from ry);exact ⟨.bool_bool c b,.bool_bool c b⟩
   | int i=>cases (show y=.int i from hy);obtain⟨t,rfl⟩:=ry;exact ⟨.bool_int c i t,.bool_int c i t⟩
   | str z=>cases (show y=.str z from hy);obtain⟨t,rfl⟩:=ry;exact ⟨.bool_str c z t,.bool_str c z t⟩
   | tup es=>obtain⟨a,vs,rfl,q,r⟩:=hy;cases ry;obtain⟨its,_,p,_⟩:=I.tuple q;exact ⟨.bool_tuple c p (by omega),.bool_tuple c p (by omega)⟩
   | lst es=>obtain⟨a,vs,rfl,q,r⟩:=hy;cases ry;obtain⟨its,_,p,_⟩:=I.list q;exact ⟨.bool_list c p.isList (by omega),.bool_list c p.isList (by omega)⟩
 | int c =>
   cases (show x=.int c from hx)
   obtain⟨t,rfl⟩:=rx
   cases e with
   | non=>cases (show y=.non from hy);cases (show v=Value.none from ry);exact ⟨.int_none c t,.int_none c t⟩
   | bl b=>cases (show y=.bl b from hy);cases (show v=Value.bool b from ry);exact ⟨.int_bool c t b,.int_bool c t b⟩
   | int i=>cases (show y=.int i from hy);obtain⟨t',rfl⟩:=ry;exact ⟨.int_int c t i t',.int_int c t i t'⟩
   | str z=>cases (show y=.str z from hy);obtain⟨t',rfl⟩:=ry;exact ⟨.int_str c t z t',.int_str c t z t'⟩
   | tup es=>obtain⟨a,vs,rfl,q,r⟩:=hy;cases ry;obtain⟨its,_,p,_⟩:=I.tuple q;exact ⟨.int_tuple c t p (by omega),.int_tuple c t p (by omega)⟩
   | lst es=>obtain⟨a,vs,rfl,q,r⟩:=hy;cases ry;obtain⟨its,_,p,_⟩:=I.list q;exact ⟨.int_list c t p.isList (by omega),.int_list c t p.isList (by omega)⟩
 | str c =>
   cases (show x=.str c from hx)
   obtain⟨t,rfl⟩:=rx
   cases e with
   | non=>cases (show y=.non from hy);cases (show v=Value.none from ry);exact ⟨.str_none c t,.str_none c t⟩
   | bl b=>cases (show y=.bl b from hy);cases (show v=Value.bool b from ry);exact ⟨.str_bool c t b,.str_bool c t b⟩
   | int i=>cases (show y=.int i from hy);obtain⟨t',rfl⟩:=ry;exact ⟨.str_int c t i t',.str_int c t i t'⟩
   | str z=>cases (show y=.str z from hy);obtain⟨t',rfl⟩:=ry;exact ⟨.str_str c t z t',.str_str c t z t'⟩
   | tup es=>obtain⟨a,vs,rfl,q,r⟩:=hy;cases ry;obtain⟨its,_,p,_⟩:=I.tuple q;exact ⟨.str_tuple c t p (by omega),.str_tuple c t p (by omega)⟩
   | lst es=>obtain⟨a,vs,rfl,q,r⟩:=hy;cases ry;obtain⟨its,_,p,_⟩:=I.list q;exact ⟨.str_list c t p.isList (by omega),.str_list c t p.isList (by omega)⟩
 | tup ds =>
   have hx':=hx
   obtain⟨a,vs,rfl,q,r⟩:=hx
   cases rx
   obtain⟨its,rv,p,_⟩:=I.tuple q
   have hu':A.units+1+deps ds<cLine:=by simp only [dep] at hu;omega
   cases e with
   | non=>cases (show y=.non from hy);cases (show v=Value.none from ry);exact ⟨.tuple_none p (by omega),.tuple_none p (by omega)⟩
   | bl b=>cases (show y=.bl b from hy);cases (show v=Value.bool b from ry);exact ⟨.tuple_bool b p (by omega),.tuple_bool b p (by omega)⟩
   | int i=>cases (show y=.int i from hy);obtain⟨t',rfl⟩:=ry;exact ⟨.tuple_int i t' p (by omega),.tuple_int i t' p (by omega)⟩
   | str z=>cases (show y=.str z from hy);obtain⟨t',rfl⟩:=ry;exact ⟨.tuple_str z t' p (by omega),.tuple_str z t' p (by omega)⟩
   | lst es=>obtain⟨b,ws,rfl,q',r'⟩:=hy;cases ry;obtain⟨its',_,p',_⟩:=I.list q';exact ⟨.tuple_list p p'.isList (by omega),.tuple_list p p'.isList (by omega)⟩
   | tup es =>
     have hy':=hy
     obtain⟨b,ws,rfl,q',r'⟩:=hy
     cases ry
     obtain⟨its',rv',p',_⟩:=I.tuple q'
     have main:RcAt A s (.ref a) (.ref b) (eqD (.tup ds) (.tup es)):=by
      have:=RcAt.tuples (A:=A) p p' (by omega) (To I (A:=A.in1) (by show A.units+1+deps ds<cLine;omega) r r' rv rv' (eqDs_ok I ds) fun d h=>deps_le h)
      have l1:=r.length
      have l2:=r'.length
      have l3:=rv.length
      have l4:=rv'.length
      have e1:its.toArray.size=ds.length:=by simp<;>omega
      have e2:its'.toArray.size=es.length:=by simp<;>omega
      rw [e1,e2] at this
      simp only [eqD]
      by_cases hl:ds.length=es.length
      . rw [Hq ds es hl]
        rw [←hl,Nat.min_self] at this
        simpa using this
      . rw [Hg hl]
        have z:(ds.length==es.length)=false:=by simpa using hl
        rw [z,Bool.and_false] at this
        exact this
     refine⟨main,?_⟩
     by_cases hab:a=b
     . subst hab
       have e3:D.tup ds=D.tup es:=Rep.inj I hx' hy'
       rw [e3,Fu]
       exact .same _
     . exact .of_refs hab main
 | lst ds =>
   have hx':=hx
   obtain⟨a,vs,rfl,q,r⟩:=hx
   cases rx
   obtain⟨its,rv,p,_⟩:=I.list q
   have hu':A.units+1+deps ds<cLine:=by simp only [dep] at hu;omega
   cases e with
   | non=>cases (show y=.non from hy);cases (show v=Value.none from ry);exact ⟨.list_none p.isList (by omega),.list_none p.isList (by omega)⟩
   | bl b=>cases (show y=.bl b from hy);cases (show v=Value.bool b from ry);exact ⟨.list_bool b p.isList (by omega),.list_bool b p.isList (by omega)⟩
   | int i=>cases (show y=.int i from hy);obtain⟨t',rfl⟩:=ry;exact ⟨.list_int i t' p.isList (by omega),.list_int i t' p.isList (by omega)⟩
   | str z=>cases (show y=.str z from hy);obtain⟨t',rfl⟩:=ry;exact ⟨.list_str z t' p.isList (by omega),.list_str z t' p.isList (by omega)⟩
   | tup es=>obtain⟨b,ws,rfl,q',r'⟩:=hy;cases ry;obtain⟨its',_,p',_⟩:=I.tuple q';exact ⟨.list_tuple p.isList p' (by omega),.list_tuple p.isList p' (by omega)⟩
   | lst es =>
     have hy':=hy
     obtain⟨b,ws,rfl,q',r'⟩:=hy
     cases ry
     obtain⟨its',rv',p',_⟩:=I.list q'
     have main:RcAt A s (.ref a) (.ref b) (eqD (.lst ds) (.lst es)):=by
      have l1:=r.length
      have l2:=r'.length
      have l3:=rv.length
      have l4:=rv'.length
      have e1:its.toArray.size=ds.length:=by simp<;>omega
      have e2:its'.toArray.size=es.length:=by simp<;>omega
      simp only [eqD]
      by_cases hl:ds.length=es.length
      . have:=RcAt.lists (A:=A) p.isList p'.isList (by omega) (by omega) (To I (A:=A.in1) (by show A.units+1+deps ds<cLine;omega) r r' rv rv' (eqDs_ok I ds) fun d h=>deps_le h)
        rw [e1] at this
        rw [Hq ds es hl]
        exact this
      . rw [Hg hl]
        exact RcAt.lists_lengths p.isList p'.isList (by simpa [e1,e2] using hl) (by omega)
     refine⟨main,?_⟩
     by_cases hab:a=b
     . subst hab
       have e3:D.lst ds=D.lst es:=Rep.inj I hx' hy'
       rw [e3,Fu]
       exact .same _
     . exact .of_refs hab main
theorem eqDs_ok (I:Inv X Ab σ H s) (ds:List D):∀ d∈ds,EqD X H s d:=by
 cases ds with
 | nil=>exact fun _ h=>nomatch h
 | cons d0 r =>
   intro d h
   rcases List.mem_cons.mp h with e | h
   . exact e▸Wg I d0
   . exact eqDs_ok I r d h
end
def rEqD (K:W.Frag) (n:Nat):R2:=fun x y H Q=>∃ d e,Rep K H x d/\Rep K H y e/\dep d<=n/\Q (.bl (eqD d e)) H
theorem j3 {n:Nat} (hu:X.A.units+n<cLine):OpR X (compareOp .Eq) (rEqD X.K n):=by
 intro Ab s σ H x y v u Q I rx ry h
 obtain⟨d,e,hd,he,hn,q⟩:=h
 exact (Wg I d X.A x y v u e (by omega) hd he rx ry).1 X.prog X.w X.xe _ ⟨.bl (eqD d e),H,I,rfl,q⟩
end
end L2
namespace L2
open PySem PySem.Spec PyProof.Rows PySem.SeqAt
section
variable {X:Cx}
def eqF (X:Cx) (H:Hp) (d:D) (u:Value):Bool:=@decide (∃ v e,RelV v u/\Rep X.K H v e/\eqD e d=true) (Classical.propDecidable _)
theorem We {Ab:List (Addr × Obj)}{σ:St}{H:Hp}{s:Shared} (I:Inv X Ab σ H s) {d e:D}{v:V}{u:Value} (r:RelV v u) (h:Rep X.K H v e):eqF X H d u=eqD e d:=by
 cases q:eqD e d with
 | true=>exact @decide_eq_true _ (Classical.propDecidable _) ⟨v,e,r,h,q⟩
 | false =>
   refine @decide_eq_false _ (Classical.propDecidable _) ?_
   rintro ⟨v',e',r',h',q'⟩
   have:=r.inj r'
   subst this
   rw [Rep.inj I h h'] at q
   rw [q] at q'
   cases q'
theorem Wf {Ab:List (Addr × Obj)}{σ:St}{H:Hp}{s:Shared} (I:Inv X Ab σ H s) {A:Around}{x:V}{v:Value}{d:D}{vs:List V}{us:List Value}{ds:List D} (hu:A.units+deps ds<cLine) (hx:Rep X.K H x d) (rx:RelV x v)
 (r:Reps X.K H vs ds) (rv:Vals vs us):∀ y,y∈us.toArray->EqAt A s y v (eqF X H d y):=by
 intro y hy
 have hy':y∈us:=by simpa using hy
 obtain⟨i,hi⟩:=List.getElem?_of_mem hy'
 have hlt:i<us.length:=(List.getElem?_eq_some_iff.mp hi).1
 have l1:=rv.length
 obtain⟨w,hw⟩:∃ w,vs[i]?=some w:=⟨vs[i]'(by omega),by simp<;>omega⟩
 obtain⟨u,hu2,ru⟩:=rv.get hw
 rw [hi] at hu2
 cases hu2
 obtain⟨e,he,re⟩:=r.getV hw
 rw [We I ru re]
 have hm:e∈ds:=List.mem_of_getElem? he
 exact (Wg I e A w x y v d (by have:=deps_le hm;omega) re hx ru rx).2
theorem Xa {Ab:List (Addr × Obj)}{σ:St}{H:Hp}{s:Shared} (I:Inv X Ab σ H s) {d:D}:∀{vs:List V}{us:List Value}{ds:List D},Reps X.K H vs ds->Vals vs us->us.any (eqF X H d)=ds.any fun e=>eqD e d
 | vs,us,[],r,rv=>by
   cases (show vs=[] from r)
   cases rv
   rfl
 | vs,us,e::ds,r,rv=>by
   obtain⟨v,q,rfl,h1,h2⟩:=r
   cases rv with
   | cons r1 r2=>rw [List.any_cons,List.any_cons,We I r1 h1,Xa I h2 r2]
def SeqD (K:W.Frag) (H:Hp) (y:V) (ds:List D):Prop:=Rep K H y (.lst ds)\/Rep K H y (.tup ds)
def rInD (K:W.Frag) (n:Nat) (neg:Bool):R2:=fun x y H Q=>∃ d ds,Rep K H x d/\SeqD K H y ds/\deps ds+1<=n/\Q (.bl (if neg then !(ds.any fun e=>eqD e d) else ds.any fun e=>eqD e d)) H
theorem Vt {n:Nat} (hu:X.A.units+n<cLine):OpR X (compareOp .NotIn) (rInD X.K n true):=by
 intro Ab s σ H x y v u Q I rx ry h
 obtain⟨d,ds,hx,hs,hn,q⟩:=h
 have fin:∀{us:List Value}{vs:List V},Reps X.K H vs ds->Vals vs us->EP X Ab σ Q (.bool (!us.toArray.any (eqF X H d))) s:=fun r rv =>
  ⟨.bl (!(ds.any fun e=>eqD e d)),H,I,by show Value.bool _=Value.bool _;rw [List.any_toArray,Xa I r rv],q⟩
 rcases hs with ⟨a,vs,rfl,hq,r⟩|⟨a,vs,rfl,hq,r⟩
 . cases ry
   obtain⟨its,rv,p,_⟩:=I.list hq
   exact notIn_listAt (eqF X H d) p.isList (Wf I (A:=X.A.in1) (by show X.A.units+1+deps ds<cLine;omega) hx rx r rv) (fin r rv)
 . cases ry
   obtain⟨its,rv,p,_⟩:=I.tuple hq
   exact notIn_tupleAt (eqF X H d) p (Wf I (A:=X.A.in1) (by show X.A.units+1+deps ds<cLine;omega) hx rx r rv) (fin r rv)
def Yp (K:W.Frag) (n:Nat):V->List V->Hp->VK->Prop:=fun x vs H Q=>∃ ds y d j,vs=[y]/\Rep K H x (.lst ds)/\Rep K H y d/\deps ds+1<=n/\ds.findIdx? (fun e=>eqD e d)=some j/\Q (.int (j:Nat)) H
theorem X2 {n:Nat} (hu:X.A.units+n<cLine):MtR X "list.index" (Yp X.K n):=by
 intro Ab s σ H x vs v us Q I rx rv h
 obtain⟨ds,y,d,j,rfl,⟨a,ws,rfl,hq,r⟩,hy,hn,hj,q⟩:=h
 cases rx
 obtain⟨u,rfl,ru⟩:=rv.one
 obtain⟨its,rw',p,hz⟩:=I.list hq
 have l1:=r.length
 have l2:=rw'.length
 obtain⟨hlt,hit,hno⟩:=List.findIdx?_eq_some_iff_getElem.mp hj
 have at':∀ m (hm:m<its.toArray.size) (hm':m<ds.length),eqF X H d its.toArray[m]=eqD ds[m] d:=fun m hm hm'=>by
  obtain⟨w,hw,re⟩:=r.get (i:=m) (d:=ds[m]) (by simp)
  obtain⟨u',hu',ru'⟩:=rw'.get hw
  have e1:its.toArray[m]=u':=by
   have hm2:m<its.length:=by simpa using hm
   have:its[m]?=some its[m]:=by simp
   rw [hu'] at this
   have:=(Option.some.inj this).symm
   simpa using this
  rw [e1]
  exact We I ru' re
 obtain⟨o,k,ho,hc,hdn,hd⟩:=id p
 obtain⟨cls,dd,data,sl⟩:=o
 simp only at hc hdn hd
 subst hc hdn hd
 have hsz:ds.length<=sizeLine:=by omega
 have big:(sizeLine:Nat)<2 ^ 62:=by rw [sizeLine_eq];decide
 refine call_meets PySem.F.slot_list_index ⟨_,ho,rfl⟩ PySem.F.entry_list_index (PySem.F.args_list_index_2 _ _)
  (list_indexAt a its.toArray k none sl u (eqF X H d) j (by simp<;>omega) (by omega) ?_ ?_) ⟨ho,Wf I (A:=X.A.in1) (by show X.A.units+1+deps ds<cLine;omega) hy ru r rw',?_⟩
 . rw [at' j (by simp<;>omega) hlt];exact hit
 . intro m hm hmj
   rw [at' m hm (by omega)]
   have:=hno m hmj
   simpa using this
 . exact ⟨.int (j:Nat),H,I.tok _,⟨_,rfl⟩,q⟩
def rNeD (K:W.Frag) (n:Nat):R2:=fun x y H Q=>∃ d e,Rep K H x d/\Rep K H y e/\dep d<=n/\Q (.bl (!eqD d e)) H
theorem j0 {n:Nat} (hu:X.A.units+n<cLine):OpR X (compareOp .NotEq) (rNeD X.K n):=by
 intro Ab s σ H x y v u Q I rx ry h
 obtain⟨d,e,hd,he,hn,q⟩:=h
 have fin:EP X Ab σ Q (.bool (!eqD d e)) s:=⟨.bl (!eqD d e),H,I,rfl,q⟩
 have go:∀{k:Bool},RcNeAt X.A s v u k->k=(!eqD d e)->wpAny (model X.prog X.w) X.A (compareOp .NotEq v u) (EP X Ab σ Q) X.xe s:=fun h1 h2=>by
  subst h2
  exact h1 X.prog X.w X.xe _ fin
 cases d with
 | non =>
   cases (show x=.non from hd)
   cases (show v=Value.none from rx)
   cases e with
   | non=>cases (show y=.non from he);cases (show u=Value.none from ry);exact go .none_none rfl
   | bl b=>cases (show y=.bl b from he);cases (show u=Value.bool b from ry);exact go (.none_bool b) rfl
   | int i=>cases (show y=.int i from he);obtain⟨t,rfl⟩:=ry;exact go (.none_int i t) rfl
   | str z=>cases (show y=.str z from he);obtain⟨t,rfl⟩:=ry;exact go (.none_str z t) rfl
   | tup es=>obtain⟨a,vs,rfl,q,r⟩:=he;cases ry;obtain⟨its,_,p,_⟩:=I.tuple q;exact go (.none_tuple p (by omega)) rfl
   | lst es=>obtain⟨a,vs,rfl,q,r⟩:=he;cases ry;obtain⟨its,_,p,_⟩:=I.list q;exact go (.none_list p.isList (by omega)) rfl
 | bl c =>
   cases (show x=.bl c from hd)
   cases (show v=Value.bool c from rx)
   cases e with
   | non=>cases (show y=.non from he);cases (show u=Value.none from ry);exact go (.bool_none c) rfl
   | bl b=>cases (show y=.bl b from he);cases (show u=Value.bool b from ry);exact go (.bool_bool c b) rfl
   | int i=>cases (show y=.int i from he);obtain⟨t,rfl⟩:=ry;exact go (.bool_int c i t) rfl
   | str z=>cases (show y=.str z from he);obtain⟨t,rfl⟩:=ry;exact go (.bool_str c z t) rfl
   | tup es=>obtain⟨a,vs,rfl,q,r⟩:=he;cases ry;obtain⟨its,_,p,_⟩:=I.tuple q;exact go (.bool_tuple c p (by omega)) rfl
   | lst es=>obtain⟨a,vs,rfl,q,r⟩:=he;cases ry;obtain⟨its,_,p,_⟩:=I.list q;exact go (.bool_list c p.isList (by omega)) rfl
 | int c =>
   cases (show x=.int c from hd)
   obtain⟨t,rfl⟩:=rx
   cases e with
   | non=>cases (show y=.non from he);cases (show u=Value.none from ry);exact go (.int_none c t) rfl
   | bl b=>cases (show y=.bl b from he);cases (show u=Value.bool b from ry);exact go (.int_bool c t b) rfl
   | int i=>cases (show y=.int i from he);obtain⟨t',rfl⟩:=ry;exact go (.int_int c t i t') rfl
   | str z=>cases (show y=.str z from he);obtain⟨t',rfl⟩:=ry;exact go (.int_str c t z t') rfl
   | tup es=>obtain⟨a,vs,rfl,q,r⟩:=he;cases ry;obtain⟨its,_,p,_⟩:=I.tuple q;exact go (.int_tuple c t p (by omega)) rfl
   | lst es=>obtain⟨a,vs,rfl,q,r⟩:=he;cases ry;obtain⟨its,_,p,_⟩:=I.list q;exact go (.int_list c t p.isList (by omega)) rfl
 | str c =>
   cases (show x=.str c from hd)
   obtain⟨t,rfl⟩:=rx
   cases e with
   | non=>cases (show y=.non from he);cases (show u=Value.none from ry);exact go (.str_none c t) rfl
   | bl b=>cases (show y=.bl b from he);cases (show u=Value.bool b from ry);exact go (.str_bool c t b) rfl
   | int i=>cases (show y=.int i from he);obtain⟨t',rfl⟩:=ry;exact go (.str_int c t i t') rfl
   | str z=>cases (show y=.str z from he);obtain⟨t',rfl⟩:=ry;exact go (.str_str c t z t') rfl
   | tup es=>obtain⟨a,vs,rfl,q,r⟩:=he;cases ry;obtain⟨its,_,p,_⟩:=I.tuple q;exact go (.str_tuple c t p (by omega)) rfl
   | lst es=>obtain⟨a,vs,rfl,q,r⟩:=he;cases ry;obtain⟨its,_,p,_⟩:=I.list q;exact go (.str_list c t p.isList (by omega)) rfl
 | tup ds =>
   obtain⟨a,vs,rfl,q1,r⟩:=hd
   cases rx
   obtain⟨its,rv,p,_⟩:=I.tuple q1
   have hu':X.A.units+1+deps ds<cLine:=by simp only [dep] at hn;omega
   cases e with
   | non=>cases (show y=.non from he);cases (show u=Value.none from ry);exact go (.tuple_none p (by omega)) rfl
   | bl b=>cases (show y=.bl b from he);cases (show u=Value.bool b from ry);exact go (.tuple_bool b p (by omega)) rfl
   | int i=>cases (show y=.int i from he);obtain⟨t',rfl⟩:=ry;exact go (.tuple_int i t' p (by omega)) rfl
   | str z=>cases (show y=.str z from he);obtain⟨t',rfl⟩:=ry;exact go (.tuple_str z t' p (by omega)) rfl
   | lst es=>obtain⟨b,ws,rfl,q',r'⟩:=he;cases ry;obtain⟨its',_,p',_⟩:=I.list q';exact go (.tuple_list p p'.isList (by omega)) rfl
   | tup es =>
     obtain⟨b,ws,rfl,q',r'⟩:=he
     cases ry
     obtain⟨its',rv',p',_⟩:=I.tuple q'
     refine go (RcNeAt.tuples p p' (by omega) (To I (A:=X.A.in1) (by show X.A.units+1+deps ds<cLine;omega) r r' rv rv' (eqDs_ok I ds) fun d h=>deps_le h)) ?_
     have l1:=r.length
     have l2:=r'.length
     have l3:=rv.length
     have l4:=rv'.length
     have e1:its.toArray.size=ds.length:=by simp<;>omega
     have e2:its'.toArray.size=es.length:=by simp<;>omega
     rw [e1,e2]
     simp only [eqD]
     by_cases hl:ds.length=es.length
     . rw [Hq ds es hl,←hl,Nat.min_self]
       simp
     . rw [Hg hl]
       have z:(ds.length==es.length)=false:=by simpa using hl
       rw [z,Bool.and_false]
 | lst ds =>
   obtain⟨a,vs,rfl,q1,r⟩:=hd
   cases rx
   obtain⟨its,rv,p,_⟩:=I.list q1
   have hu':X.A.units+1+deps ds<cLine:=by simp only [dep] at hn;omega
   cases e with
   | non=>cases (show y=.non from he);cases (show u=Value.none from ry);exact go (.list_none p.isList (by omega)) rfl
   | bl b=>cases (show y=.bl b from he);cases (show u=Value.bool b from ry);exact go (.list_bool b p.isList (by omega)) rfl
   | int i=>cases (show y=.int i from he);obtain⟨t',rfl⟩:=ry;exact go (.list_int i t' p.isList (by omega)) rfl
   | str z=>cases (show y=.str z from he);obtain⟨t',rfl⟩:=ry;exact go (.list_str z t' p.isList (by omega)) rfl
   | tup es=>obtain⟨b,ws,rfl,q',r'⟩:=he;cases ry;obtain⟨its',_,p',_⟩:=I.tuple q';exact go (.list_tuple p.isList p' (by omega)) rfl
   | lst es =>
     obtain⟨b,ws,rfl,q',r'⟩:=he
     cases ry
     obtain⟨its',rv',p',_⟩:=I.list q'
     have l1:=r.length
     have l2:=r'.length
     have l3:=rv.length
     have l4:=rv'.length
     have e1:its.toArray.size=ds.length:=by simp<;>omega
     have e2:its'.toArray.size=es.length:=by simp<;>omega
     by_cases hl:ds.length=es.length
     . refine go (RcNeAt.lists p.isList p'.isList (by omega) (by omega) (To I (A:=X.A.in1) (by show X.A.units+1+deps ds<cLine;omega) r r' rv rv' (eqDs_ok I ds) fun d h=>deps_le h)) ?_
       rw [e1]
       simp only [eqD]
       rw [Hq ds es hl]
     . refine go (RcNeAt.lists_lengths p.isList p'.isList (by simpa [e1,e2] using hl) (by omega)) ?_
       simp only [eqD]
       rw [Hg hl]
       rfl
def isD (n:String):D->Bool
 | .non=>false
 | .bl _=>n=="int" || n=="bool"
 | .int _=>n=="int"
 | .str _=>n=="str"
 | .tup _=>n=="tuple"
 | .lst _=>n=="list"
def tyD:D->String
 | .non=>"NoneType"
 | .bl _=>"bool"
 | .int _=>"int"
 | .str _=>"str"
 | .tup _=>"tuple"
 | .lst _=>"list"
theorem m8 {K:W.Frag}{n:String}{d:D} (hn:n="int"\/n="bool"\/n="str"\/n="tuple"\/n="list"\/n="dict"):PySem.W.kitOne K (.type (tyD d)) (.type n)=some (isD n d):=by
 rcases hn with rfl | rfl | rfl | rfl | rfl | rfl<;>cases d<;>(unfold PySem.W.kitOne PySem.W.kitCls PySem.W.subIn tyD isD;first | rfl | decide +kernel)
theorem Th:Eu X (.builtin "isinstance") (fun xs H Q=>∃ x n d,xs=[x,.ty n]/\(n="int"\/n="bool"\/n="str"\/n="tuple"\/n="list"\/n="dict")/\Rep X.K H x d/\Q (.bl (isD n d)) H):=by
 intro Ab s σ H xs us Q I r h
 obtain⟨x,n,d,rfl,hn,hx,q⟩:=h
 obtain⟨u,v,rfl,rx,rt⟩:=Xk r
 cases rt
 have k:=m8 (K:=X.K) (d:=d) hn
 have fin:∀ tk,EP X Ab σ Q (.bool (isD n d)) { s with toks:=tk }:=fun tk=>⟨.bl (isD n d),H,I.tok tk,rfl,q⟩
 cases d with
 | non=>cases (show x=.non from hx);cases (show u=Value.none from rx);exact PySem.W.kia_one PySem.W.kitx_none I.kIn True.intro k (fun z=>nomatch z) fin
 | bl b=>cases (show x=.bl b from hx);cases (show u=Value.bool b from rx);exact PySem.W.kia_one PySem.W.kitx_bool I.kIn True.intro k (fun z=>nomatch z) fin
 | int b=>cases (show x=.int b from hx);obtain⟨t,rfl⟩:=rx;exact PySem.W.kia_one PySem.W.kitx_int I.kIn True.intro k (fun z=>nomatch z) fin
 | str b=>cases (show x=.str b from hx);obtain⟨t,rfl⟩:=rx;exact PySem.W.kia_one PySem.W.kitx_str I.kIn True.intro k (fun z=>nomatch z) fin
 | tup ds =>
   obtain⟨a,vs,rfl,hq,_⟩:=hx
   cases rx
   obtain⟨its,_,⟨o,e,c,_⟩,_⟩:=I.tuple hq
   exact PySem.W.kia_one PySem.W.kitx_tuple I.kIn ⟨o,e,c⟩ k (fun z=>nomatch z) fin
 | lst ds =>
   obtain⟨a,vs,rfl,hq,_⟩:=hx
   cases rx
   obtain⟨its,_,⟨o,_,e,c,_⟩,_⟩:=I.list hq
   exact PySem.W.kia_one PySem.W.kitx_list I.kIn ⟨o,e,c⟩ k (fun z=>nomatch z) fin
def g6 (K:W.Frag):R2:=fun x y H Q=>∃ a b xs ys,x=.ref a/\y=.ref b/\SqT K H a xs/\SqT K H b ys/\xs.length+ys.length<=sizeLine/\∀ p H',Same H H'->SqT K H' p (xs++ys)->Q (.ref p) H'
theorem Zm:OpR X (binaryOp .Add) (g6 X.K):=by
 intro Ab s σ H x y v u Q I rx ry h
 obtain⟨a,b,xs,ys,rfl,rfl,ha,hb,hz,q⟩:=h
 by_cases hx:xs=[]
 . subst hx
   cases rx
   cases ry
   obtain⟨its,r1,p1,_⟩:=I.tuple ha
   obtain⟨its2,r2,p2,_⟩:=I.tuple hb
   cases r1
   obtain⟨⟨cls,dd,data,sl⟩,ho,hc,n,hd⟩:=id p1
   obtain⟨⟨cls2,dd2,data2,sl2⟩,ho2,hc2,n2,hd2⟩:=id p2
   simp only at hc hd hc2 hd2
   subst hc hd hc2 hd2
   exact concat_meets ⟨_,ho,rfl⟩ ⟨_,ho2,rfl⟩ noFill_tuple_add seq_tuple_add PySem.F.slot_tuple_add PySem.F.entry_tuple_add (PySem.F.args_tuple_add_2 _ _)
    (tuple_addW0 a b _ _ n n2 dd dd2 sl sl2 (by simp)) ⟨ho,ho2,⟨.ref b,H,I,rfl,q b H (Same.refl H) (by simpa using hb)⟩⟩
 . refine Zn Ab s σ H (.ref a) (.ref b) v u Q I rx ry ⟨a,b,xs,ys,rfl,rfl,ha,hb,hx,hz,fun e=>?_,fun e p hp=>?_⟩
   . subst e;exact q a H (Same.refl H) (by simpa using ha)
   . exact q p _ (Same.new hp) (.of Ad)
def f9 (K:W.Frag):V->Option Int->Option Int->Hp->VK->Prop:=fun x lo hi H Q=>∃ a xs,x=.ref a/\SqT K H a xs ∧
 ¬(HT.sIx xs.length 0 lo=0/\HT.sIx xs.length xs.length hi=xs.length)/\∀ p H',Same H H'->SqT K H' p (cutV xs lo hi)->Q (.ref p) H'
theorem Y8:SlR X (f9 X.K):=by
 intro Ab s σ H x v vl vu lo hi sl Q I rx hs pl pu h
 obtain⟨a,xs,rfl,hx,hw,q⟩:=h
 exact d6 Ab s σ H (.ref a) v vl vu lo hi sl Q I rx hs pl pu ⟨a,xs,rfl,hx,hw,fun p hp=>q p _ (Same.new hp) (.of Ad)⟩
def Yq (K:W.Frag):R2:=fun x y H Q=>∃ l b xs zs,x=.ref l/\y=.ref b/\SqL K H l xs/\SqL K H b zs/\xs.length+zs.length<=sizeLine/\∀ p,H p=none->Q (.ref p) (upd H p (.lst (xs++zs)))
theorem Xw:OpR X (binaryOp .Add) (Yq X.K):=by
 intro Ab s σ H x y v u Q I rx ry h
 obtain⟨l,b,xs,zs,rfl,rfl,hl,hb,hz,q⟩:=h
 cases rx
 cases ry
 obtain⟨its,r1,p1,_⟩:=I.list hl
 obtain⟨its2,r2,p2,_⟩:=I.list hb
 obtain⟨⟨cls,dd,data,sl⟩,n,ho,hc,hdd,hd⟩:=id p1
 obtain⟨⟨cls2,dd2,data2,sl2⟩,n2,ho2,hc2,hdd2,hd2⟩:=id p2
 simp only at hc hd hc2 hd2
 subst hc hd hc2 hd2
 refine concat_meets ⟨_,ho,rfl⟩ ⟨_,ho2,rfl⟩ noFill_list_add seq_list_add PySem.F.slot_list_add PySem.F.entry_list_add (PySem.F.args_list_add_2 _ _)
  (list_addW l b its.toArray its2.toArray n n2 dd dd2 sl sl2 (by rw [List.size_toArray,List.size_toArray,←r1.length,←r2.length];exact hz)) ⟨ho,ho2,?_⟩
 rw [show its.toArray++its2.toArray=(its++its2).toArray by simp]
 exact ⟨.ref s.heap.objs.size,_,I.lnew (t':=s.toks) (r1.append r2) (by rw [List.length_append];exact hz),rfl,q _ I.fresh⟩
theorem Wz (hc:X.calm=true):Eu X (.builtin "all") (fun xs H Q=>∃ (p:Addr) (bs:List Bool),xs=[.ref p]/\SqL X.K H p (bs.map V.bl)/\Q (.bl (bs.all id)) H):=by
 intro Ab s σ H xs us Q I r h
 obtain⟨p,bs,rfl,hq,q⟩:=h
 obtain⟨u,rfl,ru⟩:=Lo r
 cases ru
 obtain⟨its,rv,pl,hz⟩:=I.list hq
 have hh:X.A.handled=none:=I.ok.hd hc
 have rel:∀ (i:Nat) (v:Value),its.toArray[i]?=some v->∃ b,bs[i]?=some b/\v=.bool b:=fun i v e=>by
  have e':its[i]?=some v:=by simpa using e
  have hlt:i<its.length:=(List.getElem?_eq_some_iff.mp e').1
  have l1:=rv.length
  rw [List.length_map] at l1
  have hb:bs[i]?=some (bs[i]'(by omega)):=by simp<;>omega
  obtain⟨u,hu,ru⟩:=rv.get (i:=i) (x:=V.bl (bs[i]'(by omega))) (by rw [List.getElem?_map,hb];rfl)
  rw [e'] at hu
  cases hu
  exact ⟨_,hb,ru⟩
 refine call_all_walk (wpAny_pyIter_list pl.isList ?_)
 refine⟨s.heap.objs.size,[s.heap.objs.size,p],[s.heap.objs.size],its.toArray.size,_,_,fun i=>(bs[i]?).getD true,rfl,Walks.list (show X.A.in1.handled=none from hh) s.heap.objs.size p ?_ its.toArray,⟨⟨_,Heap.get?_push_size _ rfl,rfl,rfl⟩,?_⟩,?_,fun h' tk k=>?_⟩
 . obtain⟨o,_,ho,_⟩:=pl
   exact Nat.ne_of_lt (Heap.lt_size ho)
 . exact pl.isList.at fun o e=>Heap.get?_push_of_some _ e
 . intro i v s' Q' E' hv hQ
   obtain⟨b,hb,rfl⟩:=rel i v hv
   dsimp only at hQ
   rw [hb] at hQ
   exact wpAny_truthy_bool hQ
 . have e:(List.range its.toArray.size).all (fun i=>(bs[i]?).getD true)=bs.all id:=by
    have l1:=rv.length
    rw [List.length_map] at l1
    rw [List.size_toArray,←l1]
    rw [Bool.eq_iff_iff,List.all_eq_true,List.all_eq_true]
    constructor
    . intro hx b hb
      obtain⟨i,hi⟩:=List.getElem?_of_mem hb
      have:=hx i (List.mem_range.mpr (List.getElem?_eq_some_iff.mp hi).1)
      rw [hi] at this
      exact this
    . intro hx i hi
      have hlt:=List.mem_range.mp hi
      have hb:bs[i]?=some bs[i]:=by simp
      rw [hb]
      exact hx _ (List.getElem_mem _)
   rw [e]
   have I1:Inv X Ab σ H { s with heap:=h',toks:=tk }:=I.kept (fun b o e=>k b o (by simp;exact Nat.ne_of_lt (Heap.lt_size e)) (Heap.get?_push_of_some _ e))
   exact ⟨.bl (bs.all id),H,I1,rfl,q⟩
end
structure Has (P:Program) (w:World) (K:W.Frag) (mg:Str->Option Value) (base:Heap) (x:Str) (ps:List Str) (k:Nat) (sp:Sp):Prop where
 ex:∃ (f:Addr) (fd:FuncData),mg x=some (.ref f)/\PySem.W.keepIn K (.ref f)=true/\O5 K fd ps []/\FnOk P w K mg base CX0 k f fd ps sp
section
variable {X:Cx}{x:Str}{ps:List Str}{j k:Nat}{sp:Sp}{p pos:Pos}{e:Expr}{es:List Expr}{t:TA}
theorem A2 (h:Has X.prog X.w X.K X.mg X.base x ps j sp) (hr:Room k X.A) (hg:Gl X x) (ha:PA X (e::es) t) (hk:j<=k:=by decide) (hdb:(x==("__debug__":Str))=false:=by decide)
 (he:starEach (e::es) X.env=(false,eval e X.env)::starEach es X.env:=by rfl) (hpl:(backTo pos (starEach es X.env)).any (·.1)=false:=by rfl):PE X (.Call (.Name x p) (e::es) [] pos) (tCall sp [] E0 t):=by
 obtain⟨f,fd,h1,h2,h3,h4⟩:=h.ex
 exact Zj h4 (hr.mono hk) hg h1 h2 h3 .nil y4 ha hdb he hpl
end
theorem boot_intT:bootBuiltins "int"=some (.type "int"):=by decide +kernel
theorem Uy:bootBuiltins "bool"=some (.type "bool"):=by decide +kernel
theorem G0:bootBuiltins "tuple"=some (.type "tuple"):=by decide +kernel
theorem Dc:bootBuiltins "list"=some (.type "list"):=by decide +kernel
theorem Mu:bootBuiltins "dict"=some (.type "dict"):=by decide +kernel
theorem Rm:bootBuiltins "max"=some (.builtin "max"):=by decide +kernel
theorem W7:bootBuiltins "min"=some (.builtin "min"):=by decide +kernel
theorem Rn:bootBuiltins "all"=some (.builtin "all"):=by decide +kernel
theorem Aj:bootBuiltins "isinstance"=some (.builtin "isinstance"):=by decide +kernel
end L2
namespace L2
open PySem PySem.Spec PyProof.Rows
section
variable {X:Cx}{K:W.Frag}{tg l:Expr}{tl:TE}{n:Nat}
theorem J7 (hK:X.K=K:=by rfl):OpR X (binaryOp .Add) (g6 K):=by subst hK;exact Zm
theorem Df (hK:X.K=K:=by rfl):OpR X (binaryOp .Add) (Yq K):=by subst hK;exact Xw
theorem Fr (hK:X.K=K:=by rfl):SlR X (f9 K):=by subst hK;exact Y8
theorem Fs (hK:X.K=K:=by rfl):SlR X (rSlL K):=by subst hK;exact Za
theorem A8 (hK:X.K=K:=by rfl):IxR X (rIxL K):=by subst hK;exact Zx
theorem Ja (hK:X.K=K:=by rfl):IxR X (rIxT K):=by subst hK;exact p4
theorem Al (hK:X.K=K:=by rfl):Eu X (.builtin "len") (fun xs H Q=>∃ p ys,xs=[.ref p]/\(SqL K H p ys\/SqT K H p ys)/\Q (.int ys.length) H):=by subst hK;exact Rl
theorem Cd (hK:X.K=K:=by rfl):Eu X (.type "list") (fun xs H Q=>∃ p ys,xs=[.ref p]/\(SqL K H p ys\/SqT K H p ys)/\∀ l,H l=none->Q (.ref l) (upd H l (.lst ys))):=by subst hK;exact Rk
theorem F9 (hK:X.K=K:=by rfl):Eu X (.type "tuple") (fun xs H Q=>∃ p ys,xs=[.ref p]/\((SqL K H p ys/\∀ l,H l=none->Q (.ref l) (upd H l (.tup ys)))\/(SqT K H p ys/\Q (.ref p) H))):=by subst hK;exact Oy
theorem Ff (hK:X.K=K:=by rfl):Eu X (.builtin "isinstance") (fun xs H Q=>∃ x n d,xs=[x,.ty n]/\(n="int"\/n="bool"\/n="str"\/n="tuple"\/n="list"\/n="dict")/\Rep K H x d/\Q (.bl (isD n d)) H):=by subst hK;exact Th
theorem Mq (hc:X.calm=true) (hK:X.K=K:=by rfl):Eu X (.builtin "all") (fun xs H Q=>∃ (p:Addr) (bs:List Bool),xs=[.ref p]/\SqL K H p (bs.map V.bl)/\Q (.bl (bs.all id)) H):=by subst hK;exact Wz hc
theorem Iz (hu:X.A.units+n<cLine) (hK:X.K=K:=by rfl):OpR X (compareOp .NotIn) (rInD K n true):=by subst hK;exact Vt hu
theorem Zv (hu:X.A.units+n<cLine) (hK:X.K=K:=by rfl):OpR X (compareOp .Eq) (rEqD K n):=by subst hK;exact j3 hu
theorem V2 (hu:X.A.units+n<cLine) (hK:X.K=K:=by rfl):OpR X (compareOp .NotEq) (rNeD K n):=by subst hK;exact j0 hu
theorem Ql (hu:X.A.units+n<cLine) (hK:X.K=K:=by rfl):MtR X "list.index" (Yp K n):=by subst hK;exact X2 hu
theorem Bx (hl:PE X l tl) (hK:X.K=K:=by rfl):PI X tg l (p8 K tl):=by subst hK;exact Zh hl
theorem Sw (hl:PE X l tl) (hK:X.K=K:=by rfl):PI X tg l (iTup K tl):=by subst hK;exact i6 hl
variable {o e:Expr}{es:List Expr}{to:TE}{t:TA}{name:Str}{apos cpos:Pos}{T id:String}{r:V->List V->Hp->VK->Prop}
theorem Kq (pa:PlainAttrs T) (slot:Slot T name id) (hty:typeOf (.builtin id)=pure (.type "method_descriptor")) (hm:MtR X id r) (ho:PE X o to) (ha:PA X (e::es) t) (hK:X.K=K:=by rfl)
 (hbase:attributeBase o name X.env (eval o X.env)=eval o X.env:=by rfl)
 (hfew:((backTo cpos (starEach (e::es) X.env)).all (fun x=>!x.1)&&(backToKw cpos (keywordEach [] X.env)).all (fun x=>x.1.isSome)
   && decide ((e::es).length+([]:List Keyword).length+(if ([]:List Keyword).isEmpty then 0 else 1)<30))=true:=by rfl)
 (hline:(apos.endLine==cpos.line)=true:=by rfl) (hs:starEach (e::es) X.env=(false,eval e X.env)::starEach es X.env:=by rfl) (hplain:(backTo cpos (starEach es X.env)).any (·.1)=false:=by rfl) :
 PE X (.Call (.Attribute o name apos) (e::es) [] cpos) (tBM K T r to t):=by subst hK;exact y3 pa slot hty hm ho ha hbase hfew hline hs hplain
theorem Ob {es:List Expr}{k:Nat}{t:TGs}{n:Nat}{pos:Pos} (hc:X.calm=true) (h:PGs X es t) (hK:X.K=K:=by rfl)
 (hn:(assignEach es X.env).length=n:=by rfl) (hst:(assignEach es X.env).findIdx? (·.1)=none:=by rfl):PG X (.Tuple es k pos) (gTup K n t):=by subst hK;exact i7 hc h hn hst
end
end L2
namespace L2
open PySem PySem.Spec PyProof.Rows
def Lh (o o':Obj):Prop:=∀ vs,o.data=.fields vs->∃ vs',o'.data=.fields vs'/\vs'[2]?=vs[2]?
theorem Lh.refl (o:Obj):Lh o o:=fun vs e=>⟨vs,e,rfl⟩
theorem Lh.trans {o o1 o2:Obj} (x:Lh o o1) (y:Lh o1 o2):Lh o o2:=fun vs e=>by
 obtain⟨v1,e1,q1⟩:=x vs e
 obtain⟨v2,e2,q2⟩:=y v1 e1
 exact ⟨v2,e2,q2.trans q1⟩
def Xe (f:Obj->Obj):Prop:=∀ o,(f o).dict=o.dict/\(o.isFreed=false->(f o).isFreed=false)/\Lh o (f o)
def A9 {α:Type}:Sem α->Prop
 | .pure _=>True
 | .raise _=>True
 | .unsupported _=>True
 | .finish _=>True
 | .rule _ k=>A9 (k ())
 | .at _ k=>A9 (k ())
 | .load _ _ k=>∀ o,A9 (k o)
 | .update _ _ f k=>Xe f/\A9 (k ())
 | .alloc _ k=>∀ a,A9 (k a)
 | .loadIfAlive _ k=>∀ o,A9 (k o)
 | .point _ k=>A9 (k ())
 | .register _ _=>True
 | .fresh k=>∀ t,A9 (k t)
 | .ask k=>∀ x,A9 (k x)
 | .choose _ _ k=>∀ n,A9 (k n)
 | .os _ _ k=>∀ r,A9 (k r)
 | .call _ _ _ _ _=>False
 | .handled _ k=>∀ v,A9 (k v)
 | .newGen _ k=>∀ n,A9 (k n)
 | .genState _ k=>∀ x,A9 (k x)
 | .resume _ _ _ _=>False
 | .yield _ _ _ _=>True
 | .stack k=>∀ x,A9 (k x)
 | .fork _ _=>True
 | .thread k=>∀ x,A9 (k x)
 | .await _ _ _ _ _=>True
theorem A9.bind {α β:Type}{m:Sem α}{k:α->Sem β} (h:A9 m) (hk:∀ a,A9 (k a)):A9 (m>>=k):=by
 show A9 (Sem.bind m k)
 induction m with
 | pure a=>exact hk a
 | rule t c ih=>exact ih () h
 | «at» p c ih=>exact ih () h
 | load a p c ih=>exact fun o=>ih o (h o)
 | update a p f c ih=>exact ⟨h.1,ih () h.2⟩
 | alloc o c ih=>exact fun a=>ih a (h a)
 | loadIfAlive a c ih=>exact fun o=>ih o (h o)
 | point l c ih=>exact ih () h
 | fresh c ih=>exact fun o=>ih o (h o)
 | ask c ih=>exact fun o=>ih o (h o)
 | choose s n c ih=>exact fun o=>ih o (h o)
 | os r l c ih=>exact fun o=>ih o (h o)
 | handled o c ih=>exact fun o=>ih o (h o)
 | newGen g c ih=>exact fun o=>ih o (h o)
 | genState g c ih=>exact fun o=>ih o (h o)
 | stack c ih=>exact fun o=>ih o (h o)
 | thread c ih=>exact fun o=>ih o (h o)
 | call c a b d e=>exact False.elim h
 | resume a b c d=>exact False.elim h
 | _=>trivial
def Do (h h':Heap):Prop:=∀ b o,h.get? b=some o->∃ o',h'.get? b=some o'/\o'.dict=o.dict/\Lh o o'
theorem Do.refl (h:Heap):Do h h:=fun _ o e=>⟨o,e,rfl,Lh.refl o⟩
theorem Do.trans {h h1 h2:Heap} (x:Do h h1) (y:Do h1 h2):Do h h2:=fun b o e=>by
 obtain⟨o1,e1,d1,f1⟩:=x b o e
 obtain⟨o2,e2,d2,f2⟩:=y b o1 e1
 exact ⟨o2,e2,d2.trans d1,f1.trans f2⟩
theorem Do.push (h:Heap) (o:Obj):Do h (h.push o):=fun b o' e=>⟨o',Heap.get?_push_of_some o e,rfl,Lh.refl o'⟩
theorem Do.update {h:Heap}{a:Addr}{f:Obj->Obj} (g:Xe f):Do h (h.update a f):=fun b o e=>by
 by_cases z:a=b
 . subst z
   exact ⟨f o,Heap.get?_update_self f e ((g o).2.1 (Heap.get?_some_iff.mp e).2),(g o).1,(g o).2.2⟩
 . exact ⟨o,by rw [Heap.get?_update_other _ _ z];exact e,rfl,Lh.refl o⟩
theorem U7 {α:Type}{M:Model}{Γ:PySem.Ctx}{Q:α->Pos->Shared->Prop}{E:Value->Pos->Shared->Prop}{t:Sem α} (hk:A9 t):∀ (p:Pos) (s:Shared),Sem.wp M Γ t Q E p s →
 Sem.wp M Γ t (fun a p' s'=>Q a p' s'/\Do s.heap s'.heap) (fun e p' s'=>E e p' s'/\Do s.heap s'.heap) p s:=by
 induction t with
 | pure a=>intro p s h;exact ⟨h,Do.refl _⟩
 | raise e=>intro p s h;exact ⟨h,Do.refl _⟩
 | unsupported w=>intro p s h;exact h
 | finish e=>intro p s h;exact h
 | rule g k ih=>intro p s h;exact ih () hk _ _ h
 | «at» p' k ih=>intro p s h;exact ih () hk _ _ h
 | load a q k ih=>intro p s h;obtain⟨o,e,h⟩:=h;exact ⟨o,e,ih o (hk o) _ _ h⟩
 | update a q f k ih =>
   intro p s h
   obtain⟨e,h⟩:=h
   refine⟨e,?_⟩
   have:=ih () hk.2 _ _ h
   exact wp_tr this (Do.update hk.1)
 | alloc o k ih=>intro p s h;exact wp_tr (ih _ (hk _) _ _ h) (Do.push _ _)
 | loadIfAlive a k ih=>intro p s h;exact ih _ (hk _) _ _ h
 | point l k ih=>intro p s h;exact ih () hk _ _ h
 | register a k ih=>intro p s h;exact h
 | fresh k ih=>intro p s h;exact ih _ (hk _) _ _ h
 | ask k ih=>intro p s h;exact ih _ (hk _) _ _ h
 | choose c n k ih=>intro p s h;exact ⟨h.1,ih _ (hk _) _ _ h.2⟩
 | os r l k ih=>intro p s h;exact ih _ (hk _) _ _ h
 | call c a b d k ih=>exact False.elim hk
 | handled o k ih=>intro p s h;exact ih _ (hk _) _ _ h
 | newGen c k ih=>intro p s h;exact ih _ (hk _) _ _ h
 | genState g k ih=>intro p s h;obtain⟨x,e,h⟩:=h;exact ⟨x,e,ih _ (hk _) _ _ h⟩
 | resume a b c k ih=>exact False.elim hk
 | yield a b c k ih=>intro p s h;exact h
 | stack k ih=>intro p s h;exact ih _ (hk _) _ _ h
 | fork c k ih=>intro p s h;exact h
 | thread k ih=>intro p s h;exact ih _ (hk _) _ _ h
 | await a b c d k ih=>intro p s h;exact h
where
 wp_tr {α:Type}{M:Model}{Γ:PySem.Ctx}{Q:α->Pos->Shared->Prop}{E:Value->Pos->Shared->Prop}{t:Sem α}{p:Pos}{s:Shared}{h h1:Heap}
  (x:Sem.wp M Γ t (fun a p' s'=>Q a p' s'/\Do h1 s'.heap) (fun e p' s'=>E e p' s'/\Do h1 s'.heap) p s) (y:Do h h1) :
  Sem.wp M Γ t (fun a p' s'=>Q a p' s'/\Do h s'.heap) (fun e p' s'=>E e p' s'/\Do h s'.heap) p s :=
  Sem.wp_mono _ _ _ (fun _ _ _ z=>⟨z.1,y.trans z.2⟩) (fun _ _ _ z=>⟨z.1,y.trans z.2⟩) _ _ x
theorem D1 {α:Type}{M:Model}{A:Around}{Q:α->Shared->Prop}{E:Value->Shared->Prop}{t:Sem α}{s:Shared} (hk:A9 t) (h:wpAny M A t Q E s) :
 wpAny M A t (fun a s'=>Q a s'/\Do s.heap s'.heap) (fun e s'=>E e s'/\Do s.heap s'.heap) s:=fun Γ p hi=>U7 hk _ _ (h Γ p hi)
theorem Bv {α:Type} (a:α):A9 (pure a:Sem α):=True.intro
theorem Ma {α:Type} (w:String):A9 (unsupported w:Sem α):=True.intro
theorem Sx (a:Addr):A9 (load a):=fun _=>True.intro
theorem Qn (a:Addr) {f:Obj->Obj} (h:Xe f):A9 (update a f):=⟨h,True.intro⟩
theorem Tz (o:Obj):A9 (alloc o):=fun _=>True.intro
theorem Oc:A9 stack:=fun _=>True.intro
theorem Qz (g:Array Value->Array Value) (hg:∀ vs,(g vs)[2]?=vs[2]?):Xe (Obj.mapFields g):=fun o=>by
 obtain⟨c,d,da,sl⟩:=o
 cases da with
 | fields ws=>exact ⟨rfl,fun h=>h,fun vs e=>by
    cases e
    exact ⟨_,rfl,hg ws⟩⟩
 | _=>exact ⟨rfl,fun h=>h,fun vs e=>by cases e⟩
theorem S4 (g:Obj->Array (Option Value)):Xe (fun o=>{ o with slots:=g o }):=fun o=>⟨rfl,fun h=>by
 obtain⟨c,d,da,sl⟩:=o
 cases da<;>exact h,fun vs e=>⟨vs,e,rfl⟩⟩
theorem L9 (a:Addr) (i:Nat) (v:Value) (hi:i≠2:=by decide):A9 (updateField a i v):=by
 unfold updateField
 refine (Sx a).bind fun o=>?_
 split
 . split
   . exact Qn a (Qz _ fun vs=>by rw [Array.getElem?_setIfInBounds_ne hi])
   . exact Ma _
 . exact Ma _
theorem Gm (v:Value) (i:Nat) (x:Value) (hi:i≠2:=by decide):A9 (setField v i x):=by
 unfold setField
 split
 . exact L9 _ _ _ hi
 . exact Ma _
theorem Sz (v:Value):A9 (fieldsOf v):=by
 unfold fieldsOf
 split
 . refine (Sx _).bind fun o=>?_
   split
   . exact Bv _
   . exact Ma _
 . exact Ma _
theorem J8 (v:Value) (i:Nat):A9 (field v i):=by
 unfold field
 refine (Sz v).bind fun vs=>?_
 split
 . exact Bv _
 . exact Ma _
theorem Fe (e:Value) (fr:Option Addr):A9 (setFlight e fr):=by
 unfold setFlight
 refine (J8 e 1).bind fun tb=>?_
 split
 . exact Gm _ _ _
 . exact Bv _
theorem Qo (ty:String) (vs:List Value):A9 (newFields ty vs):=by
 unfold newFields newObj
 dsimp only
 split
 . exact (Ma _).bind fun _=>(Tz _).bind fun _=>Bv _
 . exact (Tz _).bind fun _=>Bv _
theorem Kr (f:Addr) (b:Bool):A9 (entryPlaceOf f b):=by
 unfold entryPlaceOf
 refine Oc.bind fun acts=>?_
 split
 . exact Bv _
 . exact Bv _
theorem Qp:A9 frameEnvs:=by
 unfold frameEnvs
 exact Oc.bind fun _=>Bv _
theorem V6 (env:Env) (outer:List Env):A9 (behindIsImport env outer):=by
 unfold behindIsImport
 split
 . exact Bv _
 . split
   . exact Bv _
   . exact (J8 _ _).bind fun _=>Bv _
theorem V5:A9 underTheClaimsCaller:=by
 unfold underTheClaimsCaller
 exact Oc.bind fun _=>Bv _
theorem Sy (env:Env) (i:Bool) (outer:List Env):A9 (keptBack env i outer):=by
 cases outer with
 | nil =>
   rw [keptBack]
   by_cases z:(env.scope.isGenerator || env.scope.isCoroutine)=true
   . rw [if_pos z];exact Bv _
   . rw [if_neg z];exact V5.bind fun _=>Bv _
 | cons c r=>exact Bv _
theorem F8:∀ l:List Env,A9 (readyFrames l)
 | []=>Bv _
 | env::outer=>by
   unfold readyFrames
   split
   . refine (Sx _).bind fun o=>?_
     split
     . exact Bv _
     . refine (V6 _ _).bind fun b=>(Sy _ _ _).bind fun v=>(Qn _ (S4 _)).bind fun _=>F8 outer
   . exact Ma _
theorem Us (env:Env):A9 (PySem.frameOf env):=by
 unfold PySem.frameOf
 refine Qp.bind fun es=>?_
 refine A9.bind ?_ fun o=>?_
 . generalize es.dropWhile _=l
   cases l with
   | nil=>exact Bv _
   | cons x r=>exact (F8 _).bind fun _=>Bv _
 . split
   . exact Bv _
   . exact Ma _
theorem Jt (e:Value) (env:Env):A9 (noteFrame e env):=by
 unfold noteFrame
 cases env.frame with
 | none=>exact Ma _
 | some f =>
   have tail:∀ head:Value,A9 (do let a ←PySem.frameOf env;let pl ←entryPlaceOf f (head != .none);let b ←EntryCells.newEntry head a .none (rawInt f) .none pl;setField e 1 b):=fun head =>
    A9.bind (Us env) fun a=>A9.bind (Kr f _) fun pl=>A9.bind (Qo _ _) fun b=>Gm _ _ _
   refine (J8 e 1).bind fun head=>?_
   by_cases z:(head != Value.none)=true
   . rw [if_pos z]
     refine (J8 head 3).bind fun x=>?_
     by_cases y:(x==rawInt f)=true
     . rw [if_pos y];exact Bv _
     . rw [if_neg y]
       refine (Gm _ _ _).bind fun _=>?_
       exact tail head
   . rw [if_neg z]
     exact tail head
theorem Ur (env:Env) (e:Value):A9 (leaving env e):=by
 unfold leaving
 exact (Jt e env).bind fun _=>Fe e none
end L2
namespace L2
open PySem PySem.Spec PyProof.Rows
theorem Dp.ob {P:Program}{w:World}{H:Hp}{h:Heap}{a:Addr}{o:HO} (x:Dp P w H h a o):∃ u,h.get? a=some u:=by
 cases o with
 | lst xs=>obtain⟨_,_,_,_,e⟩:=x;exact ⟨_,e⟩
 | tup xs=>obtain⟨_,_,_,ob,e,_⟩:=x;exact ⟨_,e⟩
 | dK Aw=>obtain⟨_,_,_,_,ob,_,_,e,_⟩:=x;exact ⟨_,e⟩
 | dT Aw=>obtain⟨_,_,_,_,ob,_,_,e,_⟩:=x;exact ⟨_,e⟩
 | set S n=>obtain⟨ob,_,_,_,e,_⟩:=x;exact ⟨_,e⟩
 | ins C dx fs=>obtain⟨_,_,_,e,_⟩:=x;exact ⟨_,e⟩
 | own y=>exact x
 | xd fs=>obtain⟨_,⟨ob,_,_,e,_⟩,_⟩:=x;exact ⟨_,e⟩
 | rng lo hi=>obtain⟨_,_,_,e⟩:=x;exact ⟨_,e⟩
 | frz ob u=>obtain⟨e,_⟩:=x;exact ⟨_,e⟩
 | tbl ps=>exact ⟨_,(show h.get? a=some _ from x)⟩
 | met f y=>exact ⟨_,(show h.get? a=some _ from x)⟩
 | ext φ=>obtain⟨_,e,_⟩:=x;exact e
structure XUn (fs:List Addr) (H H':Hp) (h B h':Heap):Prop where
 kp:∀ b o,h.get? b=some o->H b=none->b ∉ fs->B.get? b=some o
 sl:∀ b o,h.get? b=some o->H b=none->b∈fs->∃ z,h'.get? b=some { o with slots:=z }
 fr:∀ b o,h.get? b=some o->H b=none->H' b=none
 th:∀ b o,h.get? b=some o->b ∉ fs->∃ z,B.get? b=some z
 tu:∀ b xs,H b=some (.tup xs)->H' b=some (.tup xs)
 fz:∀ b o u,H b=some (.frz o u)->H' b=some (.frz o u)
 tb:∀ b ps,H b=some (.tbl ps)->∃ more,H' b=some (.tbl (ps++more))
section
variable {fs:List Addr}{H H':Hp}{h B h' h2:Heap}
theorem XUn.un (x:XUn fs H H' h B h') (hB:B.StaysIn h2) (hf:∀ b∈fs,H b=none) (hs:∀ b o,h'.get? b=some o->b∈fs->∃ z,h2.get? b=some { o with slots:=z }):Un fs [] H H' h h2 where
 keep:=fun b o e n hb _=>hB b o (x.kp b o e n hb)
 slot:=fun b o e n hb _=>by
  obtain⟨z,e1⟩:=x.sl b o e n hb
  obtain⟨z',e2⟩:=hs b _ e1 hb
  exact ⟨z',e2⟩
 free:=fun b o e n _=>x.fr b o e n
 there:=fun b o e _=>by
  by_cases hb:b∈fs
  . obtain⟨z,e1⟩:=x.sl b o e (hf b hb) hb
    obtain⟨z',e2⟩:=hs b _ e1 hb
    exact ⟨_,e2⟩
  . obtain⟨z,e1⟩:=x.th b o e hb
    exact ⟨z,hB b z e1⟩
 tups:=x.tu
 frzs:=x.fz
 tbls:=x.tb
theorem Wa {l:List Env} (ff:h'.FunFrames B l) (up:h'.UpToSlots h2):∀ b o,h'.get? b=some o->b∈frs l->∃ z,h2.get? b=some { o with slots:=z }:=fun b o e hb=>by
 obtain⟨_,o',e',hd⟩:=ff.mem hb
 rw [e] at e'
 cases e'
 exact up b o e hd
theorem XUn.next {l:List Env} (x:XUn (frs l) H H' h B h') (ff:h'.FunFrames B l) (up:h'.UpToSlots h2):XUn (frs l) H H' h B h2 :=
 ⟨x.kp,fun b o e n hb=>by
  obtain⟨z,e1⟩:=x.sl b o e n hb
  obtain⟨z',e2⟩:=Wa ff up b _ e1 hb
  exact ⟨z',e2⟩,x.fr,x.th,x.tu,x.fz,x.tb⟩
end
def ErrD (e:Addr) (dx:Option Addr) (h:Heap):Prop:=∃ o,h.get? e=some o/\o.dict=dx/\∃ vs,o.data=.fields vs/\vs[2]?=some .none
theorem ErrD.go {e:Addr}{dx:Option Addr}{h h':Heap} (x:ErrD e dx h) (k:Do h h'):ErrD e dx h':=by
 obtain⟨o,e1,d1,vs,f1,g1⟩:=x
 obtain⟨o',e2,d2,f2⟩:=k e o e1
 obtain⟨vs',f3,g3⟩:=f2 vs f1
 exact ⟨o',e2,d2.trans d1,vs',f3,g3.trans g1⟩
def CX1 (P:Program) (w:World):CXT:=fun outer H s E u s'=>∃ (e:Addr) (cls a0:Value) (B:Heap) (H':Hp) (dx:Option Addr),u=.ref e/\s'.os=s.os/\AllBare s'.gens/\XUn (frs outer) H H' s.heap B s'.heap/\HOk P w H' B/\Heap.FlyingW B outer e cls a0 s'.heap/\ErrD e dx s'.heap/\E cls dx H'
def FlyAt (X:Cx) (Ab:List (Addr × Obj)) (e:Addr) (cls a0:Value) (dx:Option Addr) (σ:St) (H':Hp) (s':Shared):Prop :=
 ∃ (B:Heap) (H:Hp) (s:Shared),Inv X Ab σ H s/\s'.os=s.os/\AllBare s'.gens/\XUn (frs X.stack) H H' s.heap B s'.heap/\HOk X.prog X.w H' B/\Heap.FlyingW B X.stack e cls a0 s'.heap/\ErrD e dx s'.heap
abbrev XJ:=Value->Option Addr->St->Hp->Prop
def Fly (X:Cx) (J:XJ) (u:Value) (s':Shared):Prop:=∃ (e:Addr) (cls a0:Value) (dx:Option Addr) (σ:St) (H':Hp),u=.ref e/\FlyAt X [] e cls a0 dx σ H' s'/\J cls dx σ H'
def c6 (X:Cx) (J:XJ):Prop:=∀ u s',Fly X J u s'->X.xe u s'
def u6 (X:Cx) (J:XJ):Prop:=∀ (Ab:List (Addr × Obj)) (σ:St) (H:Hp) (s:Shared) (e:Addr) (cls:Value) (vs:List Value) (h':Heap),Inv X Ab σ H s->Heap.MadeExcOf s.heap h' e cls vs->J cls none σ H->X.xe (.ref e) { s with heap:=h' }
def excO (e:Addr) (cls:Value):HO:=.ext fun h=>∃ o vs,h.get? e=some o/\o.cls=cls/\o.data=.fields vs/\vs[2]?=some .none
def excX (e:Addr) (cls:Value):Option Addr->HO
 | none=>excO e cls
 | some d=>.ext fun h=>∃ o vs,h.get? e=some o/\o.cls=cls/\o.data=.fields vs/\o.dict=some d/\vs[2]?=some .none
section
variable {X:Cx}{Ab:List (Addr × Obj)}{σ:St}{H H':Hp}{s s':Shared}{e:Addr}{cls a0:Value}{dx:Option Addr}
theorem Inv.nopin (I:Inv X Ab σ H s):Inv X [] σ H s:=I.pins_of (fun p hp=>nomatch hp)
theorem FlyAt.step {B:Heap}{h2:Heap}{S:Shared} (I:Inv X Ab σ H S) (q1:s'.os=S.os) (q2:AllBare s'.gens) (q3:XUn (frs X.stack) H H' S.heap B s'.heap) (q4:HOk X.prog X.w H' B) (q5:Heap.FlyingW B X.stack e cls a0 s'.heap)
 (f:Heap.FlyingW B X.stack e cls a0 h2) (up:s'.heap.UpToSlots h2) (d:ErrD e dx h2):FlyAt X Ab e cls a0 dx σ H' { s' with heap:=h2 } :=
 ⟨B,H,S,I,q1,q2,q3.next q5.2.2.1 up,q4,f,d⟩
theorem FlyAt.apart {B:Heap}{S:Shared} (q3:XUn (frs X.stack) H H' S.heap B s'.heap) (q5:Heap.FlyingW B X.stack e cls a0 s'.heap):S.heap.get? e=none:=by
 cases z:S.heap.get? e with
 | none=>rfl
 | some o =>
   by_cases hb:e∈frs X.stack
   . obtain⟨_,o',e1,hd⟩:=q5.2.2.1.mem hb
     obtain⟨oe,vs,e2,_,d2,_⟩:=q5.first
     rw [e1] at e2
     cases e2
     exact absurd d2 (hd vs)
   . obtain⟨o',e1⟩:=q3.th e o z hb
     have e2:=q5.2.1
     rw [e1] at e2
     cases e2
theorem HOk.none_of {P:Program}{w:World}{B:Heap} (q:HOk P w H' B) (z:B.get? e=none):H' e=none:=by
 cases y:H' e with
 | none=>rfl
 | some o =>
   obtain⟨u,e1⟩:=(q e o y).ob
   rw [e1] at z
   cases z
theorem FlyAt.inv (F:FlyAt X Ab e cls a0 dx σ H' s'):Inv X Ab σ H' s'/\H' e=none:=by
 obtain⟨B,H,S,I,q1,q2,q3,q4,q5,_⟩:=F
 exact ⟨I.call' (ch:=[]) q1 (q3.un q5.1 I.stkFree fun b o e1 _=>⟨o.slots,e1⟩) (q4.kept q5.1) q2 (fun b z=>absurd z (by simp)),q4.none_of q5.2.1⟩
theorem FlyAt.held (F:FlyAt X Ab e cls a0 dx σ H' s'):Inv X Ab σ (upd H' e (excX e cls dx)) s'/\H' e=none:=by
 obtain⟨B,H,S,I,q1,q2,q3,q4,q5,dE⟩:=F
 have hn:=q4.none_of q5.2.1
 have ha:=FlyAt.apart q3 q5
 have ne:∀ b u,H' b=some u->b≠e:=fun b u y=>Bm y hn
 have q6:XUn (frs X.stack) H (upd H' e (excX e cls dx)) S.heap B s'.heap :=
  ⟨q3.kp,q3.sl,fun b o e1 n=>by
   have:b≠e:=fun z=>by rw [z,ha] at e1;cases e1
   rw [A7 this]
   exact q3.fr b o e1 n,q3.th,fun b xs y=>by
   have y':=q3.tu b xs y
   rw [A7 (ne b _ y')]
   exact y',fun b o u y=>by
   have y':=q3.fz b o u y
   rw [A7 (ne b _ y')]
   exact y',fun b ps y=>by
   obtain⟨more,y'⟩:=q3.tb b ps y
   exact ⟨more,by rw [A7 (ne b _ y')];exact y'⟩⟩
 refine⟨I.call' (ch:=[]) q1 (q6.un q5.1 I.stkFree fun b o e1 _=>⟨o.slots,e1⟩) (fun b u y=>?_) q2 (fun b z=>absurd z (by simp)),hn⟩
 have hk:=q4.kept q5.1
 by_cases hb:b=e
 . subst hb
   rw [Ad] at y
   cases y
   obtain⟨oe,vs,e2,c2,d2,_⟩:=q5.first
   obtain⟨o3,e3,d3,vs3,f3,g3⟩:=dE
   rw [e2] at e3
   cases e3
   rw [d2] at f3
   cases f3
   cases dx with
   | none=>exact ⟨⟨oe,vs,e2,c2,d2,g3⟩,⟨oe,e2⟩,fun h1 h2 ⟨o,ws,a1,a2,a3⟩ k=>⟨o,ws,k o a1,a2,a3⟩⟩
   | some d=>exact ⟨⟨oe,vs,e2,c2,d2,d3,g3⟩,⟨oe,e2⟩,fun h1 h2 ⟨o,ws,a1,a2,a3,a4⟩ k=>⟨o,ws,k o a1,a2,a3,a4⟩⟩
 . rw [A7 hb] at y
   exact (hk b u y).stay (fun _ _ _ q=>q) (fun c q=>by rw [A7 (ne c _ q)];exact q) fun c xs q=>by rw [A7 (ne c _ q)];exact q
end
section
variable {P:Program}{w:World}{K:W.Frag}{mg:Str->Option Value}{base:Heap}{N:List Str}{qual:Str}{scope:Scope}{f:Addr}{cd:Value}{A:Around}{outer:List Env}{s:Shared}{H:Hp}{E:XK}
theorem Z1:frs (envOfC qual scope s.heap.objs.size f cd::outer)=s.heap.objs.size::frs outer:=rfl
theorem Qh:u6 (cxOf (CX1 P w) P w K mg base N qual scope f cd A outer s H E) (fun cls dx _ H'=>E cls dx H'):=by
 intro Ab σ H1 s1 e cls vs h' I hx hj
 have fin:∀ env∈(envOfC qual scope s.heap.objs.size f cd::outer),∀ b,env.frame=some b->b∈frs (envOfC qual scope s.heap.objs.size f cd::outer):=fun env he b hb=>List.mem_filterMap.mpr ⟨env,he,hb⟩
 have old:∀ b o,s.heap.get? b=some o->b ∉ frs outer->b ∉ frs (envOfC qual scope s.heap.objs.size f cd::outer):=fun b o e1 hb z=>by
  rw [Z1] at z
  rcases List.mem_cons.mp z with y | y
  . exact absurd (Heap.lt_size e1) (by rw [y];exact Nat.lt_irrefl _)
  . exact hb y
 have nx:∀ b:Addr,b ∉ ([]:List Addr):=fun b=>by simp
 have fr1:∀ b∈frs (envOfC qual scope s.heap.objs.size f cd::outer),H1 b=none:=I.stkFree
 show wpAny (model P w) (A.deeper (envOfC qual scope s.heap.objs.size f cd)) (leaving (envOfC qual scope s.heap.objs.size f cd) (.ref e)) _ _ { s1 with heap:=h' }
 have dE:ErrD e none h':=by
  obtain⟨_,_,t0,hget,_⟩:=hx
  exact ⟨_,hget,rfl,_,rfl,rfl⟩
 refine wpAny_mono (D1 (Ur _ _) (wpAny_leaves_madeW (E:=fun _ _=>False) (Q:=fun _ s2=>∃ h2 t,s2={ s1 with heap:=h2 }/\Heap.FlyingW (PySem.W.hideAll s1.heap (frs (envOfC qual scope s.heap.objs.size f cd::outer))) outer e cls (.ref t) h2/\h'.UpToSlots h2) (L:=s.heap.objs.size) (base:=PySem.W.hideAll s1.heap (frs (envOfC qual scope s.heap.objs.size f cd::outer))) (h:=s1.heap) I.ok.frames rfl (fun b o q=>PySem.W.of_hideAll _ q) (PySem.W.funFrames_hide I.stack fin) hx fun h2 t x1 x2 x3 x4=>⟨h2,t,rfl,x1,x4⟩)) (fun _ s2 ⟨⟨h2,t,e2,x1,x4⟩,kd⟩=>?_) (fun _ _ z=>z.1.elim)
 subst e2
 refine⟨e,cls,.ref t,_,H1,none,rfl,I.os,I.bare,⟨fun b o e1 n hb=>?_,fun b o e1 n hb=>?_,fun b o e1 n=>I.base.free b o e1 n (nx b),fun b o e1 hb=>?_,I.base.tups,I.base.frzs,I.base.tbls⟩,?_,x1,dE.go kd,hj⟩
 . exact PySem.W.hideAll_get _ (I.base.keep b o e1 n hb (nx b)) (old b o e1 hb)
 . obtain⟨z,e2⟩:=I.base.slot b o e1 n hb (nx b)
   obtain⟨_,o',e3,hd⟩:=I.ok.funs.mem hb
   have e3':s.heap.get? b=some o':=e3
   rw [e1] at e3'
   cases e3'
   obtain⟨z2,e4⟩:=x4 b _ (hx.keeps b _ e2) hd
   exact ⟨z2,e4⟩
 . obtain⟨o',e2⟩:=I.base.there b o e1 (nx b)
   exact ⟨o',PySem.W.hideAll_get _ e2 (old b o e1 hb)⟩
 . intro a u y
   refine (I.hok a u y).stay (fun b v hb q=>PySem.W.hideAll_get _ q fun hm=>?_) (fun _ q=>q) fun _ _ q=>q
   have z:=fr1 b hm
   rcases hb with rfl | hb
   . rw [y] at z;cases z
   . rw [hb] at z;cases z
theorem Fun.okX {x:Str}{st:Stmt}{fd:FuncData}{ps:List Str}{k:Nat}{sp:Sp} (F:Fun K x qual st f fd) (S:FnScope N ps (Ag st)) (len:∀ vs H Q E,sp vs H Q E->vs.length=ps.length)
 (hbody:∀ (Cf:Value) (A:Around) (outer:List Env) (s:Shared) (H:Hp) (vs:List V) (Q:VK) (E:XK),Room k (A.deeper (envOfC qual (Ag st) s.heap.objs.size f Cf))->sp vs H Q E →
   ∃ t,PSs (cxOf (CX1 P w) P w K mg base N qual (Ag st) f Cf A outer s H E) (Be st) t/\t { nx:=fun _ H'=>Q .non H',rt:=Q } (start N vs) H):FnOk P w K mg base (CX1 P w) (k+1) f fd ps sp:=by
 obtain⟨oc,od,kV,doc,pm,an,Cf,ct,osl,rfl,lk,hcd⟩:=F.ex
 exact q9 lk hcd S len fun A outer s H vs Q E hr hsp=>hbody Cf A outer s H vs Q E hr hsp
end
structure HasX (P:Program) (w:World) (K:W.Frag) (mg:Str->Option Value) (base:Heap) (x:Str) (ps:List Str) (k:Nat) (sp:Sp):Prop where
 ex:∃ (f:Addr) (fd:FuncData),mg x=some (.ref f)/\PySem.W.keepIn K (.ref f)=true/\O5 K fd ps []/\FnOk P w K mg base (CX1 P w) k f fd ps sp
def d5 (sp:Sp) (J:XJ) (t:TA):TE:=fun σ H Q=>t σ H fun vs H1=>sp vs H1 Q (fun cls dx H2=>J cls dx σ H2)
section
variable {X:Cx}{J:XJ}{x:Str}{ps:List Str}{j k:Nat}{sp:Sp}{p pos:Pos}{e:Expr}{es:List Expr}{t:TA}
theorem Zc {Ab:List (Addr × Obj)}{σ:St}{H:Hp}{s:Shared}{Q:VK}{us:List Value}{vs:List V}{f:Addr}{fd:FuncData} (F:FnOk X.prog X.w X.K X.mg X.base (CX1 X.prog X.w) k f fd ps sp) (hr:Room k X.A) (hb:O5 X.K fd ps []) (hx:c6 X J)
 (I:Inv X Ab σ H s) (r:Vals vs us) (h:sp vs H Q (fun cls dx H2=>J cls dx σ H2)):wpAny (model X.prog X.w) X.A (call (.ref f) us) (EP X Ab σ Q) X.xe s:=by
 have hl:us.length=ps.length:=by rw [←r.length];exact F.len _ _ _ _ h
 have hb1:=hb s us I.kIn (by rw [List.append_nil];exact hl)
 rw [List.append_nil] at hb1
 refine wpAny_call (codeAny_mono (F.run X.A X.stack s H ⟨us,[]⟩ us vs Q _ hr I.env0 hb1 r h) fun q s' hq=>?_)
 cases q with
 | error u =>
   obtain⟨e,cls,a0,B,H',dx,rfl,q1,q2,q3,q4,q5,dE,q6⟩:=hq
   exact hx _ _ ⟨e,cls,a0,dx,σ,H',rfl,⟨B,H,s,I.nopin,q1,q2,q3,q4,q5,dE⟩,q6⟩
 | ok fl =>
   cases fl with
   | ret u=>exact I.after hq
   | next=>exact False.elim hq
   | brk=>exact False.elim hq
   | cont=>exact False.elim hq
theorem Tt (hx:c6 X J) (h:HasX X.prog X.w X.K X.mg X.base x ps j sp) (hr:Room k X.A) (hg:Gl X x) (ha:PA X (e::es) t) (hk:j<=k:=by decide) (hdb:(x==("__debug__":Str))=false:=by decide)
 (he:starEach (e::es) X.env=(false,eval e X.env)::starEach es X.env:=by rfl) (hpl:(backTo pos (starEach es X.env)).any (·.1)=false:=by rfl):PE X (.Call (.Name x p) (e::es) [] pos) (d5 sp J t):=by
 intro Ab s σ H Q I hw
 obtain⟨f,fd,h1,h2,h3,h4⟩:=h.ex
 refine wpAny_Call_Name_kw (Iy I hg h1 ?_ hdb)
 refine PySem.W.callWith_K (h₀:=X.base) I.ok.mod.kin h2 (thn (ha pos Ab s σ H _ I hw) fun us s1 ⟨vs,H1,I1,r,q⟩=>⟨I1.kIn,?_⟩) he hpl
 exact Zc h4 (hr.mono hk) h3 hx I1 r q
end
abbrev bmV:List Value:=[.type "ValueError",.type "Exception",.type "BaseException",.type "object"]
theorem Zk {K:W.Frag}{h:Heap}{C:Addr}{bmB:List Value}{nid:String} (X:K.In h) (z:PySem.W.excIn K C bmB nid=true) :
 ∃ bm N nm q bs hdct sn sub ab col dd k0 k1 k2 k3 k5 mN,h.get? C=some (excClassObj nm q C N bs bm hdct sn sub ab col dd k0 k1 k2 k3 k5 nid)/\h.Ns N mN/\mN "__init__"=none/\OwnTail h bmB bm:=by
 unfold PySem.W.excIn at z
 split at z
 case h_2=>cases z
 case h_1 dd cd sl ho =>
  split at z
  case h_2=>cases z
  case h_1 C' bm k0 k1 k2 k3 n k5 hm hs =>
   rw [Bool.and_eq_true,Bool.and_eq_true,Bool.and_eq_true,Bool.and_eq_true,Bool.and_eq_true,beq_iff_eq,beq_iff_eq,Bool.not_eq_true',beq_iff_eq] at z
   obtain⟨⟨⟨⟨⟨z1,z2⟩,z3⟩,z4⟩,z5⟩,z6⟩:=z
   obtain⟨nm,bs,mro,ns,qn,hd,sn,sub,ab,col,del⟩:=cd
   have hm':mro=.ref C'::bm:=hm
   have z3':del=false:=z3
   subst hm' z3' z1 z2
   have hsl:sl=#[k0,k1,k2,k3,some (.builtin n),k5]:=by
    cases sl with
    | mk l =>
      have:l=[k0,k1,k2,k3,some (.builtin n),k5]:=hs
      rw [this]
   subst hsl
   exact ⟨bm,ns,nm,qn,bs,hd,sn,sub,ab,col,dd,k0,k1,k2,k3,k5,_,X _ _ ho,.of_isNs (PySem.W.isNs_of_in X z5),PySem.W.nsMap_none_of_in X z5 z6,PySem.W.tail_of_in X z4⟩
def c9 (J:XJ) (C:Addr) (t:TA):TS:=fun _ σ H=>t σ H fun vs H1=>vs.length<=sizeLine/\J (.ref C) none σ H1
theorem Ts {X:Cx}{J:XJ}{C:Addr}{x:Str}{np cpos pos:Pos}{e:Expr}{es:List Expr}{t:TA} (hx:u6 X J) (hc:X.calm=true) (hg:Gl X x) (hm:X.mg x=some (.ref C)) (z:PySem.W.excIn X.K C bmV "ValueError.__new__"=true) (ha:PA X (e::es) t)
 (hdb:(x==("__debug__":Str))=false:=by decide) (he:starEach (e::es) X.env=(false,eval e X.env)::starEach es X.env:=by rfl) (hpl:(backTo cpos (starEach es X.env)).any (·.1)=false:=by rfl) :
 PS X (.Raise (some (.Call (.Name x np) (e::es) [] cpos)) none pos) (c9 J C t):=by
 intro Ab s σ H D I h
 obtain⟨bm,N,nm,q,bs,hdct,sn,sub,ab,col,dd,k0,k1,k2,k3,k5,mN,hC,hN,hni,T⟩:=Zk I.mod.kin z
 have hp2:(backTo cpos (starEach (e::es) X.env)).any (·.1)=false:=by
  rw [he]
  show (false || (backTo cpos (starEach es X.env)).any (·.1))=false
  rw [hpl]
  rfl
 refine wpAny_Raise_call_subT PySem.F.excBase_ValueError (C:=C) (nm:=nm) (q:=q) (N:=N) (bs:=bs) (bm:=bm) (hdct:=hdct) (sn:=sn) (sub:=sub) (ab:=ab) (col:=col) (dd:=dd) (k0:=k0) (k1:=k1) (k2:=k2) (k3:=k3) (k5:=k5) (mN:=mN)
  (T.hasType PySem.F.excBase_ValueError.hasBase) (I.ok.hd hc) hp2 hni (Iy I hg hm ⟨rfl,?_⟩ hdb)
 have a1:=thn (ha cpos Ab s σ H _ I h) (Q':=fun us s2=>(⟨us,[]⟩:Args).kw=[]/\us.length<=sizeLine/\s2.heap.get? C=some (excClassObj nm q C N bs bm hdct sn sub ab col dd k0 k1 k2 k3 k5 "ValueError.__new__")/\s2.heap.Ns N mN/\OwnTail s2.heap bmV bm ∧
  ∀ h' e,Heap.MadeExcOf s2.heap h' e (.ref C) us->X.xe (.ref e) { s2 with heap:=h' }) fun us s2 ⟨vs,H1,I1,r,hl,hj⟩ =>
  ⟨rfl,by rw [←r.length];exact hl,I1.bk _ _ hC,hN.keeps I1.bk,T.keeps I1.bk,fun h' e2 hmk=>hx Ab σ H1 s2 e2 _ _ h' I1 hmk hj⟩
 rw [he] at a1 ⊢
 exact Calls.evalArgs_plain a1
end L2
namespace L2
open PySem PySem.Spec PyProof.Rows PySem.W
section
variable {X:Cx}{Ab pn:List (Addr × Obj)}{σ:St}{H:Hp}{s:Shared}{J:XJ}
abbrev Cx.pinned (X:Cx) (pn:List (Addr × Obj)):Cx:={ X with pn:=X.pn++pn }
theorem Cx.Ok.pinned (ok:X.Ok) (pn:List (Addr × Obj)):(X.pinned pn).Ok :=
 ⟨ok.mod,ok.kind,ok.glob,ok.blt,ok.above,ok.inj,ok.has,ok.cab,ok.hd,ok.frames,ok.stk,ok.exf,ok.bs,ok.bsz,ok.noex,ok.exfs,ok.funs,ok.frf⟩
theorem Cx.Ok.unpinned' (ok:(X.pinned pn).Ok):X.Ok :=
 ⟨ok.mod,ok.kind,ok.glob,ok.blt,ok.above,ok.inj,ok.has,ok.cab,ok.hd,ok.frames,ok.stk,ok.exf,ok.bs,ok.bsz,ok.noex,ok.exfs,ok.funs,ok.frf⟩
theorem Inv.toPn (I:Inv X Ab σ H s):Inv (X.pinned Ab) [] σ H s:=⟨I.ok.pinned _,I.os,I.bare,I.base,I.loc,I.cell,I.free,I.freeC,fun p hp=>I.pin p (by simpa using hp),I.hok,I.len⟩
theorem Inv.ofPn (I:Inv (X.pinned Ab) [] σ H s):Inv X Ab σ H s:=⟨I.ok.unpinned',I.os,I.bare,I.base,I.loc,I.cell,I.free,I.freeC,fun p hp=>I.pin p (by simpa using hp),I.hok,I.len⟩
abbrev Cx.tried (X:Cx) (pn:List (Addr × Obj)) (J:XJ):Cx:=(X.pinned pn).wish (Fly (X.pinned pn) J)
theorem Kx:c6 (X.tried pn J) J:=fun u s' ⟨e,cls,a0,dx,σ,H',h1,⟨B,H,S,I,q⟩,h3⟩=>⟨e,cls,a0,dx,σ,H',h1,⟨B,H,S,I.unwish,q⟩,h3⟩
abbrev Cx.suite (X:Cx) (e:Addr):Cx:={ X with A:=X.A.mark (some (.ref e)),calm:=false,xe:=fun _ _=>False }
theorem Cx.Ok.suite (ok:X.Ok) (e:Addr):(X.suite e).Ok :=
 ⟨ok.mod,ok.kind,ok.glob,ok.blt,ok.above,ok.inj,ok.has,ok.cab,fun z=>Bool.noConfusion z,ok.frames,ok.stk,ok.exf,ok.bs,ok.bsz,ok.noex,ok.exfs,ok.funs,ok.frf⟩
theorem Inv.suite (I:Inv X Ab σ H s) (e:Addr):Inv (X.suite e) Ab σ H s:=⟨I.ok.suite e,I.os,I.bare,I.base,I.loc,I.cell,I.free,I.freeC,I.pin,I.hok,I.len⟩
theorem Inv.unsuite {e:Addr} (ok:X.Ok) (I:Inv (X.suite e) Ab σ H s):Inv X Ab σ H s:=⟨ok,I.os,I.bare,I.base,I.loc,I.cell,I.free,I.freeC,I.pin,I.hok,I.len⟩
theorem U8 {M:Model}{A:Around}{E:Value->Shared->Prop}{i:Nat}{n:Str}{pos:Pos}{Q:Unit->Shared->Prop} (I:Inv X Ab σ H s) (hN:X.N.Nodup) (hi:X.N[i]?=some n) (hk:X.env.kindOf n=some .local)
 (h:∀ s',Inv X Ab (σ.set i none) H s'->Q () s'):wpAny M A (do bindName X.env n .none;unbindBehindTheSuite X.env n pos) Q E s:=by
 obtain⟨m,hn,hl⟩:=id I.loc
 have hcls:(X.env.scope.kind==.class || (X.env.scope.kind==.module&&X.env.locals != X.env.globals))=false:=by rw [I.ok.kind];rfl
 refine wpAny_nameGoes_keeps hk hn hcls fun h' v hn' hs=>h _ ?_
 have lt:∀ b o,X.s₀.heap.get? b=some o->b≠X.env.locals:=fun b o e=>Nat.ne_of_lt (Nat.lt_of_lt_of_le (Heap.lt_size e) I.ok.above)
 refine⟨I.ok,I.os,I.bare,⟨fun b o e z hb hx=>(hs.2 b (lt b o e)).trans (I.base.keep b o e z hb hx),fun b o e z hb hx=>?_,I.base.free,fun b o e hx=>?_,I.base.tups,I.base.frzs,I.base.tbls⟩,⟨_,hn',fun j y v' e1 e2 e3=>?_⟩,fun y c e=>?_,I.free,I.freeC,fun p hp=>?_,fun b o e=>?_,by simpa using I.len⟩
 . obtain⟨sl,e1⟩:=I.base.slot b o e z hb hx
   exact ⟨sl,(hs.2 b (lt b o e)).trans e1⟩
 . obtain⟨o',e1⟩:=I.base.there b o e hx
   exact ⟨o',(hs.2 b (lt b o e)).trans e1⟩
 . have hj:i≠j:=by
    rintro rfl
    rw [List.getElem?_set] at e2
    simp at e2
   rw [List.getElem?_set_ne hj] at e2
   obtain⟨u,r,q⟩:=hl j y v' e1 e2 e3
   refine⟨u,r,?_⟩
   rcases q with ⟨k,z⟩|⟨k,c,z,w'⟩
   . have:y≠n:=fun z'=>hj (N7 hN hi (z'▸e1))
     exact .inl ⟨k,by simp [this,z]⟩
   . exact .inr ⟨k,c,z,w'.sameBut hs (I.cne y c z)⟩
 . obtain⟨w',z⟩:=I.cell y c e
   exact ⟨w',z.sameBut hs (I.cne y c e)⟩
 . obtain⟨e,z,ne,nf,d⟩:=I.pin p hp
   exact ⟨(hs.2 p.1 ne).trans e,z,ne,nf,d⟩
 . refine (I.hok b o e).stay (fun c w' hc q=>(hs.2 c ?_).trans q) (fun _ q=>q) fun _ _ q=>q
   rintro rfl
   have hf:=I.free
   rcases hc with rfl | hc
   . rw [hf] at e;cases e
   . rw [hf] at hc;cases hc
end
def PH (X:Cx) (hs:List ExceptHandler) (th:Ends->XJ):Prop:=∀ (Ab:List (Addr × Obj)) (s:Shared) (σ:St) (H:Hp) (D:Ends) (e:Addr) (cls a0:Value) (dx:Option Addr),FlyAt X Ab e cls a0 dx σ H s->th D cls dx σ H →
 wpAny (model X.prog X.w) X.A (handleBy (.ref e) X.env hs) (SP X Ab D) X.xe s
def hNo:Ends->XJ:=fun _ _ _ _ _=>False
theorem Vm {X:Cx}:PH X [] hNo:=fun _ _ _ _ _ _ _ _ _ _ h=>h.elim
def Y2 (i:Nat) (D:Ends):Ends:={ nx:=fun σ H=>D.nx (σ.set i none) H,rt:=D.rt,bk:=fun σ H=>D.bk (σ.set i none) H,ct:=fun σ H=>D.ct (σ.set i none) H }
theorem Wd {M:Model}{A:Around}{E:Value->Shared->Prop}{nm q:Str}{C C' N:Addr}{bs bm:List Value}{hdct:Bool}{sn:List Str}{sub:List Value}{ab:Bool}{col:Option Bool}{dd:Option Addr}{k0 k1 k2 k3 k5:Option Value}{nid:String}
 {h:Heap}{g:Array GenState}{d:Drawn}{t:Nat}{os:OsState}{e:Addr}{oe:Obj}{b:Bool}{Q:Bool->Shared->Prop} (hC:h.get? C=some (excClassObj nm q C N bs bm hdct sn sub ab col dd k0 k1 k2 k3 k5 nid))
 (he:h.get? e=some oe) (hcls:oe.cls=.ref C') (hbase:bm.contains (.type "BaseException")=true) (LS:Looks M h (isSubtype (.ref C') (.ref C)) b) (hq:Q b ⟨h,g,d,t,os⟩):wpAny M A (excMatches (.ref e) (.ref C)) Q E ⟨h,g,d,t,os⟩:=by
 have hb2:(Value.ref C::bm).contains (.type "BaseException")=true:=by rw [List.contains_cons,hbase,Bool.or_true]
 have tnt:=tc_notTuple
 unfold excMatches
 repeat (first | (with_reducible refine wpAny_loadPart_at he ?_;rw [hcls]) | with_reducible refine wpAny_loadPart_at hC ?_ | (with_reducible refine wpAny_isSubtype_exc hC ?_;rw [hb2]) | with_reducible refine LS.at ?_ | wp_step)
 cases b<;>(wp_walk;exact hq)
section
variable {X:Cx}{th:Ends->XJ}
def tTry (tb:XJ->TS) (th:Ends->XJ):TS:=fun D σ H=>tb (th D) D σ H
theorem Yr {tb:XJ->TS}{body:List Stmt}{h0:ExceptHandler}{hs:List ExceptHandler}{pos:Pos} (hb:∀ pn J,PSs (X.tried pn J) body (tb J)) (hh:PH X (h0::hs) th) (hstk:X.stack=X.env::X.outer:=by rfl) (hfr:X.env.frame=some X.env.locals:=by rfl) :
 PS X (.Try body (h0::hs) [] [] pos) (tTry tb th):=by
 intro Ab s σ H D I h
 refine wpAny_Try_except (wpAny_mono (hb Ab (th D) [] s σ H D (I.toPn.wish _) h) (fun f s1 q=>?_) fun u s1 q=>?_)
 . cases f with
   | next=>obtain⟨σ',H',I',q⟩:=q;exact wpAny_execs_nil ⟨σ',H',I'.unwish.ofPn,q⟩
   | brk=>obtain⟨σ',H',I',q⟩:=q;exact ⟨σ',H',I'.unwish.ofPn,q⟩
   | cont=>obtain⟨σ',H',I',q⟩:=q;exact ⟨σ',H',I'.unwish.ofPn,q⟩
   | ret u=>obtain⟨v,σ',H',I',r,q⟩:=q;exact ⟨v,σ',H',I'.unwish.ofPn,r,q⟩
 . obtain⟨e,cls,a0,dx,σ',H',rfl,⟨B,H1,S,I1,q1,q2,q3,q4,q5,dE⟩,hj⟩:=q
   have q5':Heap.FlyingW B (X.env::X.outer) e cls a0 s1.heap:=hstk▸q5
   refine wpAny_mono (D1 (Jt _ _) (wpAny_looks_onW (E:=fun _ _=>False) (Q:=fun _ s2=>∃ h4,s2={ s1 with heap:=h4 }/\Heap.HeldW B (X.env::X.outer) e cls a0 X.env.locals h4/\s1.heap.UpToSlots h4) (L:=X.env.locals) (I.ok.frames.trans (congrArg some hstk)) hfr q5' fun h4 held4 up4=>⟨h4,rfl,held4,up4⟩)) (fun _ s2 ⟨⟨h4,e4,held4,up4⟩,kd4⟩=>?_) (fun _ _ z=>z.1.elim)
   subst e4
   refine wpAny_mono (D1 (Fe _ _) (wpAny_landsW (E:=fun _ _=>False) (Q:=fun _ s2=>∃ h5,s2={ s1 with heap:=h5 }/\Heap.FlyingW B (X.env::X.outer) e cls a0 h5/\h4.UpToSlots h5) held4 fun h5 fl5 up5=>⟨h5,rfl,fl5,up5⟩)) (fun _ s2 ⟨⟨h5,e5,fl5,up5⟩,kd5⟩=>?_) (fun _ _ z=>z.1.elim)
   subst e5
   exact hh Ab _ σ' H' D e cls a0 dx (FlyAt.step (s':=s1) I1.ofPn q1 q2 q3 q4 q5 (hstk▸fl5) (up4.trans up5) (dE.go (kd4.trans kd5))) hj
end
structure ExcC (K:Frag) (C:Addr):Prop where
 cls:ktsIn K C "BaseException"=true
 ga:findIn K (.ref C) "__getattribute__"=some (some (.builtin "BaseException.__getattribute__"))
 gt:findIn K (.ref C) "__getattr__"=some none
 cl:findIn K (.ref C) "__class__"=some (some (.builtin "object.__class__"))
 ob:subIn K (.ref C) (.type "object")=some true
 be:subIn K (.ref C) (.type "BaseException")=some true
section
variable {prog:Program}{w:World}{A:Around}{E:Value->Shared->Prop}{h:Heap}{g:Array GenState}{d:Drawn}{t:Nat}{os:OsState}{a C:Addr}{o:Obj}{K:Frag}
theorem Xj {R:Result->Shared->Prop} (X:K.In h) (Z:ExcC K C) (hx:h.get? a=some o) (hc:o.cls=.ref C) (hq:R (.ok (.ret (.ref C))) ⟨h,g,d,t,os⟩) :
 codeAny (model prog w) A (.call (.builtin "getset_descriptor.__get__") ⟨[.builtin "object.__class__",.ref a,.ref C],[]⟩) R ⟨h,g,d,t,os⟩:=by
 have ht:(⟨h,g,d,t,os⟩:Shared).TypeIs (.builtin "object.__class__") "getset_descriptor":=F.typeOf_object_class
 have LS:Looks (model prog w) h (isSubtype (.ref C) (.type (".".intercalate ("object.__class__".cutAt '.').dropLast))) true:=by rw [F.owner_object_class];exact looks_subIn X Z.ob
 refine codeAny_call_builtin F.slot_gs_get.plain F.entry_gs_get (F.slot_gs_get.check _ _ _ _ _ _ _ _ ht (F.args_gs_get _ _ _) ?_)
 repeat (any_goals (first | assumption | (with_reducible refine wpAny_loadPart_at hx ?_;rw [hc]) | with_reducible refine LS.at ?_ | wp_step))
 refine⟨Code.quiet_builtin _ (by decide +kernel),codeAny_builtin F.entry_object_class ?_⟩
 repeat (any_goals (first | assumption | (with_reducible refine wpAny_loadPart_at hx ?_;rw [hc]) | wp_step))
theorem Ua {tk:Tok}{Q:PySem.Fin->Shared->Prop} (X:K.In h) (Z:ExcC K C) (hx:h.get? a=some o) (hc:o.cls=.ref C) (hq:Q (.done (.ret (.ref C))) ⟨h,g,d,t,os⟩) :
 wpAny (model prog w) A (Builtin.«object.__getattribute__» ⟨[.ref a,.str "__class__" tk],[]⟩) Q E ⟨h,g,d,t,os⟩:=by
 have ht:(⟨h,g,d,t,os⟩:Shared).TypeIs (.builtin "object.__class__") "getset_descriptor":=F.typeOf_object_class
 have L1:Looks (model prog w) h (typeLookup (.ref C) "__class__") (some (.builtin "object.__class__")):=looks_findIn X Z.cl
 have f5:=F.typeOf_object_class
 have f6:=F.slot_gs_get.lookup
 have f7:=F.slot_gs_set.lookup
 repeat (any_goals (first | assumption | (with_reducible refine wpAny_loadPart_at hx ?_;rw [hc]) | with_reducible refine L1.at ?_ | wp_step))
 refine Xj X Z hx hc ?_
 repeat (any_goals (first | assumption | wp_step))
theorem Ub {M:Model}{nameV:Value}{Q:Unit->Shared->Prop} (X:K.In h) (Z:ExcC K C) (hx:h.get? a=some o) (hc:o.cls=.ref C) (hq:Q () ⟨h,g,d,t,os⟩) :
 wpAny M A (checkBuiltinCall "BaseException.__getattribute__" ⟨[.ref a,nameV],[]⟩) Q E ⟨h,g,d,t,os⟩:=by
 have hk:builtinKind "BaseException.__getattribute__"=some .slot:=by decide +kernel
 have hsp:splitId "BaseException.__getattribute__"=some ("BaseException","__getattribute__"):=by decide +kernel
 have LS:Looks M h (isSubtype (.ref C) (.type "BaseException")) true:=looks_subIn X Z.be
 have ha:=F.args_bexc_ga (.ref a) nameV
 simp only [checkBuiltinCall,hk,hsp]
 refine wpAny_bind ?_
 unfold isInstance
 repeat (first | (with_reducible refine wpAny_loadPart_at hx ?_;rw [hc]) | with_reducible refine LS.at ?_ | wp_step)
 exact hq
theorem U5 {tk:Tok}{R:Result->Shared->Prop} (X:K.In h) (Z:ExcC K C) (hx:h.get? a=some o) (hc:o.cls=.ref C) (hq:R (.ok (.ret (.ref C))) ⟨h,g,d,t,os⟩) :
 codeAny (model prog w) A (.call (.builtin "BaseException.__getattribute__") ⟨[.ref a,.str "__class__" tk],[]⟩) R ⟨h,g,d,t,os⟩ :=
 codeAny_call_builtin F.attr_ValueError.ga.plain F.entry_bexc_ga (Ub X Z hx hc (Ua X Z hx hc hq))
theorem Y5 {tk:Tok}{fill expr:Bool}{Q:Value->Shared->Prop} (X:K.In h) (Z:ExcC K C) (hx:h.get? a=some o) (hc:o.cls=.ref C) (hq:Q (.ref C) ⟨h,g,d,t,os⟩) :
 wpAny (model prog w) A (getAttrBy (.ref a) (.str "__class__" tk) fill expr) Q E ⟨h,g,d,t,os⟩:=by
 have f3:=F.attr_ValueError.ga.bind (.ref a)
 have hx0:(expr&&onTheHeap (Value.builtin "BaseException.__getattribute__"))=false:=by cases expr<;>rfl
 have hx2:(Value.builtin "BaseException.__getattribute__"==Value.builtin "object.__getattribute__")=false:=by decide +kernel
 have hx1:(onTheHeap (Value.ref C)&&Value.builtin "BaseException.__getattribute__"==Value.builtin "object.__getattribute__")=false:=by rw [hx2];rfl
 have L1:Looks (model prog w) h (typeLookup (.ref C) "__getattribute__") (some (.builtin "BaseException.__getattribute__")):=looks_findIn X Z.ga
 have L2':Looks (model prog w) h (typeLookup (.ref C) "__getattr__") none:=looks_findIn X Z.gt
 repeat (any_goals (first | assumption | (with_reducible refine wpAny_loadPart_at hx ?_;rw [hc]) | with_reducible refine L1.at ?_ | with_reducible refine L2'.at ?_ | wp_step))
 refine U5 X Z hx hc ?_
 repeat (any_goals (first | assumption | wp_step))
theorem U6 {Q:Option Value->Shared->Prop} (X:K.In h) (Z:ExcC K C) (hx:h.get? a=some o) (hc:o.cls=.ref C) (hq:Q (some (.ref C)) ⟨h,g,d,t+1,os⟩):wpAny (model prog w) A (getAttr? (.ref a) "__class__") Q E ⟨h,g,d,t,os⟩:=by
 unfold getAttr? getAttrBy?
 repeat (any_goals (first | assumption | with_reducible apply Y5 X Z hx hc | wp_step))
theorem X5 (Z:ExcC K C):KitX K (.ref a) (.ref C) (fun h=>∃ o,h.get? a=some o/\o.cls=.ref C) where
 ty:=fun M h X ⟨o,e,c⟩=>by
  have:=(Looks.ld (M:=M) (part:=none) e).andThen (f:=fun ob=>pure ob.cls) .now
  rw [c] at this
  exact this
 it:=fun M h X _=>by
  obtain⟨nm,qn,N,bs',bm,hdct,sn,sub,ab,col,dd,k0,k1,k2,k3,k5,nid,hCo,_,_⟩:=kts_cls X Z.cls
  intro A' Q' E' s' k q
  unfold isType loadHead
  exact wpAny_bind (wpAny_loadPart (k _ _ hCo) (wpAny_pure q))
 ne:=fun h tp dd its n sl X htp=>by
  obtain⟨nm,qn,N,bs',bm,hdct,sn,sub,ab,col,dd,k0,k1,k2,k3,k5,nid,hCo,_,_⟩:=kts_cls X Z.cls
  refine Bool.eq_false_iff.mpr fun q=>?_
  have e:C=tp:=Value.ref.inj (beq_iff_eq.mp q)
  subst e
  have z:=congrArg Obj.cls (Option.some.inj (hCo.symm.trans htp))
  have z2:("type":String)="tuple":=by injection z
  exact absurd z2 (by decide)
 ca:=fun {prog w A E Q s} X ⟨o,e,c⟩ k=>by
  obtain⟨sh,sg,sd,st,so⟩:=s
  exact U6 X Z e c k
end
section
variable {X:Cx}{K:Frag}
theorem Bc (hK:X.K=K:=by rfl):Eu X (.builtin "isinstance") (fun xs H Q=>∃ (e C:Addr) (y:V) (c:Value) (b:Bool),xs=[.ref e,y]/\RelV y c/\(∀ u,RelV y u->u=c)/\H e=some (excO e (.ref C))/\ExcC K C/\kitOne K (.ref C) c=some b/\Q (.bl b) H):=by
 subst hK
 intro Ab s σ H xs us Q I r h
 obtain⟨e,C,y,c,b,rfl,_,hy,hH,Z,kk,q⟩:=h
 obtain⟨u,v,rfl,rx,rt⟩:=Xk r
 cases rx
 cases hy v rt
 have ho:=I.hok e _ hH
 obtain⟨⟨o,vs,e1,c1,_⟩,_⟩:=ho
 exact kia_one (X5 Z) I.kIn ⟨o,e1,c1⟩ kk (fun z=>nomatch z) fun tk=>⟨.bl b,H,I.tok tk,rfl,q⟩
theorem Bs {D:Addr}:∀ u,RelV (.ref D) u->u=.ref D:=fun u h=>h
theorem U9 {n:String}:∀ u,RelV (.ty n) u->u=.type n:=fun u h=>h
end
end L2
namespace L2
open PySem PySem.Spec PyProof.Rows
def Ite (K:W.Frag) (a:Addr):It :=
 ⟨fun i H=>∃ xs x,SqL K H a xs/\xs[i]?=some x,fun i H x H'=>∃ p v,H p=none/\x=.ref p/\H'=upd H p (.tup [.int i,v])/\∀ xs,SqL K H a xs->xs[i]?=some v,fun i H=>∃ xs,SqL K H a xs/\xs.length<=i⟩
theorem Vc {P:Program}{w:World}{K:W.Frag}{es:List Expr}{x1:Nat}{tpos:Pos} (a e it:Addr) (hne:e≠it):Turn P w K (.Tuple es x1 tpos) (Ite K a) [e,it] e (fun i h=>(∃ old,IsEnum h e it (i:Int) old)/\h.IsListIter it a i) where
 mem:=by simp
 obj:=fun i h st b hb=>by
  obtain⟨⟨old,h1⟩,o,h2,c,d⟩:=st
  rcases List.mem_cons.mp hb with rfl | hb
  . exact ⟨_,h1,fun v z=>by cases (show Data.fields _=Data.cell v from z)⟩
  . have z:b=it:=by simpa using hb
    subst z
    exact ⟨o,h2,fun v z=>by rw [d] at z;cases z⟩
 keep:=fun i h h' st k=>by
  obtain⟨⟨old,h1⟩,h2⟩:=st
  exact ⟨⟨old,k e (by simp) _ h1⟩,h2.at fun o z=>k it (by simp) o z⟩
 item:=by
  intro X hP hw hK hc i Ab s σ H E I hf st hg
  subst hP hw hK
  obtain⟨⟨old,h1⟩,h2⟩:=st
  obtain⟨xs,x,hq,hx⟩:=hg
  obtain⟨its,rv,p,hz⟩:=I.list hq
  obtain⟨u,hu,ru⟩:=rv.get hx
  have fe:=hf e (by simp)
  have fi:=hf it (by simp)
  have lte:e<s.heap.objs.size:=Heap.lt_size h1
  have hfresh:H s.heap.objs.size=none:=I.hok.fresh (Nat.le_refl _)
  refine wpAny_pyNext_enum_item h1 h2 p.isList (x:=u) (by simpa using hu) hne fun h' hout hit' htup hsz hk=>?_
  refine⟨_,rfl,wpAny_letOwnedTupleGo_enum hout fun h3 hen hsb=>?_⟩
  replace hsb:Heap.SameBut e h' h3:=hsb
  have kk:∀ b o,b≠e->b≠it->s.heap.get? b=some o->h3.get? b=some o:=fun b o n1 n2 z=>(hsb.2 b n1).trans (hk b o n1 n2 z)
  have ht3:h3.get? s.heap.objs.size=some { cls:=.type "tuple",data:=.seq #[.int i s.toks,u] }:=(hsb.2 _ (Nat.ne_of_gt lte)).trans htup
  have hi3:h3.IsListIter it a (i+1):=hit'.at fun o z=>(hsb.2 it hne.symm).trans z
  have nch:∀ b,b ∉ [e,it]->b≠e/\b≠it:=fun b hb=>by simpa using hb
  have ntr:∀ b v,H b=some v->b≠e/\b≠it:=fun b v z=>⟨Bm z fe.1,Bm z fi.1⟩
  have nsz:∀ b v,H b=some v->b≠s.heap.objs.size:=fun b v z=>Bm z hfresh
  refine⟨.ref s.heap.objs.size,upd H s.heap.objs.size (.tup [.int i,x]),?_,rfl,⟨s.heap.objs.size,x,hfresh,rfl,rfl,fun ys hy=>by rw [I.list_inj hy hq];exact hx⟩,⟨⟨_,hen⟩,hi3⟩,fun b hb=>?_⟩
  . refine Inv.step (s:=s) (h':=h3) (t':=s.toks+1) (H':=upd H s.heap.objs.size (.tup [.int i,x])) I (g':=s.gens) (d':=s.drawn) (ch:=[e,it]) (fun b hb=>?_) (fun b o _ _ hb z _=>kk b o (nch b hb).1 (nch b hb).2 z) (fun b o _ _ hb z _=>⟨o.slots,kk b o (nch b hb).1 (nch b hb).2 z⟩) (fun b o hb z n=>?_) (fun b o hb z=>⟨o,kk b o (nch b hb).1 (nch b hb).2 z⟩)
     (fun b ys z=>by rw [A7 (nsz b _ z)];exact z) (fun b o v z=>by rw [A7 (nsz b _ z)];exact z) (fun b ps z=>⟨#[],by rw [A7 (nsz b _ z),z];simp⟩) (fun m hm=>?_) (fun b v z=>?_) I.bare
    . rcases List.mem_cons.mp hb with rfl | hb
      . exact ⟨fe.2.2.2.1,fe.2.1,fe.2.2.2.2.1,fe.2.2.2.2.2⟩
      . have z:b=it:=by simpa using hb
        subst z
        exact ⟨fi.2.2.2.1,fi.2.1,fi.2.2.2.2.1,fi.2.2.2.2.2⟩
    . rw [A7 (Nat.ne_of_lt (Heap.lt_size z))]
      exact n
    . obtain⟨o,es',ep,ho,r⟩:=hm
      exact ⟨o,es',ep,kk _ o fe.2.1.symm fi.2.1.symm ho,r⟩
    . by_cases hb:b=s.heap.objs.size
      . subst hb
        rw [Ad] at z
        cases z
        exact ⟨(by show (2:Nat)<=sizeLine;decide),[.int i s.toks,u],.cons ⟨_,rfl⟩ (.cons ru .nil),⟨_,ht3,rfl,rfl,_,rfl⟩⟩
      . rw [A7 hb] at z
        refine (I.hok b v z).stay (fun c y hc' q=>?_) (fun c q=>by rw [A7 (nsz c _ q)];exact q) fun c ys q=>by rw [A7 (nsz c _ q)];exact q
        rcases hc' with rfl | hc'
        . exact kk _ _ (ntr _ _ z).1 (ntr _ _ z).2 q
        . exact kk _ _ (ntr _ _ hc').1 (ntr _ _ hc').2 q
  . have lb:b<s.heap.objs.size:=by
     rcases List.mem_cons.mp hb with rfl | hb
     . exact lte
     . have z:b=it:=by simpa using hb
       subst z
       obtain⟨o,z,_⟩:=h2
       exact Heap.lt_size z
    rw [A7 (Nat.ne_of_lt lb)]
    exact (hf b hb).1
 done:=by
  intro X hP hw hK hc i Ab s σ H E I hf st hg
  subst hP hw hK
  obtain⟨⟨old,h1⟩,h2⟩:=st
  obtain⟨xs,hq,hx⟩:=hg
  obtain⟨its,rv,p,hz⟩:=I.list hq
  obtain⟨f0,f1,f2,f3,f4,f5⟩:=hf it (by simp)
  have hl:=rv.length
  exact wpAny_pyNext_enum_end (I.ok.hd hc) h1 h2 p.isList (by simp;omega) fun h' eb=>⟨rfl,I.turned (t':=s.toks) (fun b o hb z=>eb b o hb z) f0 f1 f3 f4 f5⟩
 self:=fun _ _ _ _ _ st h=>by
  obtain⟨⟨old,h1⟩,h2⟩:=st
  exact wpAny_pyIter_enum h1 h
def Aa3 (K:W.Frag) (ta:TA):TI:=fun σ H R=>ta σ H fun vs H1=>∃ a,vs=[.ref a]/\(∃ xs,SqL K H1 a xs)/\R (Ite K a) H1
theorem K9:bootBuiltins "enumerate"=some (.type "enumerate"):=by decide +kernel
theorem Vl {X:Cx}{K:W.Frag}{es:List Expr}{x1:Nat}{tpos:Pos}{a:Expr}{ta:TA}{p pos:Pos} (hg:Gl X "enumerate") (hm:X.mg "enumerate"=none) (ha:PA X [a] ta) (hK:X.K=K:=by rfl) (hs:starEach [a] X.env=[(false,eval a X.env)]:=by rfl):PI X (.Tuple es x1 tpos) (.Call (.Name "enumerate" p) [a] [] pos) (Aa3 K ta):=by
 subst hK
 intro Ab s σ H R I h
 refine Call_ (Hl I hg hm K9 (PyProof.Rows.callWith_type1 (thn (ha pos Ab s σ H _ I h) fun us s1 ⟨vs,H1,I1,r1,q1⟩=>?_) hs rfl))
 obtain⟨l,e,⟨xs,hq⟩,q⟩:=q1
 subst e
 cases r1 with
 | cons r rr =>
   cases rr
   cases r
   obtain⟨its,rv,pl,hz⟩:=I1.list hq
   refine call_enumerate_list pl.isList fun h' hen hit hsz hk=>?_
   refine wpAny_pyIter_enum hen ⟨s1.heap.objs.size+1,[s1.heap.objs.size+1,s1.heap.objs.size],_,_,H1,rfl,I1.kept (t':=s1.toks) hk,Vc l _ _ (Nat.succ_ne_self _),⟨⟨_,hen⟩,hit⟩,fun b hb=>?_,q⟩
   have lb:s1.heap.objs.size<=b:=by
    rcases List.mem_cons.mp hb with rfl | hb
    . exact Nat.le_succ _
    . have z:b=s1.heap.objs.size:=by simpa using hb
      rw [z]
      exact Nat.le_refl _
   exact I1.fpOk lb (I1.hok.fresh lb)
section
variable {g:TG}{tc:TT}{te:TE}{D:Addr}{Q:Hp->Prop}{τ:St}{H:Hp}
theorem Rf {K:W.Frag}{a:Addr}{xs:List V} (Pv:Nat->List V->St->Hp->Prop) (h0:Pv 0 [] τ H) (hl:∀ i ys τ H,i<=xs.length->Pv i ys τ H->SqL K H a xs)
 (hs:∀ i x ys τ H p,xs[i]?=some x->Pv i ys τ H->H p=none->g (.ref p) τ (upd H p (.tup [.int i,x])) fun τ2 H2=>tc τ2 H2 fun b H3=>if b=true then te τ2 H3 fun y H4=>H4 D=some (.lst ys)/\ys.length<sizeLine/\Pv (i+1) (ys++[y]) τ2 (upd H4 D (.lst (ys++[y]))) else Pv (i+1) ys τ2 H3)
 (hd:∀ ys τ H,Pv xs.length ys τ H->Q H):RunC (Ite K a) g tc te D Q τ H:=by
 refine⟨fun i m ys τ H=>m=xs.length-i/\i<=xs.length/\Pv i ys τ H,⟨xs.length,by simp,Nat.zero_le _,h0⟩,?_⟩
 rintro i m ys τ H ⟨rfl,hi,pp⟩
 have q:=hl i ys τ H hi pp
 by_cases hlt:i<xs.length
 . refine .inr ⟨⟨xs,xs[i],q,by simp [hlt]⟩,Pv (i+1),fun ys' τ' H' p'=>⟨xs.length-(i+1),by omega,rfl,hlt,p'⟩,fun x H' y=>?_⟩
   obtain⟨p,v,hp,rfl,rfl,y⟩:=y
   exact hs i v ys τ _ p (y xs q) pp hp
 . have e:i=xs.length:=by omega
   subst e
   exact .inl ⟨⟨xs,q,Nat.le_refl _⟩,hd ys τ H pp⟩
end
end L2
namespace L2
open PySem PySem.Spec PyProof.Rows
theorem Inv.turnedN {X:Cx}{Ab:List (Addr × Obj)}{σ:St}{H:Hp}{s:Shared}{h':Heap}{t':Nat}{fp:List Addr} (I:Inv X Ab σ H s) (k:∀ b o,b ∉ fp->s.heap.get? b=some o->h'.get? b=some o) (hf:∀ b∈fp,FpOk X Ab H b) :
 Inv X Ab σ H { s with heap:=h',toks:=t' }:=by
 have ntr:∀ c o,H c=some o->c ∉ fp:=fun c o e hm=>by rw [(hf c hm).1] at e;cases e
 refine I.step (g':=s.gens) (d':=s.drawn) (ch:=fp) (fun b hb=>?_) (fun b o _ _ hc e _=>k b o hc e) (fun b o _ _ hc e _=>⟨o.slots,k b o hc e⟩) (fun _ _ _ _ n=>n)
  (fun b o hc e=>⟨o,k b o hc e⟩) (fun _ _ e=>e) (fun _ _ _ e=>e) (fun b ps e=>⟨#[],by rw [e];simp⟩) (fun m hm=>?_) (fun b u e=>?_) I.bare
 . have f:=hf b hb
   exact ⟨f.2.2.2.1,f.2.1,f.2.2.2.2.1,f.2.2.2.2.2⟩
 . obtain⟨o,es',ep,ho,r⟩:=hm
   exact ⟨o,es',ep,k _ o (fun z=>(hf _ z).2.1 rfl) ho,r⟩
 . refine (I.hok b u e).stay (fun c y hc' q=>?_) (fun c q=>q) fun c ys q=>q
   rcases hc' with rfl | hc'
   . exact k _ _ (ntr _ _ e) q
   . exact k _ _ (ntr _ _ hc') q
section
variable {g:TG}{tc:TT}{te:TE}{D:Addr}{Q:Hp->Prop}{τ:St}{H:Hp}
end
theorem preSum_sum (ns:List Int):∀ k,k<=ns.length->preSum (fun i=>ns.getD i 0) k=(ns.take k).sum
 | 0,_=>by simp [preSum]
 | k+1,h=>by
   show preSum _ k+ns.getD k 0=_
   rw [preSum_sum ns k (by omega),List.take_succ,List.getElem?_eq_getElem (by omega),List.sum_append,List.getD_eq_getElem?_getD,List.getElem?_eq_getElem (by omega)]
   simp
theorem W6:bootBuiltins "sum"=some (.builtin "sum"):=by decide +kernel
end L2
namespace L2
open PySem PySem.W PySem.Calls PyProof.Rows
end L2
namespace L2
open PySem PySem.Spec PyProof.Rows
section
variable {X:Cx}{Ab:List (Addr × Obj)}{σ:St}{H:Hp}{s:Shared}{a:Addr}{Aw:List (Key × V)}
end
theorem is_kV {P:Program}{w:World}{k:Key}{u:Value} (h:(mixKind P w).is k u=true):RelV (kV k) u:=by
 rcases Bu h with ⟨i,t,rfl,rfl⟩|⟨x,t,rfl,rfl⟩
 . exact ⟨t,rfl⟩
 . exact ⟨t,rfl⟩
section
variable {g:TG}{tc:TT}{te:TE}{D:Addr}{Q:Hp->Prop}{τ:St}{H:Hp}
end
end L2
namespace L2
open PySem PySem.Spec PyProof.Rows PySem.SeqAt
theorem X0 {ms:List (Int × Int)}:((cK ms).map (·.1)).Nodup↔(ms.map (·.1)).Nodup:=by
 unfold cK List.Nodup
 rw [List.map_map,List.pairwise_map,List.pairwise_map]
 constructor
 . intro h;exact h.imp fun {a b} n z=>n (by simp [z])
 . intro h;exact h.imp fun {a b} n z=>n (by simpa using z)
section
variable {X:Cx}{Ab:List (Addr × Obj)}{σ:St}{H:Hp}{s:Shared}{a:Addr}{ms:List (Int × Int)}
end
section
variable {X:Cx}{n:Nat}{K:W.Frag}
end
end L2
namespace L2
open PySem PySem.Spec PyProof.Rows
theorem u1 {n c:Nat} (h:n+8<c):n+1<c:=by omega
theorem r9 (ms:List (Int × Int)) (k:Int):valV (cK ms) (Sum.inl k)=(Oa ms k).map V.int:=by
 unfold Oa cK valV
 rw [List.find?_map,Option.map_map,Option.map_map]
 have e:((fun p:Key × V=>decide (p.1=Sum.inl k)) ∘ fun p:Int × Int=>((Sum.inl p.1:Key),V.int p.2))=fun p:Int × Int=>decide (p.1=k):=by
  funext p
  simp
 rw [e]
 rfl
theorem Uo (p:Int × Int) (ms:List (Int × Int)) (k:Int):Oa (p::ms) k=if p.1=k then some p.2 else Oa ms k:=by
 unfold Oa
 by_cases q:p.1=k
 . rw [List.find?_cons_of_pos (by simpa using q),if_pos q];rfl
 . rw [List.find?_cons_of_neg (by simpa using q),if_neg q]
end L2
namespace Hb
def sumN (f:Nat->Int):Nat->Int
 | 0=>0
 | n+1=>sumN f n+f n
end Hb
namespace Hb
open PySem L2
abbrev Ms:=List (Int × Int)
def nd (ms:Ms):Prop:=(ms.map (·.1)).Nodup
theorem X3 {ms:Ms} (h:nd ms) {p:Int × Int} (hp:p∈ms):Oa ms p.1=some p.2:=by
 induction ms with
 | nil=>cases hp
 | cons q ms ih =>
   rw [Uo]
   unfold nd at h
   rw [List.map_cons,List.nodup_cons] at h
   rcases List.mem_cons.mp hp with rfl | hp
   . rw [if_pos rfl]
   . have:¬q.1=p.1:=fun z=>h.1 (by rw [z];exact List.mem_map_of_mem (f:=(·.1)) hp)
     rw [if_neg this]
     exact ih h.2 hp
def Vh (f:Int->Int) (n:Nat):Ms:=(List.range n).map fun (i:Nat)=>((i:Int),f (i:Int))
end Hb
namespace Hb
open PySem L2
theorem range_succ (f:Int->Int) (n:Nat):Vh f (n+1)=Vh f n++[((n:Int),f n)]:=by
 unfold Vh
 rw [List.range_succ,List.map_append]
 rfl
end Hb
namespace Hb
def Ah (w:List Int) (fam:Int):List (List Int) :=
 if fam=0 then (if w.length<2 then [] else (List.range w.length).map fun i=>w.take i++w.drop (i+1))
 else if w.length=0 then []
 else if fam<0 then (if w.length=1 then [[],[]] else w.map fun l=>[l])
 else w.drop 1::((List.range (w.length-1)).map fun i=>w.take i++[(w.getD i 0+w.getD (i+1) 0)%fam]++w.drop (i+2))++[w.take (w.length-1)]
def Word (fam:Int) (w:List Int):Prop :=
 (fam=0/\1<=w.length/\w.length<=4)\/(fam<0/\(w.length=0\/w.length=1\/w.length=3))\/(0<fam/\w.length<=3)
def lv (fam:Int) (w:List Int):Nat:=if fam=0 then w.length-1 else if fam<0 then (if w.length=3 then 2 else w.length) else w.length
theorem Ig {fam:Int}{w:List Int} (h:Word fam w) :
 (fam=0/\((∃ a,w=[a])\/(∃ a b,w=[a,b])\/(∃ a b c,w=[a,b,c])\/∃ a b c d,w=[a,b,c,d])) ∨
 (fam<0/\(w=[]\/(∃ a,w=[a])\/∃ a b c,w=[a,b,c])) ∨
 (0<fam/\(w=[]\/(∃ a,w=[a])\/(∃ a b,w=[a,b])\/∃ a b c,w=[a,b,c])):=by
 rcases h with ⟨h0,h1,h2⟩|⟨h0,h1⟩|⟨h0,h1⟩
 . left
   refine⟨h0,?_⟩
   match w,h1,h2 with
   | [a],_,_=>exact .inl ⟨a,rfl⟩
   | [a,b],_,_=>exact .inr (.inl ⟨a,b,rfl⟩)
   | [a,b,c],_,_=>exact .inr (.inr (.inl ⟨a,b,c,rfl⟩))
   | [a,b,c,d],_,_=>exact .inr (.inr (.inr ⟨a,b,c,d,rfl⟩))
   | _::_::_::_::_::_,_,h=>simp at h
 . right;left
   refine⟨h0,?_⟩
   match w,h1 with
   | [],_=>exact .inl rfl
   | [a],_=>exact .inr (.inl ⟨a,rfl⟩)
   | [a,b],h=>simp at h
   | [a,b,c],_=>exact .inr (.inr ⟨a,b,c,rfl⟩)
   | _::_::_::_::_,h=>simp at h
 . right;right
   refine⟨h0,?_⟩
   match w,h1 with
   | [],_=>exact .inl rfl
   | [a],_=>exact .inr (.inl ⟨a,rfl⟩)
   | [a,b],_=>exact .inr (.inr (.inl ⟨a,b,rfl⟩))
   | [a,b,c],_=>exact .inr (.inr (.inr ⟨a,b,c,rfl⟩))
   | _::_::_::_::_,h=>simp at h
theorem f0_1 (a:Int):Ah [a] 0=[]:=rfl
theorem f0_2 (a b:Int):Ah [a,b] 0=[[b],[a]]:=rfl
theorem f0_3 (a b c:Int):Ah [a,b,c] 0=[[b,c],[a,c],[a,b]]:=rfl
theorem f0_4 (a b c d:Int):Ah [a,b,c,d] 0=[[b,c,d],[a,c,d],[a,b,d],[a,b,c]]:=rfl
section
variable {fam:Int}
theorem fn_0 (h:fam<0):Ah [] fam=[]:=by unfold Ah;rw [if_neg (by omega),if_pos (by simp)]
theorem fn_1 (h:fam<0) (a:Int):Ah [a] fam=[[],[]]:=by unfold Ah;rw [if_neg (by omega),if_neg (by simp),if_pos h,if_pos (by simp)]
theorem fn_3 (h:fam<0) (a b c:Int):Ah [a,b,c] fam=[[a],[b],[c]]:=by unfold Ah;rw [if_neg (by omega),if_neg (by simp),if_pos h,if_neg (by simp)];rfl
theorem fp_0 (h:0<fam):Ah [] fam=[]:=by unfold Ah;rw [if_neg (by omega),if_pos (by simp)]
theorem fp_1 (h:0<fam) (a:Int):Ah [a] fam=[[],[]]:=by unfold Ah;rw [if_neg (by omega),if_neg (by simp),if_neg (by omega)];rfl
theorem fp_2 (h:0<fam) (a b:Int):Ah [a,b] fam=[[b],[(a+b)%fam],[a]]:=by unfold Ah;rw [if_neg (by omega),if_neg (by simp),if_neg (by omega)];rfl
theorem fp_3 (h:0<fam) (a b c:Int):Ah [a,b,c] fam=[[b,c],[(a+b)%fam,c],[a,(b+c)%fam],[a,b]]:=by unfold Ah;rw [if_neg (by omega),if_neg (by simp),if_neg (by omega)];rfl
theorem Ft {w f:List Int} (h:Word fam w) (hf:f∈Ah w fam):Word fam f/\lv fam f+1=lv fam w:=by
 rcases Ig h with ⟨h0,⟨a,rfl⟩|⟨a,b,rfl⟩|⟨a,b,c,rfl⟩|⟨a,b,c,d,rfl⟩⟩|⟨h0,rfl|⟨a,rfl⟩|⟨a,b,c,rfl⟩⟩|⟨h0,rfl|⟨a,rfl⟩|⟨a,b,rfl⟩|⟨a,b,c,rfl⟩⟩
 . subst h0;rw [f0_1] at hf;exact nomatch hf
 . subst h0;rw [f0_2] at hf
   simp only [List.mem_cons,List.not_mem_nil,or_false] at hf
   rcases hf with rfl | rfl<;>simp [Word,lv]
 . subst h0;rw [f0_3] at hf
   simp only [List.mem_cons,List.not_mem_nil,or_false] at hf
   rcases hf with rfl | rfl | rfl<;>simp [Word,lv]
 . subst h0;rw [f0_4] at hf
   simp only [List.mem_cons,List.not_mem_nil,or_false] at hf
   rcases hf with rfl | rfl | rfl | rfl<;>simp [Word,lv]
 . rw [fn_0 h0] at hf;exact nomatch hf
 . rw [fn_1 h0] at hf
   simp only [List.mem_cons,List.not_mem_nil,or_false,or_self] at hf
   subst hf
   have e:¬fam=0:=by omega
   simp [Word,lv,h0,e]
 . rw [fn_3 h0] at hf
   have e:¬fam=0:=by omega
   simp only [List.mem_cons,List.not_mem_nil,or_false] at hf
   rcases hf with rfl | rfl | rfl<;>simp [Word,lv,h0,e]
 . rw [fp_0 h0] at hf;exact nomatch hf
 . rw [fp_1 h0] at hf
   have e:¬fam=0:=by omega
   have e':¬fam<0:=by omega
   simp only [List.mem_cons,List.not_mem_nil,or_false,or_self] at hf
   subst hf
   simp [Word,lv,h0,e,e']
 . rw [fp_2 h0] at hf
   have e:¬fam=0:=by omega
   have e':¬fam<0:=by omega
   simp only [List.mem_cons,List.not_mem_nil,or_false] at hf
   rcases hf with rfl | rfl | rfl<;>simp [Word,lv,h0,e,e']
 . rw [fp_3 h0] at hf
   have e:¬fam=0:=by omega
   have e':¬fam<0:=by omega
   simp only [List.mem_cons,List.not_mem_nil,or_false] at hf
   rcases hf with rfl | rfl | rfl | rfl<;>simp [Word,lv,h0,e,e']
theorem Eg {w:List Int} (h:Word fam w):(Ah w fam).length=(if lv fam w=0 then 0 else lv fam w+1)/\lv fam w<=3:=by
 rcases Ig h with ⟨h0,⟨a,rfl⟩|⟨a,b,rfl⟩|⟨a,b,c,rfl⟩|⟨a,b,c,d,rfl⟩⟩|⟨h0,rfl|⟨a,rfl⟩|⟨a,b,c,rfl⟩⟩|⟨h0,rfl|⟨a,rfl⟩|⟨a,b,rfl⟩|⟨a,b,c,rfl⟩⟩
 . subst h0;simp [f0_1,lv]
 . subst h0;simp [f0_2,lv]
 . subst h0;simp [f0_3,lv]
 . subst h0;simp [f0_4,lv]
 all_goals have e:¬fam=0:=by omega
 . simp [fn_0 h0,lv,e,h0]
 . simp [fn_1 h0,lv,e,h0]
 . simp [fn_3 h0,lv,e,h0]
 all_goals have e':¬fam<0:=by omega
 . simp [fp_0 h0,lv,e,e']
 . simp [fp_1 h0,lv,e,e']
 . simp [fp_2 h0,lv,e,e']
 . simp [fp_3 h0,lv,e,e']
theorem S6 {w f g:List Int}{i j:Nat} (h:Word fam w) (hl:2<=lv fam w) (hij:i<j) (hf:(Ah w fam)[j]?=some f) (hg:(Ah w fam)[i]?=some g):(Ah f fam)[i]?=(Ah g fam)[j-1]?:=by
 have hj:j<(Ah w fam).length:=(List.getElem?_eq_some_iff.mp hf).1
 rcases Ig h with ⟨h0,⟨a,rfl⟩|⟨a,b,rfl⟩|⟨a,b,c,rfl⟩|⟨a,b,c,d,rfl⟩⟩|⟨h0,rfl|⟨a,rfl⟩|⟨a,b,c,rfl⟩⟩|⟨h0,rfl|⟨a,rfl⟩|⟨a,b,rfl⟩|⟨a,b,c,rfl⟩⟩
 . subst h0;simp [lv] at hl
 . subst h0;simp [lv] at hl
 . subst h0
   rw [f0_3] at hf hg hj
   have hc:(i=0/\j=1)\/(i=0/\j=2)\/(i=1/\j=2):=by simp at hj;omega
   rcases hc with ⟨rfl,rfl⟩|⟨rfl,rfl⟩|⟨rfl,rfl⟩
   . simp at hf hg;subst hf hg;rfl
   . simp at hf hg;subst hf hg;rfl
   . simp at hf hg;subst hf hg;rfl
 . subst h0
   rw [f0_4] at hf hg hj
   have hc:(i=0/\j=1)\/(i=0/\j=2)\/(i=0/\j=3)\/(i=1/\j=2)\/(i=1/\j=3)\/(i=2/\j=3):=by simp at hj;omega
   rcases hc with ⟨rfl,rfl⟩|⟨rfl,rfl⟩|⟨rfl,rfl⟩|⟨rfl,rfl⟩|⟨rfl,rfl⟩|⟨rfl,rfl⟩
   . simp at hf hg;subst hf hg;rfl
   . simp at hf hg;subst hf hg;rfl
   . simp at hf hg;subst hf hg;rfl
   . simp at hf hg;subst hf hg;rfl
   . simp at hf hg;subst hf hg;rfl
   . simp at hf hg;subst hf hg;rfl
 all_goals have e:¬fam=0:=by omega
 . simp [lv,e,h0] at hl
 . simp [lv,e,h0] at hl
 . rw [fn_3 h0] at hf hg hj
   have hc:(i=0/\j=1)\/(i=0/\j=2)\/(i=1/\j=2):=by simp at hj;omega
   rcases hc with ⟨rfl,rfl⟩|⟨rfl,rfl⟩|⟨rfl,rfl⟩
   . simp at hf hg;subst hf hg;simp [fn_1 h0]
   . simp at hf hg;subst hf hg;simp [fn_1 h0]
   . simp at hf hg;subst hf hg;simp [fn_1 h0]
 all_goals have e':¬fam<0:=by omega
 . simp [lv,e,e'] at hl
 . simp [lv,e,e'] at hl
 . rw [fp_2 h0] at hf hg hj
   have hc:(i=0/\j=1)\/(i=0/\j=2)\/(i=1/\j=2):=by simp at hj;omega
   rcases hc with ⟨rfl,rfl⟩|⟨rfl,rfl⟩|⟨rfl,rfl⟩
   . simp at hf hg;subst hf hg;simp [fp_1 h0]
   . simp at hf hg;subst hf hg;simp [fp_1 h0]
   . simp at hf hg;subst hf hg;simp [fp_1 h0]
 . rw [fp_3 h0] at hf hg hj
   have hc:(i=0/\j=1)\/(i=0/\j=2)\/(i=0/\j=3)\/(i=1/\j=2)\/(i=1/\j=3)\/(i=2/\j=3):=by simp at hj;omega
   rcases hc with ⟨rfl,rfl⟩|⟨rfl,rfl⟩|⟨rfl,rfl⟩|⟨rfl,rfl⟩|⟨rfl,rfl⟩|⟨rfl,rfl⟩
   . simp at hf hg;subst hf hg;simp [fp_2 h0]
   . simp at hf hg;subst hf hg;simp [fp_2 h0]
   . simp at hf hg;subst hf hg;simp [fp_2 h0]
   . skip
     simp at hf hg;subst hf hg
     simp only [fp_2 h0,List.getElem?_cons_succ,List.getElem?_cons_zero,Nat.add_one_sub_one]
     congr 2
     rw [Int.add_emod_emod,Int.emod_add_emod,Int.add_assoc]
   . simp at hf hg;subst hf hg;simp [fp_2 h0]
   . simp at hf hg;subst hf hg;simp [fp_2 h0]
end
def lev (p:List Int):Nat:=p.length-1
structure Fits (xs:List (List Int)) (p:List Int):Prop where
 cnt:p.length=0\/p.length=2\/p.length=3\/p.length=4
 low:∀ f∈p,0<=f
 bel:∀ f∈p,∃ q,xs[f.toNat]?=some q/\lev q+1=lev p
 agr:3<=p.length->∀ (i j:Nat) (f g:Int) (q r:List Int),i<j->p[j]?=some f->p[i]?=some g->xs[f.toNat]?=some q->xs[g.toNat]?=some r->q[i]?=r[j-1]?
def IsShape (xs:List (List Int)):Prop:=∀ (k:Nat) (p:List Int),xs[k]?=some p->Fits (xs.take k) p
def Ord (fam:Int) (ws:List (List Int)):Prop:=∀ (k:Nat) (w:List Int),ws[k]?=some w->Word fam w/\∀ f∈Ah w fam,f∈ws.take k
theorem Ord.nil {fam:Int}:Ord fam []:=fun k w h=>by simp at h
theorem Ord.snoc {fam:Int}{ws:List (List Int)}{w:List Int} (h:Ord fam ws) (hw:Word fam w) (hf:∀ f∈Ah w fam,f∈ws):Ord fam (ws++[w]):=by
 intro k v hk
 by_cases hlt:k<ws.length
 . rw [List.getElem?_append_left hlt] at hk
   rw [List.take_append_of_le_length (by omega)]
   exact h k v hk
 . have hk':k<(ws++[w]).length:=(List.getElem?_eq_some_iff.mp hk).1
   have e:k=ws.length:=by simp at hk';omega
   subst e
   simp at hk
   subst hk
   rw [List.take_append_of_le_length (Nat.le_refl _),List.take_length]
   exact ⟨hw,hf⟩
theorem Ord.mem {fam:Int}{ws:List (List Int)} (h:Ord fam ws) {w:List Int} (hw:w∈ws):Word fam w/\∀ f∈Ah w fam,f∈ws:=by
 obtain⟨k,hk⟩:=List.getElem?_of_mem hw
 obtain⟨h1,h2⟩:=h k w hk
 exact ⟨h1,fun f hf=>List.mem_of_mem_take (h2 f hf)⟩
def Cz (ws:List (List Int)):List (List Int)->List (List Int)
 | []=>ws
 | w::r=>Cz (if w∈ws then ws else ws++[w]) r
theorem M0:∀ (rows ws:List (List Int)),(Cz ws rows).length<=ws.length+rows.length
 | [],ws=>by simp [Cz]
 | w::r,ws=>by
   have h1:=M0 r (if w∈ws then ws else ws++[w])
   have h2:(if w∈ws then ws else ws++[w]).length<=ws.length+1:=by
    split
    . omega
    . simp
   simp only [Cz,List.length_cons]
   omega
theorem Mz {fam:Int}:∀ (rows ws:List (List Int)),Ord fam ws->(∀ (k:Nat) (w:List Int),rows[k]?=some w->Word fam w/\∀ f∈Ah w fam,f∈ws\/f∈rows.take k)->Ord fam (Cz ws rows)
 | [],ws,h,_=>h
 | w::r,ws,h,hr=>by
   have h0:=hr 0 w rfl
   have hw:∀ f∈Ah w fam,f∈ws:=fun f hf=>(h0.2 f hf).resolve_right (by simp)
   simp only [Cz]
   refine Mz r _ ?_ fun k v hk=>?_
   . split
     . exact h
     . exact h.snoc h0.1 hw
   . obtain⟨h1,h2⟩:=hr (k+1) v (by simpa using hk)
     refine⟨h1,fun f hf=>?_⟩
     rcases h2 f hf with z | z
     . left
       split
       . exact z
       . exact List.mem_append_left _ z
     . rw [List.take_succ_cons] at z
       rcases List.mem_cons.mp z with z | z
       . left
         subst z
         split
         . assumption
         . simp
       . exact .inr z
def Bz (ws:List (List Int)):List (List Int)->List (List Int)->List (List Int)
 | acc,[]=>acc
 | acc,f::r=>Bz ws (if f ∉ ws/\f ∉ acc then acc++[f] else acc) r
theorem Mx {ws:List (List Int)}{x:List Int}:∀ (fs acc:List (List Int)),x∈Bz ws acc fs->x∈acc\/x∈fs
 | [],acc,h=>.inl h
 | f::r,acc,h=>by
   rcases Mx r _ h with z | z
   . split at z
     . rcases List.mem_append.mp z with z | z
       . exact .inl z
       . exact .inr (by simp at z;simp [z])
     . exact .inl z
   . exact .inr (List.mem_cons_of_mem _ z)
theorem G6 {ws:List (List Int)}{x:List Int}:∀ (fs acc:List (List Int)),x∈acc->x∈Bz ws acc fs
 | [],acc,h=>h
 | f::r,acc,h=>G6 r _ (by split;exact List.mem_append_left _ h;exact h)
theorem My {ws:List (List Int)}{x:List Int}:∀ (fs acc:List (List Int)),x∈fs->x∈ws\/x∈Bz ws acc fs
 | f::r,acc,h=>by
   rcases List.mem_cons.mp h with e | e
   . subst e
     by_cases h1:x∈ws
     . exact .inl h1
     . right
       refine G6 r _ ?_
       by_cases h2:x∈acc
       . rw [if_neg (by simp [h2])];exact h2
       . rw [if_pos ⟨h1,h2⟩];simp
   . exact My r _ e
theorem Jr {ws:List (List Int)}:∀ (fs acc:List (List Int)),(Bz ws acc fs).length<=acc.length+fs.length
 | [],acc=>by simp [Bz]
 | f::r,acc=>by
   have h1:=Jr (ws:=ws) r (if f ∉ ws/\f ∉ acc then acc++[f] else acc)
   have h2:(if f ∉ ws/\f ∉ acc then acc++[f] else acc).length<=acc.length+1:=by
    split
    . simp
    . omega
   simp only [Bz,List.length_cons]
   omega
def Dd (ws:List (List Int)) (fam:Int):List (List Int)->List (List Int)->List (List Int)
 | acc,[]=>acc
 | acc,w::r=>Dd ws fam (Bz ws acc (Ah w fam)) r
theorem Ib {ws:List (List Int)}{fam:Int}{x:List Int}:∀ (l acc:List (List Int)),x∈Dd ws fam acc l->x∈acc\/∃ w∈l,x∈Ah w fam
 | [],acc,h=>.inl h
 | w::r,acc,h=>by
   rcases Ib r _ h with z|⟨v,hv,z⟩
   . rcases Mx _ _ z with z | z
     . exact .inl z
     . exact .inr ⟨w,List.mem_cons_self,z⟩
   . exact .inr ⟨v,List.mem_cons_of_mem _ hv,z⟩
theorem Mw {ws:List (List Int)}{fam:Int}{x:List Int}:∀ (l acc:List (List Int)),x∈acc->x∈Dd ws fam acc l
 | [],acc,h=>h
 | w::r,acc,h=>Mw r _ (G6 _ _ h)
theorem Rs {ws:List (List Int)}{fam:Int}{x w:List Int}:∀ (l acc:List (List Int)),w∈l->x∈Ah w fam->x∈ws\/x∈Dd ws fam acc l
 | v::r,acc,h,hx=>by
   rcases List.mem_cons.mp h with e | e
   . subst e
     rcases My (ws:=ws) _ acc hx with z | z
     . exact .inl z
     . exact .inr (Mw r _ z)
   . exact Rs r _ e hx
theorem Fo {ws:List (List Int)}{fam:Int}:∀ (l acc:List (List Int)),(∀ w∈l,Word fam w)->(Dd ws fam acc l).length<=acc.length+4*l.length
 | [],acc,_=>by simp [Dd]
 | w::r,acc,h=>by
   have h1:=Fo (ws:=ws) r (Bz ws acc (Ah w fam)) fun v hv=>h v (List.mem_cons_of_mem _ hv)
   have h2:=Jr (ws:=ws) (Ah w fam) acc
   have h3:=Eg (h w List.mem_cons_self)
   simp only [Dd,List.length_cons]
   split at h3<;>omega
theorem Le (ws:List (List Int)) (f:List Int):∀ (fs acc:List (List Int)),Bz ws acc (fs++[f])=(if f ∉ ws/\f ∉ Bz ws acc fs then Bz ws acc fs++[f] else Bz ws acc fs)
 | [],acc=>rfl
 | g::fs,acc=>Le ws f fs _
theorem Mv (ws:List (List Int)) (fam:Int) (w:List Int):∀ (l acc:List (List Int)),Dd ws fam acc (l++[w])=Bz ws (Dd ws fam acc l) (Ah w fam)
 | [],acc=>rfl
 | v::l,acc=>Mv ws fam w l _
theorem Lf (w:List Int):∀ (rows ws:List (List Int)),Cz ws (rows++[w])=(if w∈Cz ws rows then Cz ws rows else Cz ws rows++[w])
 | [],ws=>rfl
 | v::rows,ws=>Lf w rows _
def Hm (ws:List (List Int)) (fam:Int):Nat->List (List Int)->List (List Int)->List (List Int)
 | 0,layer,rows=>rows
 | n+1,layer,rows=>Hm ws fam n (Dd ws fam [] layer) (layer++rows)
theorem Qk {ws:List (List Int)}{fam:Int}:∀ (n:Nat) (layer rows:List (List Int)),(∀ w∈layer,Word fam w/\lv fam w<n) →
 (∀ (k:Nat) (w:List Int),rows[k]?=some w->Word fam w/\∀ f∈Ah w fam,f∈ws\/f∈layer\/f∈rows.take k) →
 ∀ (k:Nat) (w:List Int),(Hm ws fam n layer rows)[k]?=some w->Word fam w/\∀ f∈Ah w fam,f∈ws\/f∈(Hm ws fam n layer rows).take k
 | 0,layer,rows,hl,hr,k,w,hk=>by
   obtain⟨h1,h2⟩:=hr k w hk
   refine⟨h1,fun f hf=>?_⟩
   rcases h2 f hf with z | z | z
   . exact .inl z
   . exact absurd (hl f z).2 (by omega)
   . exact .inr z
 | n+1,layer,rows,hl,hr,k,w,hk=>by
   refine Qk n _ _ ?_ ?_ k w hk
   . intro v hv
     rcases Ib _ _ hv with z|⟨u,hu,z⟩
     . exact nomatch z
     . obtain⟨q1,q2⟩:=hl u hu
       obtain⟨q3,q4⟩:=Ft q1 z
       exact ⟨q3,by omega⟩
   . intro m v hm
     by_cases hlt:m<layer.length
     . rw [List.getElem?_append_left hlt] at hm
       have hv:v∈layer:=List.mem_of_getElem? hm
       refine⟨(hl v hv).1,fun f hf=>?_⟩
       rcases Rs (ws:=ws) layer [] hv hf with z | z
       . exact .inl z
       . exact .inr (.inl z)
     . rw [List.getElem?_append_right (by omega)] at hm
       obtain⟨h1,h2⟩:=hr _ v hm
       refine⟨h1,fun f hf=>?_⟩
       rcases h2 f hf with z | z | z
       . exact .inl z
       . right;right
         rw [List.take_append]
         refine List.mem_append_left _ ?_
         rw [List.take_of_length_le (by omega)]
         exact z
       . right;right
         rw [List.take_append]
         exact List.mem_append_right _ z
def G7 (ws:List (List Int)) (w:List Int) (fam:Int):List (List Int):=Cz ws (Hm ws fam 4 [w] [])
theorem M4 {ws:List (List Int)}{w:List Int}{fam:Int} (h:Ord fam ws) (hw:Word fam w):Ord fam (G7 ws w fam):=by
 refine Mz _ _ h (Qk 4 [w] [] ?_ ?_)
 . intro v hv
   have e:v=w:=by simpa using hv
   subst e
   exact ⟨hw,by have:=(Eg hw).2;omega⟩
 . intro k v hk
   simp at hk
def idx (ws:List (List Int)) (f:List Int):Nat:=ws.findIdx (·==f)
theorem Z0 {ws:List (List Int)}{f:List Int} (h:f∈ws):ws[idx ws f]?=some f:=by
 unfold idx
 have hl:ws.findIdx (·==f)<ws.length:=List.findIdx_lt_length_of_exists ⟨f,h,by simp⟩
 rw [List.getElem?_eq_getElem hl]
 have:=List.findIdx_getElem (xs:=ws) (p:=(·==f)) (w:=hl)
 simpa using this
theorem p6 {ws:List (List Int)}{f:List Int}{k:Nat} (h:f∈ws.take k):idx ws f<k:=by
 unfold idx
 obtain⟨i,hi⟩:=List.getElem?_of_mem h
 have hlt:i<(ws.take k).length:=(List.getElem?_eq_some_iff.mp hi).1
 rw [List.getElem?_take] at hi
 split at hi
 . rename_i hik
   have hl:i<ws.length:=(List.getElem?_eq_some_iff.mp hi).1
   have e:ws[i]=f:=by
    rw [List.getElem?_eq_getElem hl] at hi
    exact Option.some.inj hi
   have hle:ws.findIdx (·==f)<=i:=by
    apply Nat.le_of_not_lt
    intro hgt
    have:=List.not_of_lt_findIdx hgt
    simp [e] at this
   omega
 . cases hi
def Gh (ws:List (List Int)) (fam:Int):List (List Int):=ws.map fun w=>(Ah w fam).map fun f=>(idx ws f:Int)
theorem Sb {ws:List (List Int)}{fam:Int}{k:Nat}{w:List Int} (h:ws[k]?=some w):(Gh ws fam)[k]?=some ((Ah w fam).map fun f=>(idx ws f:Int)):=by
 unfold Gh
 rw [List.getElem?_map,h]
 rfl
theorem Nh {ws:List (List Int)}{fam:Int} (h:Ord fam ws):IsShape (Gh ws fam):=by
 intro k p hp
 unfold Gh at hp
 rw [List.getElem?_map] at hp
 cases hw:ws[k]? with
 | none=>rw [hw] at hp;cases hp
 | some w =>
   rw [hw] at hp
   have hp':(Ah w fam).map (fun f=>(idx ws f:Int))=p:=by simpa using hp
   subst hp'
   obtain⟨h1,h2⟩:=h k w hw
   obtain⟨n1,n2⟩:=Eg h1
   have look:∀ f∈Ah w fam,((Gh ws fam).take k)[((idx ws f:Nat):Int).toNat]?=some ((Ah f fam).map fun g=>(idx ws g:Int)):=fun f hf=>by
    have hm:=h2 f hf
    have hlt:=p6 hm
    rw [Int.toNat_natCast,List.getElem?_take,if_pos hlt]
    exact Sb (Z0 (List.mem_of_mem_take hm))
   refine⟨?_,?_,?_,?_⟩
   . rw [List.length_map]
     by_cases hz:lv fam w=0
     . rw [if_pos hz] at n1;omega
     . rw [if_neg hz] at n1;omega
   . intro f hf
     obtain⟨g,_,rfl⟩:=List.mem_map.mp hf
     omega
   . intro f hf
     obtain⟨g,hg,rfl⟩:=List.mem_map.mp hf
     refine⟨_,look g hg,?_⟩
     obtain⟨w1,l1⟩:=Ft h1 hg
     obtain⟨m1,_⟩:=Eg w1
     unfold lev
     rw [List.length_map,List.length_map]
     have hz:¬lv fam w=0:=by omega
     rw [if_neg hz] at n1
     by_cases hy:lv fam g=0
     . rw [if_pos hy] at m1;omega
     . rw [if_neg hy] at m1;omega
   . intro hl i j f g q r hij hf hg hq hr
     rw [List.length_map] at hl
     rw [List.getElem?_map] at hf hg
     cases ef:(Ah w fam)[j]? with
     | none=>rw [ef] at hf;cases hf
     | some F =>
       cases eg:(Ah w fam)[i]? with
       | none=>rw [eg] at hg;cases hg
       | some G =>
         rw [ef] at hf
         rw [eg] at hg
         have ef':((idx ws F:Nat):Int)=f:=by simpa using hf
         have eg':((idx ws G:Nat):Int)=g:=by simpa using hg
         subst ef' eg'
         rw [look F (List.mem_of_getElem? ef)] at hq
         rw [look G (List.mem_of_getElem? eg)] at hr
         cases hq
         cases hr
         have hz:¬lv fam w=0:=by intro z;rw [if_pos z] at n1;omega
         rw [if_neg hz] at n1
         rw [List.getElem?_map,List.getElem?_map,S6 h1 (by omega) hij ef eg]
theorem Up {ws:List (List Int)}{fam:Int}{w:List Int} (hw:Word fam w):(Hm ws fam 4 [w] []).length<=85:=by
 have step:∀ l:List (List Int),(∀ v∈l,Word fam v)->(Dd ws fam [] l).length<=4*l.length/\∀ v∈Dd ws fam [] l,Word fam v:=fun l hl=>by
  refine⟨by have:=Fo (ws:=ws) l [] hl;simpa using this,fun v hv=>?_⟩
  rcases Ib _ _ hv with z|⟨u,hu,z⟩
  . exact nomatch z
  . exact (Ft (hl u hu) z).1
 have s0:∀ v∈[w],Word fam v:=fun v hv=>by
  have e:v=w:=by simpa using hv
  subst e;exact hw
 obtain⟨a1,b1⟩:=step _ s0
 obtain⟨a2,b2⟩:=step _ b1
 obtain⟨a3,b3⟩:=step _ b2
 simp only [Hm,List.length_append,List.length_nil,List.length_cons] at a1 a2 a3 ⊢
 omega
end Hb
namespace Hb
def pc (xs:List (List Int)) (p:Int):List Int:=xs.getD p.toNat []
section
variable {xs:List (List Int)}
end
end Hb
namespace Hb
open PySem L2
def Hw (ns:List Int) (k:Int):Int:=ns.getD k.toNat 0
abbrev LT (K:W.Frag) (H:Hp) (v:V) (xs:List (List Int)):Prop:=Rep K H v (.lst (xs.map tI))
abbrev TI (K:W.Frag) (H:Hp) (v:V) (ns:List Int):Prop:=Rep K H v (tI ns)
section
variable {K:W.Frag}{H H':Hp}
theorem TI.sq {v:V}{ns:List Int} (h:TI K H v ns):∃ a,v=.ref a/\SqT K H a (ns.map V.int):=by
 obtain⟨a,vs,e,q,r⟩:=h
 rw [Dw.mp r] at q
 exact ⟨a,e,q⟩
theorem TI.mk {a:Addr}{ns:List Int} (h:SqT K H a (ns.map V.int)):TI K H (.ref a) ns:=⟨a,_,rfl,h,Dw.mpr rfl⟩
theorem TI.same {v:V}{ns:List Int} (s:Same H H') (h:TI K H v ns):TI K H' v ns:=Rep.same s h
theorem TI.t {v:V}{ns:List Int} (s:O3 H H') (h:TI K H v ns):TI K H' v ns:=Rep.t s (Yv ns) h
theorem Hu (xs:List V) (k:Nat):cutV xs none (some (k:Int))=xs.take k:=by
 unfold cutV
 rw [HT.sIx_none,HT.sIx_nat,Nat.sub_zero,List.drop_zero,List.take_eq_take_iff]
 omega
theorem Hv (xs:List V) (k:Nat):cutV xs (some (k:Int)) none=xs.drop k:=by
 unfold cutV
 rw [HT.sIx_none,HT.sIx_nat]
 by_cases h:k<=xs.length
 . rw [Nat.min_eq_left h,List.take_of_length_le (by rw [List.length_drop];omega)]
 . rw [Nat.min_eq_right (by omega),List.drop_length,List.drop_of_length_le (by omega)]
   simp
theorem Vi {D:Addr}{ys:List V}{v:V}{d:L2.D}{ds:List L2.D} (hD:H D=some (.lst ys)) (r:Reps K H ys ds) (rv:Rep K H v d) (hi:imms (ds++[d])=true):Reps K (upd H D (.lst (ys++[v]))) (ys++[v]) (ds++[d]) :=
 (r.snoc rv).t (O3.lst hD) hi
theorem D5 {D:Addr}{ys:List V}{v:V}{xs:List (List Int)}{x:List Int} (hD:H D=some (.lst ys)) (r:Reps K H ys (xs.map tI)) (rv:TI K H v x):Reps K (upd H D (.lst (ys++[v]))) (ys++[v]) ((xs++[x]).map tI):=by
 have e:(xs++[x]).map tI=xs.map tI++[tI x]:=by simp
 have h:=Oi (xs++[x])
 rw [e] at h ⊢
 exact Vi hD r rv h
def Lg (B:Addr) (H H':Hp):Prop:=∀ b o,b≠B->H b=some o->H' b=some o
theorem Lg.refl (B:Addr) (H:Hp):Lg B H H:=fun _ _ _ h=>h
theorem Lg.upd {B:Addr}{H H1:Hp}{o:HO} (a:Lg B H H1):Lg B H (upd H1 B o):=fun c u n h=>by rw [A7 n];exact a c u n h
theorem Lg.t {B:Addr}{H H1:Hp}{us:List V} (a:Lg B H H1) (h:H B=some (.lst us)):O3 H H1 :=
 ⟨fun b xs e=>a b _ (V0 e h (by intro z;cases z)) e,fun b o u e=>a b _ (V0 e h (by intro z;cases z)) e⟩
theorem Lg.same {B:Addr}{H0 H H1:Hp} (a:Lg B H H1) (s:Same H0 H) (h:H0 B=none):Same H0 H1:=fun b o e=>a b o (Bm e h) (s b o e)
theorem Ht:∀ ns:List Int,deps (nums ns)=0
 | []=>rfl
 | n::ns=>by show max (dep (.int n)) (deps (nums ns))=0;rw [Ht ns];rfl
theorem Hs:∀ xs:List (List Int),deps (xs.map tI)<=1
 | []=>Nat.zero_le _
 | x::xs=>by
   have h1:=Hs xs
   have h2:dep (tI x)=1:=by show deps (nums x)+1=1;rw [Ht]
   show max (dep (tI x)) (deps (xs.map tI))<=1
   omega
theorem Lb (f:List Int):∀ xs:List (List Int),(xs.map tI).any (fun e=>eqD e (tI f))=decide (f∈xs)
 | []=>rfl
 | x::xs=>by
   rw [List.map_cons,List.any_cons,Lb f xs,Yw]
   by_cases h:x=f
   . subst h;simp
   . have h':¬f=x:=fun z=>h z.symm
     simp [h,h']
theorem ifP {c A B:Prop} [Decidable c] (hc:c) (h:A):if c then A else B:=by rw [if_pos hc];exact h
theorem ifN {c A B:Prop} [Decidable c] (hc:¬c) (h:B):if c then A else B:=by rw [if_neg hc];exact h
theorem neI {a b:Int} (h:¬a=b):(!decide (V.int a=V.int b))=true:=by simp [h]
theorem eqI {a b:Int} (h:a=b):¬(!decide (V.int a=V.int b))=true:=by simp [h]
theorem B2 {g:TG}{te:TE}{D:Addr}{Q:Hp->Prop}{τ:St}{H:Hp}{K:W.Frag}{a:Addr}{xs:List V} (Pv:Nat->List V->St->Hp->Prop) (h0:Pv 0 [] τ H) (hl:∀ i ys τ H,i<=xs.length->Pv i ys τ H->SqL K H a xs)
 (hs:∀ i x ys τ H,xs[i]?=some x->Pv i ys τ H->g x τ H fun τ2 H2=>te τ2 H2 fun y H4=>H4 D=some (.lst ys)/\ys.length<sizeLine/\Pv (i+1) (ys++[y]) τ2 (upd H4 D (.lst (ys++[y]))))
 (hd:∀ ys τ H,Pv xs.length ys τ H->Q H):RunC (Itl K a) g tYes te D Q τ H:=Wr Pv h0 hl (fun i x ys τ H e p=>hs i x ys τ H e p) hd
theorem K5 {g:TG}{te:TE}{D:Addr}{Q:Hp->Prop}{τ:St}{H:Hp}{K:W.Frag}{a:Addr}{xs:List V} (Pv:Nat->List V->St->Hp->Prop) (h0:Pv 0 [] τ H) (hl:∀ i ys τ H,i<=xs.length->Pv i ys τ H->SqT K H a xs)
 (hs:∀ i x ys τ H,xs[i]?=some x->Pv i ys τ H->g x τ H fun τ2 H2=>te τ2 H2 fun y H4=>H4 D=some (.lst ys)/\ys.length<sizeLine/\Pv (i+1) (ys++[y]) τ2 (upd H4 D (.lst (ys++[y]))))
 (hd:∀ ys τ H,Pv xs.length ys τ H->Q H):RunC (Itt K a) g tYes te D Q τ H:=Yj Pv h0 hl (fun i x ys τ H e p=>hs i x ys τ H e p) hd
theorem Te {g:TG}{te:TE}{D:Addr}{Q:Hp->Prop}{τ:St}{H:Hp}{lo:Int}{n:Nat} (Pv:Nat->List V->St->Hp->Prop) (h0:Pv 0 [] τ H)
 (hs:∀ i ys τ H,i<n->Pv i ys τ H->g (.int (lo+i)) τ H fun τ2 H2=>te τ2 H2 fun y H4=>H4 D=some (.lst ys)/\ys.length<sizeLine/\Pv (i+1) (ys++[y]) τ2 (upd H4 D (.lst (ys++[y]))))
 (hd:∀ ys τ H,Pv n ys τ H->Q H):RunC (Itr lo n) g tYes te D Q τ H:=Jn Pv h0 (fun i ys τ H e p=>hs i ys τ H e p) hd
theorem Ax {t u:TS}{D:Ends}{σ:St}{H:Hp} (P:St->Hp->Prop) (hu:∀ σ' H',P σ' H'->u D σ' H') (h:∀{N:St->Hp->Prop},(∀ σ' H',P σ' H'->N σ' H')->t { D with nx:=N } σ H):tSeq t u D σ H:=h hu
theorem Ka {t u:TS}{D:Ends}{σ:St}{H:Hp} (P:St->Hp->Prop) (hu:∀ σ' H',P σ' H'->u D σ' H') (h:(∀ σ' H',P σ' H'->u D σ' H')->tSeq t u D σ H):tSeq t u D σ H:=h hu
theorem Uu {f:List Int}:∀{ws:List (List Int)},f∈ws->(ws.map tI).findIdx? (fun e=>eqD e (tI f))=some (idx ws f):=fun {ws} h=>by
 have e:(ws.map tI).findIdx? (fun e=>eqD e (tI f))=ws.findIdx? (fun w=>w==f):=by
  rw [List.findIdx?_map]
  congr 1
  funext w
  show eqD (tI w) (tI f)=(w==f)
  rw [Yw]
  by_cases z:w=f
  . subst z;simp
  . simp [z]
 rw [e,List.findIdx?_eq_some_of_exists (xs:=ws) (p:=fun w=>w==f) ⟨f,h,by simp⟩]
 rfl
theorem small {n:Nat} (h:n<=1000000):n<sizeLine:=Nat.lt_of_le_of_lt h (by decide)
theorem A4 {n:Nat} (h:n<=1000000):n<=sizeLine:=Nat.le_of_lt (small h)
end
section
variable (K:W.Frag)
def Ui:Sp:=fun vs H Q _=>∃ (a:Addr) (ns:List Int) (k:Int),vs=[.ref a,.int k]/\SqL K H a (ns.map V.int)/\0<=k/\ns.length<=63/\Q (.int (Hw ns k)) H
def R7:Sp:=fun vs H Q _=>∃ (v:V) (w:List Int) (fam:Int),vs=[v,.int fam]/\TI K H v w/\Word fam w ∧
 ∀ (p:Addr) (us:List V) (H':Hp),H p=none->Same H H'->H' p=some (.lst us)->Reps K H' us ((Ah w fam).map tI)->Q (.ref p) H'
def Ug:Sp:=fun vs H Q _=>∃ (c fam letters:Int),vs=[.int c,.int fam,.int letters]/\0<letters/\letters<100/\fam<100 ∧
 ∀ (v:V) (H':Hp) (w:List Int),Same H H'->TI K H' v w->Word fam w->Q v H'
def M9:Sp:=fun vs H Q _=>∃ (l:Addr) (us:List V) (v:V) (ws:List (List Int)) (w:List Int) (fam:Int),vs=[.ref l,v,.int fam]/\H l=some (.lst us)/\Reps K H us (ws.map tI)/\TI K H v w/\Word fam w/\ws.length<=100 ∧
 ∀ (p:Addr) (us':List V) (H':Hp),H p=none->Same H H'->H' p=some (.lst us')->Reps K H' us' ((G7 ws w fam).map tI)->Q (.ref p) H'
def Tn:Sp:=fun vs H Q _=>∃ (a:Addr) (ns:List Int),vs=[.ref a]/\SqL K H a (ns.map V.int)/\ns.length<=63/\∀ H',Q (.bl true) H'
def R6:Sp:=fun vs H Q _=>∃ (a:Addr) (ns:List Int) (kind most:Int),vs=[.int kind,.ref a,.int most]/\SqL K H a (ns.map V.int)/\ns.length<=63/\0<=most/\most<=100 ∧
 ∀ (p:Addr) (us:List V) (H':Hp) (xs:List (List Int)),H p=none->Same H H'->H' p=some (.lst us)->Reps K H' us (xs.map tI)->IsShape xs->(xs.length:Int)<=most->Q (.ref p) H'
end
end Hb
namespace Hb
open PySem L2
def J9 (d:L2.D):Bool:=isD "int" d&&!isD "bool" d
def Ca (d:L2.D) (b:Int):Bool:=match d with
 | .int i=>decide (0<=i)&&decide (i<b)
 | _=>false
def levI (n:Nat):Int:=if (0:Int) > (n:Int)-1 then 0 else (n:Int)-1
def De (xs:List (List Int)) (d:L2.D) (l:Int):Bool:=match d with
 | .int i=>decide (0<=i)&&decide (i<(xs.length:Int))&&decide (levI (xs.getD i.toNat []).length=l)
 | _=>false
section
variable (K:W.Frag)
def Gg:Sp:=fun vs H Q _=>∃ (x:V) (d:L2.D),vs=[x]/\Rep K H x d/\Q (.bl (J9 d)) H
def By:Sp:=fun vs H Q _=>∃ (x:V) (d:L2.D) (b:Int),vs=[x,.int b]/\Rep K H x d/\Q (.bl (Ca d b)) H
def Ej:Sp:=fun vs H Q _=>∃ (x:V) (ds:List L2.D),vs=[x]/\SeqD K H x ds/\Q (.int (levI ds.length)) H
def Ce:Sp:=fun vs H Q _=>∃ (a:Addr) (x:V) (d:L2.D) (l:Int) (xs:List (List Int)),vs=[.ref a,x,.int l]/\LT K H (.ref a) xs/\Rep K H x d/\Q (.bl (De xs d l)) H
abbrev E9:Sp:=Ui K
abbrev Dk:Sp:=R7 K
abbrev E8:Sp:=Ug K
abbrev Dv:Sp:=M9 K
abbrev El:Sp:=R6 K
end
section
variable {K:W.Frag}{H:Hp}
theorem Uc {d:L2.D} (h:J9 d=true):∃ i,d=.int i:=by
 cases d<;>simp [J9,isD] at h
 exact ⟨_,rfl⟩
theorem LT.get {a:Addr}{xs:List (List Int)}{i:Int} (h:LT K H (.ref a) xs) (h0:0<=i) (h1:i<(xs.length:Int)):∃ us v,SqL K H a us/\atI us i=some v/\TI K H v (xs.getD i.toNat []):=by
 obtain⟨a',us,e,hq,r⟩:=h
 cases e
 obtain⟨j,rfl⟩:=Int.eq_ofNat_of_zero_le h0
 have hj:j<xs.length:=by omega
 have e:(xs.map tI)[j]?=some (tI xs[j]):=by rw [List.getElem?_map,List.getElem?_eq_getElem hj];rfl
 obtain⟨v,hv,tv⟩:=r.get e
 refine⟨us,v,hq,Bg hv,?_⟩
 rw [Int.toNat_natCast,List.getD_eq_getElem?_getD,List.getElem?_eq_getElem hj]
 exact tv
theorem LT.len {a:Addr}{xs:List (List Int)} (h:LT K H (.ref a) xs):∃ us,SqL K H a us/\us.length=xs.length:=by
 obtain⟨a',us,e,hq,r⟩:=h
 cases e
 exact ⟨us,hq,by have:=r.length;simpa using this⟩
end
end Hb
namespace L2
open PySem PySem.Spec PyProof.Rows
section
variable {X:Cx}{sc:Scope}{N':List Str}{cap:List (Option Nat)}{xc:Str}{Ab:List (Addr × Obj)}{σ:St}{H:Hp}{s:Shared}{C c:Addr}{fp:List Addr}
end
section
variable {X:Cx}{sc:Scope}{N':List Str}{cap:List (Option Nat)}{xc:Str}{tg elt iter:Expr}{ifs:List Expr}{pos:Pos}{g:TG}{tc:TT}{te:TE}
end
end L2
namespace Hb
open PySem L2
section
variable {H H1:Hp}{a:Addr}{ms:Ms}{k v:Int}
theorem Z4 (rd:Rd H a (.dK (cK ms))) (h:Oa ms k=some v):DGet H a (.int k) (some (.int v)):=.inl ⟨cK ms,.inl k,rd,rfl,by rw [r9,h];rfl⟩
theorem t7:(cK ms).length=ms.length:=by unfold cK;rw [List.length_map]
end
def newC (H:Hp) (ms:Ms) (Q:V->Hp->Prop):Prop:=∀ (D:Addr) (H':Hp),H D=none->Same H H'->H' D=some (.dK (cK ms))->Q (.ref D) H'
section
variable (K:W.Frag)
end
end Hb
namespace L2
open PySem PySem.Spec PyProof.Rows
structure J6 (k:Nat) (A:Around):Prop where
 dp:A.depth+3*k+5<recursionLimit
 un:A.units+16*k+200<cLine
theorem J6.mono {j k:Nat}{A:Around} (r:J6 k A) (h:j<=k):J6 j A:=⟨by have:=r.dp;omega,by have:=r.un;omega⟩
theorem J6.deeper {k:Nat}{A:Around} (r:J6 (k+1) A) (env:Env):J6 k (A.deeper env) :=
 ⟨by have:=r.dp;show A.depth+1+3*k+5<_;omega,by have:=r.un;show A.units+3+16*k+200<_;omega⟩
theorem J6.depth {k:Nat}{A:Around} (r:J6 k A):A.depth<recursionLimit:=by have:=r.dp;omega
theorem Room.n {k:Nat}{A:Around}{v:Option Value} (r:Room k A):J6 k (A.mark v):=⟨r.dp,r.un⟩
abbrev cxN (P:Program) (w:World) (K:W.Frag) (mg:Str->Option Value) (base:Heap) (N:List Str) (qual:Str) (scope:Scope) (f:Addr) (cd:Value) (A:Around) (outer:List Env) (s:Shared) (H:Hp) (E:XK):Cx :=
 { cxOf CX0 P w K mg base N qual scope f cd A outer s H E with calm:=false,xe:=fun _ _=>False }
section
variable {P:Program}{w:World}{K:W.Frag}{mg:Str->Option Value}{base:Heap}
theorem Ut {N ps:List Str}{qual:Str}{scope:Scope}{f:Addr}{cd:Value}{A:Around}{outer:List Env}{s s1:Shared}{H:Hp}{E:XK}{us:List Value}{vs:List V}
 (S:FnScope N ps scope) (e0:Env0 P w K mg base A outer s H) (hl:vs.length=ps.length) (r:Vals vs us)
 (x:InCallC s s.heap.objs.size (bindL (envOfC qual scope s.heap.objs.size f cd).kindOf (ps.zip us) fun _=>none) (cellsFrom (s.heap.objs.size+1) scope.names []) (bindC (envOfC qual scope s.heap.objs.size f cd).kindOf (ps.zip us) fun _=>none) s1) :
 Inv (cxN P w K mg base N qual scope f cd A outer s H E) [] (start N vs) H s1:=by
 have e1:Env0 P w K mg base ({ A with handled:=none }) outer s H:=⟨e0.frames,e0.mod,e0.bs,e0.bsz,e0.funs,e0.frf,e0.hok,e0.bare⟩
 have I:=Qx (CX:=CX0) (E:=E) (A:={ A with handled:=none }) (cd:=cd) (f:=f) (qual:=qual) S rfl e1 hl r x
 exact ⟨⟨I.ok.mod,I.ok.kind,I.ok.glob,I.ok.blt,I.ok.above,I.ok.inj,I.ok.has,I.ok.cab,fun z=>Bool.noConfusion z,Around.frames_deeper e0.frames,I.ok.stk,I.ok.exf,I.ok.bs,I.ok.bsz,I.ok.noex,I.ok.exfs,I.ok.funs,I.ok.frf⟩,I.os,I.bare,I.base,I.loc,I.cell,I.free,I.freeC,I.pin,I.hok,I.len⟩
end
section
variable {X:Cx}{x:Str}{ps:List Str}{j k:Nat}{sp:Sp}{p pos:Pos}{e:Expr}{es:List Expr}{t:TA}
theorem Ev:bootBuiltins "ValueError"=some (.type "ValueError"):=by decide +kernel
end
end L2
namespace L2
open PySem PySem.Spec PyProof.Rows
theorem Hh {α β:Type}{F:α->β->Prop}:∀{l:List α}{m:List β},l.length=m.length->(∀ (i:Nat) (x:α) (y:β),l[i]?=some x->m[i]?=some y->F x y)->Paired F l m
 | [],[],_,_=>.nil
 | [],_::_,h,_=>by simp at h
 | _::_,[],h,_=>by simp at h
 | x::l,y::m,h,f=>.cons (f 0 x y rfl rfl) (Hh (by simpa using h) fun i a b ha hb=>f (i+1) a b (by simpa using ha) (by simpa using hb))
def upN (n:Nat):List Int:=(List.range n).map fun (i:Nat)=>(i:Int)
theorem Ih (n:Nat):(upN n).length=n:=by simp [upN]
theorem R3 {n i:Nat} (h:i<n):(upN n)[i]?=some (i:Int):=by
 unfold upN
 rw [List.getElem?_map,List.getElem?_range h]
 rfl
def w9 (ta:TA):TE:=fun σ H Q=>ta σ H fun vs H1=>∃ n:Nat,vs=[.int (n:Int)]/\n<=1000000/\∀ l,H1 l=none->Q (.ref l) (upd H1 l (.lst ((upN n).map V.int)))
theorem Pw {X:Cx}{a:Expr}{ta:TA}{p q pos pos2:Pos} (hc:X.calm=true) (hg1:Gl X "list") (hm1:X.mg "list"=none) (hg2:Gl X "range") (hm2:X.mg "range"=none) (ha:PA X [a] ta)
 (hs:starEach [a] X.env=[(false,eval a X.env)]:=by rfl) (hs2:starEach [.Call (.Name "range" q) [a] [] pos2] X.env=[(false,eval (.Call (.Name "range" q) [a] [] pos2) X.env)]:=by rfl) :
 PE X (.Call (.Name "list" p) [.Call (.Name "range" q) [a] [] pos2] [] pos) (w9 ta):=by
 intro Ab s σ H Q I h
 refine Call_ (Hl I hg1 hm1 Dc (PyProof.Rows.callWith_type1 ?_ hs2 rfl))
 rw [hs2]
 refine Calls.spliced_cons ?_
 refine Call_ (Hl I hg2 hm2 boot_range (PyProof.Rows.callWith_type1 (thn (ha pos2 Ab s σ H _ I h) fun us s1 ⟨vs,H1,I1,r1,q1⟩=>?_) hs rfl))
 obtain⟨n,e,hn,q⟩:=q1
 subst e
 obtain⟨u,rfl,ru⟩:=Lo r1
 obtain⟨t,rfl⟩:=ru
 refine call_range_1 (Calls.spliced_nil ?_)
 have I2:=I1.kept (h':=s1.heap.push { cls:=.type "range",data:=.fields #[.int 0 s1.toks,.int (n:Int) t,.int 1 (s1.toks+1)] }) (t':=s1.toks+1+1) fun b o e=>Heap.get?_push_of_some _ e
 refine call_list_range (n:=n) (I2.ok.hd hc) (IsRange.new ..) (small_one (by decide) (by decide) (by omega) (by omega)) ?_ (by omega) fun h' tk acc' c' kp e it=>?_
 . rw [rangeSize_one]
   split<;>omega
 . obtain⟨sz,get⟩:=it
   have hf:=I2.hok.fresh (Nat.le_refl _)
   have hz:((upN n).map V.int).length<=sizeLine:=by rw [List.length_map,Ih,sizeLine_eq];omega
   have rel:Vals ((upN n).map V.int) acc'.toList:=by
    refine Hh ?_ ?_
    . rw [List.length_map,Ih];simpa using sz.symm
    . intro i x y hx hy
      have hi:i<n:=by
       have:=(List.getElem?_eq_some_iff.mp hx).1
       rwa [List.length_map,Ih] at this
      rw [List.getElem?_map,R3 hi] at hx
      cases hx
      obtain⟨t',rfl⟩:=get i y (by simpa using hy)
      exact ⟨t',by simp⟩
   refine⟨.ref _,_,I2.laid (t':=tk) kp (Nat.le_refl _) (show Dp X.prog X.w _ h' _ (.lst ((upN n).map V.int)) from ⟨hz,acc'.toList,c',rel,?_⟩),rfl,q _ hf⟩
   simpa using e
end L2
namespace Hb
end Hb
namespace Hb
open PySem L2
section
variable {K:W.Frag}{H:Hp}
end
section
variable (K:W.Frag)
end
end Hb
namespace L2
open PySem PySem.Spec PyProof.Rows PySem.SeqAt
section
variable {X:Cx}{n:Nat}{K:W.Frag}
end
end L2
namespace L2
open PySem PySem.Spec PyProof.Rows
section
variable {prog:Program}{w:World}{A:Around}{E:Value->Shared->Prop}{s:Shared}
theorem Fb {j t:Addr}{n:Nat}{vs:Array Value}{x:Value}{Q:Value->Shared->Prop} (g:s.heap.IsTupleIter j t n) (gt:s.heap.IsTuple t vs) (gx:vs[n]?=some x)
 (k:∀ h',h'.IsTupleIter j t (n+1)->Heap.SameBut j s.heap h'->Q x { s with heap:=h' }):wpAny (model prog w) A (Builtin.SmallTypes.nextOf (.ref j)) Q E s:=by
 obtain⟨o,q1,q2,q3⟩:=id g
 obtain⟨p,p1,_,m,p2⟩:=gt
 unfold Builtin.SmallTypes.nextOf;refine wpAny_bind (wpAny_callSpecial?_slot (name:=Str.ofString "__next__") g.typeIs F.slot_tuple_iterator_next (wpAny_call_entry F.slot_tuple_iterator_next g.typeIs F.entry_tuple_iterator_next ?_ (F.args_tuple_iterator_next_1 _)))
 show wpAny _ _ (field (.ref j) 0>>=_) _ _ s;refine wpAny_bind (wpAny_field q1 q3 (x:=.ref t) rfl ?_)
 show wpAny _ _ (if (Value.ref t==Value.none)=true then _ else _) _ _ s;rw [if_neg (show ¬((Value.ref t==Value.none)=true) from Bool.false_ne_true)]
 show wpAny _ _ (field (.ref j) 1>>=_) _ _ s;refine wpAny_bind (wpAny_field q1 q3 (x:=.int n 0) rfl ?_)
 show wpAny _ _ (seqItems? (.ref t)>>=_) _ _ s;refine wpAny_bind (wpAny_seqItems p1 p2 ?_)
 simp only [Int.toNat_natCast,gx]
 refine wpAny_bind (wpAny_setField q1 q3 (by simp) (wpAny_pure ⟨x,rfl,wpAny_pure (k _ ?_ (Heap.SameBut.update ..))⟩))
 exact ⟨_,Heap.get?_update_self _ q1 (Obj.isFreed_of_fields (Obj.data_mapFields q3 _)),(Obj.cls_mapFields ..).trans q2,by rw [Obj.data_mapFields q3];simp [rawInt]⟩
theorem L7 {j t:Addr}{n:Nat}{vs:Array Value}{Q:Value->Shared->Prop} (hn:A.handled=none) (g:s.heap.IsTupleIter j t n) (gt:s.heap.IsTuple t vs) (gx:vs[n]?=none)
 (k:∀ h' e,Heap.ExtBut j s.heap h'->(∃ o,h'.get? e=some o/\o.cls=.type "StopIteration")->E (.ref e) { s with heap:=h' }):wpAny (model prog w) A (Builtin.SmallTypes.nextOf (.ref j)) Q E s:=by
 obtain⟨o,q1,q2,q3⟩:=id g
 obtain⟨p,p1,_,m,p2⟩:=gt
 unfold Builtin.SmallTypes.nextOf;refine wpAny_bind (wpAny_callSpecial?_slot (name:=Str.ofString "__next__") g.typeIs F.slot_tuple_iterator_next (wpAny_call_entry F.slot_tuple_iterator_next g.typeIs F.entry_tuple_iterator_next ?_ (F.args_tuple_iterator_next_1 _)))
 show wpAny _ _ (field (.ref j) 0>>=_) _ _ s;refine wpAny_bind (wpAny_field q1 q3 (x:=.ref t) rfl ?_)
 show wpAny _ _ (if (Value.ref t==Value.none)=true then _ else _) _ _ s;rw [if_neg (show ¬((Value.ref t==Value.none)=true) from Bool.false_ne_true)]
 show wpAny _ _ (field (.ref j) 1>>=_) _ _ s;refine wpAny_bind (wpAny_field q1 q3 (x:=.int n 0) rfl ?_)
 show wpAny _ _ (seqItems? (.ref t)>>=_) _ _ s;refine wpAny_bind (wpAny_seqItems p1 p2 ?_)
 simp only [Int.toNat_natCast,gx]
 refine wpAny_bind (wpAny_rule (wpAny_bind (wpAny_setField q1 q3 (by simp) ?_)))
 show wpAny _ _ (newExc (.type "StopIteration") []>>=_) _ _ _;refine wpAny_bind ?_
 simp only [newExc,newTuple];refine wpAny_bind (wpAny_newObj_type ?_ (by size_fits))
 refine wpAny_bind (m:=firstArgMember _ _) (wpAny_of_eq (a:=Value.none) (by first | rfl | (simp only [firstArgMember];rfl)) ?_);refine wpAny_newObj_type ?_ (by size_fits)
 simp only [raiseNew];refine wpAny_bind (wpAny_handled ?_)
 first | rw [show A.in1.handled=none from hn] | rw [hn]
 refine wpAny_bind (wpAny_pure (wpAny_throw ?_));exact k _ _ (((Heap.SameBut.update ..).extBut.push _).push _) ⟨_,Heap.get?_push_size _ rfl,rfl⟩
theorem U1 {z a b i1 i2 t1 t2:Addr}{n m:Nat}{xs ys:Array Value}{x y u v:Value}{Q:Value->Shared->Prop} (D:ZipApart z a b i1 i2 t1 t2) (gz:IsZip s.heap z a b .none) (ga:IsPair s.heap a (.ref i1) (.ref i2)) (gb:IsPair s.heap b u v)
 (g1:s.heap.IsTupleIter i1 t1 n) (g2:s.heap.IsTupleIter i2 t2 m) (e1:s.heap.IsTuple t1 xs) (e2:s.heap.IsTuple t2 ys) (gx:xs[n]?=some x) (gy:ys[m]?=some y)
 (k:∀ h',IsZip h' z a b (rawInt s.heap.objs.size)->IsPair h' b x y->h'.IsTupleIter i1 t1 (n+1)->h'.IsTupleIter i2 t2 (m+1)->IsPair h' s.heap.objs.size x y->h'.objs.size=s.heap.objs.size+1 →
   (∀ c o,c≠z->c≠b->c≠i1->c≠i2->s.heap.get? c=some o->h'.get? c=some o)->Q (.ref s.heap.objs.size) { s with heap:=h' }) :
 wpAny (model prog w) A (Builtin.«zip.__next__» ⟨[.ref z],[]⟩) (fun fin s'=>∃ r,fin=.done (.ret r)/\Q r s') E s:=by
 show wpAny _ _ (field (.ref z) 2>>=_) _ _ _;refine wpAny_bind (wpAny_field gz rfl (x:=.bool false) rfl ?_)
 show wpAny _ _ (field (.ref z) 3>>=_) _ _ _;refine wpAny_bind (wpAny_field gz rfl (x:=.ref a) rfl ?_)
 refine wpAny_bind (wpAny_seqItems ga rfl ?_)
 show wpAny _ _ (Builtin.SmallTypes.ownedTupleIsFree (.ref z)>>=_) _ _ _;refine wpAny_bind ?_;unfold Builtin.SmallTypes.ownedTupleIsFree
 refine wpAny_bind (wpAny_field gz rfl (x:=.none) rfl (wpAny_pure ?_));simp only [if_true]
 refine wpAny_bind (wpAny_rule ?_);refine wpAny_bind (wpAny_field gz rfl (x:=.ref b) rfl ?_)
 refine wpAny_bind (wpAny_setField_rec gz (by simp) fun k1 gz1 w1=>?_)
 replace gz1:IsZip k1 z a b .ellipsis:=gz1
 refine wpAny_bind ?_;simp only [List.zipIdx_cons,List.zipIdx_nil,List.forIn_cons,List.forIn_nil]
 refine wpAny_bind (wpAny_bind (wpAny_onRaise ?_));show wpAny _ _ (Builtin.SmallTypes.nextOf (.ref i1)>>=_) _ _ _
 refine wpAny_bind (Fb (g1.extBut w1.extBut D.i1z) (e1.extBut w1.extBut D.l1z) gx fun k2 f1 w2=>wpAny_pure ?_)
 have gb2:IsPair k2 b u v:=w2.extBut _ _ D.TOi1 (w1.extBut _ _ D.TOz gb)
 refine wpAny_bind (wpAny_seqItems gb2 rfl ?_);refine wpAny_bind (wpAny_updateSeq_pair gb2 fun k3 gb3 w3=>?_)
 replace gb3:IsPair k3 b x v:=gb3
 refine wpAny_bind (wpAny_letGo (wpAny_pure ?_));refine wpAny_bind (wpAny_bind (wpAny_onRaise ?_));show wpAny _ _ (Builtin.SmallTypes.nextOf (.ref i2)>>=_) _ _ _
 refine wpAny_bind (Fb (((g2.extBut w1.extBut D.i2z).extBut w2.extBut D.i12.symm).extBut w3.extBut D.TOi2.symm) (((e2.extBut w1.extBut D.l2z).extBut w2.extBut D.l2i1).extBut w3.extBut D.l2TO) gy fun k4 f2 w4=>wpAny_pure ?_)
 have gb4:IsPair k4 b x v:=w4.extBut _ _ D.TOi2 gb3
 refine wpAny_bind (wpAny_seqItems gb4 rfl ?_);refine wpAny_bind (wpAny_updateSeq_pair gb4 fun k5 gb5 w5=>?_)
 replace gb5:IsPair k5 b x y:=gb5
 refine wpAny_bind (wpAny_letGo (wpAny_pure (wpAny_pure ?_)));refine wpAny_bind (wpAny_seqItems gb5 rfl ?_);refine wpAny_bind (wpAny_newTuple ?_)
 have sz:k5.objs.size=s.heap.objs.size:=by rw [w5.1,w4.1,w3.1,w2.1,w1.1]
 have gz5:IsZip k5 z a b .ellipsis:=w5.extBut _ _ D.TOz.symm (w4.extBut _ _ D.i2z.symm (w3.extBut _ _ D.TOz.symm (w2.extBut _ _ D.i1z.symm gz1)))
 have kp:∀ c o,c≠z->c≠b->c≠i1->c≠i2->s.heap.get? c=some o->k5.get? c=some o:=fun c o c1 c2 c3 c4 e=>w5.extBut _ _ c2 (w4.extBut _ _ c4 (w3.extBut _ _ c2 (w2.extBut _ _ c3 (w1.extBut _ _ c1 e))))
 have f15:k5.IsTupleIter i1 t1 (n+1):=((f1.extBut w3.extBut D.TOi1.symm).extBut w4.extBut D.i12).extBut w5.extBut D.TOi1.symm
 have f25:k5.IsTupleIter i2 t2 (m+1):=f2.extBut w5.extBut D.TOi2.symm
 have lz:z<k5.objs.size:=Heap.lt_size gz5
 show wpAny _ _ (Builtin.SmallTypes.ownedTupleHandOut (.ref z) (.ref k5.objs.size)>>=_) _ _ _;refine wpAny_bind ?_;unfold Builtin.SmallTypes.ownedTupleHandOut
 have gz6:IsZip (k5.push { cls:=.type "tuple",data:=.seq #[x,y] }) z a b .ellipsis:=Heap.get?_push_of_some _ gz5
 refine wpAny_bind (wpAny_setField_rec gz6 (by simp) fun k7 gz7 w7=>?_)
 replace gz7:IsZip k7 z a b (rawInt k5.objs.size):=gz7
 refine wpAny_setField_rec gz7 (by simp) fun k8 gz8 w8=>?_
 replace gz8:IsZip k8 z a b (rawInt k5.objs.size):=gz8
 have up:∀ c o,c≠z->k5.get? c=some o->k8.get? c=some o:=fun c o c1 e=>w8.extBut _ _ c1 (w7.extBut _ _ c1 (Heap.get?_push_of_some _ e))
 have gt:IsPair k8 k5.objs.size x y:=w8.extBut _ _ (Nat.ne_of_gt lz) (w7.extBut _ _ (Nat.ne_of_gt lz) (Heap.get?_push_size _ rfl))
 have s8:k8.objs.size=k5.objs.size+1:=by rw [w8.1,w7.1,Heap.size_push]
 rw [sz] at gz8 gt s8
 refine wpAny_pure ⟨_,rfl,?_⟩;show Q (.ref k5.objs.size) _;rw [sz]
 exact k k8 gz8 (up _ _ D.TOz gb5) (f15.at fun o e=>up _ o D.i1z e) (f25.at fun o e=>up _ o D.i2z e) gt s8 fun c o c1 c2 c3 c4 e=>up c o c1 (kp c o c1 c2 c3 c4 e)
theorem Xh {z a b i1 i2 t1 t2:Addr}{n m:Nat}{xs ys:Array Value}{u v:Value}{Q:PySem.Fin->Shared->Prop} (hn:A.handled=none) (D:ZipApart z a b i1 i2 t1 t2) (gz:IsZip s.heap z a b .none) (ga:IsPair s.heap a (.ref i1) (.ref i2)) (gb:IsPair s.heap b u v)
 (g1:s.heap.IsTupleIter i1 t1 n) (g2:s.heap.IsTupleIter i2 t2 m) (e1:s.heap.IsTuple t1 xs) (e2:s.heap.IsTuple t2 ys) (gx:xs[n]?=none)
 (k:∀ h' e,(∀ c o,c≠z->c≠b->c≠i1->c≠i2->s.heap.get? c=some o->h'.get? c=some o)->(∃ o,h'.get? e=some o/\o.cls=.type "StopIteration")->E (.ref e) { s with heap:=h' }) :
 wpAny (model prog w) A (Builtin.«zip.__next__» ⟨[.ref z],[]⟩) Q E s:=by
 show wpAny _ _ (field (.ref z) 2>>=_) _ _ _;refine wpAny_bind (wpAny_field gz rfl (x:=.bool false) rfl ?_)
 show wpAny _ _ (field (.ref z) 3>>=_) _ _ _;refine wpAny_bind (wpAny_field gz rfl (x:=.ref a) rfl ?_)
 refine wpAny_bind (wpAny_seqItems ga rfl ?_)
 show wpAny _ _ (Builtin.SmallTypes.ownedTupleIsFree (.ref z)>>=_) _ _ _;refine wpAny_bind ?_;unfold Builtin.SmallTypes.ownedTupleIsFree
 refine wpAny_bind (wpAny_field gz rfl (x:=.none) rfl (wpAny_pure ?_));simp only [if_true]
 refine wpAny_bind (wpAny_rule ?_);refine wpAny_bind (wpAny_field gz rfl (x:=.ref b) rfl ?_)
 refine wpAny_bind (wpAny_setField_rec gz (by simp) fun k1 gz1 w1=>?_)
 replace gz1:IsZip k1 z a b .ellipsis:=gz1
 refine wpAny_bind ?_;simp only [List.zipIdx_cons,List.zipIdx_nil,List.forIn_cons,List.forIn_nil]
 refine wpAny_bind (wpAny_bind (wpAny_onRaise ?_));show wpAny _ _ (Builtin.SmallTypes.nextOf (.ref i1)>>=_) _ _ _
 refine wpAny_bind (L7 hn (g1.extBut w1.extBut D.i1z) (e1.extBut w1.extBut D.l1z) gx fun k2 e w2 he=>?_)
 obtain⟨oe,ge,ce⟩:=he
 have gz2:IsZip k2 z a b .ellipsis:=w2 _ _ D.i1z.symm gz1
 have ne:e≠z:=fun q=>by subst q;rw [gz2] at ge;cases ge;simp at ce
 refine wpAny_setField_rec gz2 (by simp) fun k3 _ w3=>k k3 e (fun c o c1 _ c3 _ q=>w3.extBut _ _ c1 (w2 _ _ c3 (w1.extBut _ _ c1 q))) ⟨oe,w3.extBut _ _ ne ge,ce⟩
theorem L6 {z a b i1 i2 t1 t2:Addr}{n m:Nat}{xs ys:Array Value}{x y u v:Value}{Q:Option Value->Shared->Prop} (D:ZipApart z a b i1 i2 t1 t2) (gz:IsZip s.heap z a b .none) (ga:IsPair s.heap a (.ref i1) (.ref i2)) (gb:IsPair s.heap b u v)
 (g1:s.heap.IsTupleIter i1 t1 n) (g2:s.heap.IsTupleIter i2 t2 m) (e1:s.heap.IsTuple t1 xs) (e2:s.heap.IsTuple t2 ys) (gx:xs[n]?=some x) (gy:ys[m]?=some y)
 (k:∀ h',IsZip h' z a b (rawInt s.heap.objs.size)->IsPair h' b x y->h'.IsTupleIter i1 t1 (n+1)->h'.IsTupleIter i2 t2 (m+1)->IsPair h' s.heap.objs.size x y->h'.objs.size=s.heap.objs.size+1 →
   (∀ c o,c≠z->c≠b->c≠i1->c≠i2->s.heap.get? c=some o->h'.get? c=some o)->Q (some (.ref s.heap.objs.size)) { s with heap:=h' }):wpAny (model prog w) A (pyNext (.ref z)) Q E s:=by
 have ht:s.TypeIs (.ref z) "zip":=⟨_,gz,rfl⟩
 unfold pyNext
 exact wpAny_bind (wpAny_attempt (wpAny_callSpecial?_slot (name:=Str.ofString "__next__") ht F.slot_zip_next (wpAny_call_entry F.slot_zip_next ht F.entry_zip_next (U1 D gz ga gb g1 g2 e1 e2 gx gy fun h' a1 a2 a3 a4 a5 a6 a7=>wpAny_pure (k h' a1 a2 a3 a4 a5 a6 a7)) (F.args_zip_next_1 _))))
theorem N8 {z a b i1 i2 t1 t2:Addr}{n m:Nat}{xs ys:Array Value}{u v:Value}{Q:Option Value->Shared->Prop} (hn:A.handled=none) (D:ZipApart z a b i1 i2 t1 t2) (gz:IsZip s.heap z a b .none) (ga:IsPair s.heap a (.ref i1) (.ref i2)) (gb:IsPair s.heap b u v)
 (g1:s.heap.IsTupleIter i1 t1 n) (g2:s.heap.IsTupleIter i2 t2 m) (e1:s.heap.IsTuple t1 xs) (e2:s.heap.IsTuple t2 ys) (gx:xs[n]?=none)
 (k:∀ h',(∀ c o,c≠z->c≠b->c≠i1->c≠i2->s.heap.get? c=some o->h'.get? c=some o)->Q none { s with heap:=h' }):wpAny (model prog w) A (pyNext (.ref z)) Q E s:=by
 have ht:s.TypeIs (.ref z) "zip":=⟨_,gz,rfl⟩
 unfold pyNext
 refine wpAny_bind (wpAny_attempt (wpAny_callSpecial?_slot (name:=Str.ofString "__next__") ht F.slot_zip_next (wpAny_call_entry F.slot_zip_next ht F.entry_zip_next (Xh hn D gz ga gb g1 g2 e1 e2 gx fun h' e kp he=>?_) (F.args_zip_next_1 _))))
 obtain⟨o,q1,q2⟩:=he
 exact wpAny_bind (wpAny_isInstance (T:="StopIteration") (b:=true) ⟨o,q1,q2⟩ isSubtype_stop (wpAny_pure (k _ kp)))
end
abbrev zt1 (h:Heap) (a:Addr):Heap:=h.push { cls:=.type "tuple_iterator",data:=.fields #[.ref a,.int 0 0] }
abbrev zt2 (h:Heap) (a b:Addr):Heap:=(zt1 h a).push { cls:=.type "tuple_iterator",data:=.fields #[.ref b,.int 0 0] }
abbrev zt3 (h:Heap) (a b:Addr):Heap:=(zt2 h a b).push { cls:=.type "tuple",data:=.seq #[.ref h.objs.size,.ref (zt1 h a).objs.size] }
abbrev zt4 (h:Heap) (a b:Addr):Heap:=(zt3 h a b).push { cls:=.type "tuple",data:=.seq #[.none,.none] }
abbrev zt5 (h:Heap) (a b:Addr):Heap:=(zt4 h a b).push { cls:=.type "zip",data:=.fields #[.none,.bool false,.bool false,.ref (zt2 h a b).objs.size,.ref (zt3 h a b).objs.size] }
theorem Xg (a b:Addr) (xs ys:Array Value):Meets (Builtin.«zip.__new__» ⟨[.type "zip",.ref a,.ref b],[]⟩) (fun _ R s=>s.heap.IsTuple a xs/\s.heap.IsTuple b ys/\R (.ok (.ret (.ref (zt4 s.heap a b).objs.size))) { s with heap:=zt5 s.heap a b }) :=
 .of_wp fun prog w A R s h=>by
  obtain⟨hp,g,d,tk,os⟩:=s;obtain⟨h1,h2,h⟩:=h
  have hsub:=sub_zip
  have g1:Heap.IsTuple (Shared.heap ⟨hp,g,d,tk,os⟩) a xs:=h1
  have g2:Heap.IsTuple (Shared.heap ⟨hp.push { cls:=.type "tuple_iterator",data:=.fields #[.ref a,.int 0 0] },g,d,tk,os⟩) b ys:=Heap.IsTuple.push h2 _
  wp_walk using wpAny_pyIter_tuple g1,wpAny_pyIter_tuple g2
  exact ⟨_,rfl,h⟩
section
variable {prog:Program}{w:World}{A:Around}{E:Value->Shared->Prop}{s:Shared}
theorem Wv {a b:Addr}{xs ys:Array Value}{Q:Value->Shared->Prop} (h1:s.heap.IsTuple a xs) (h2:s.heap.IsTuple b ys)
 (k:∀ h',IsZip h' (s.heap.objs.size+4) (s.heap.objs.size+2) (s.heap.objs.size+3) .none->IsPair h' (s.heap.objs.size+2) (.ref s.heap.objs.size) (.ref (s.heap.objs.size+1)) →
   IsPair h' (s.heap.objs.size+3) .none .none->h'.IsTupleIter s.heap.objs.size a 0->h'.IsTupleIter (s.heap.objs.size+1) b 0->h'.objs.size=s.heap.objs.size+5 →
   (∀ c o,s.heap.get? c=some o->h'.get? c=some o)->Q (.ref (s.heap.objs.size+4)) { s with heap:=h' }):wpAny (model prog w) A (call (.type "zip") [.ref a,.ref b]) Q E s:=by
 refine callType_new F.called_zip (by decide) (F.typeCall_zip_2 _ _) (F.newCall_zip_2 _ _) (fun obj=>F.args_object_init_3 obj _ _) F.entry_zip_new (Xg a b xs ys) ⟨h1,h2,?_⟩
 have z1:(zt1 s.heap a).objs.size=s.heap.objs.size+1:=Heap.size_push ..
 have z2:(zt2 s.heap a b).objs.size=s.heap.objs.size+2:=by rw [Heap.size_push,z1]
 have z3:(zt3 s.heap a b).objs.size=s.heap.objs.size+3:=by rw [Heap.size_push,z2]
 have z4:(zt4 s.heap a b).objs.size=s.heap.objs.size+4:=by rw [Heap.size_push,z3]
 have z5:(zt5 s.heap a b).objs.size=s.heap.objs.size+5:=by rw [Heap.size_push,z4]
 have q5:(zt5 s.heap a b).get? (zt4 s.heap a b).objs.size=some _:=Heap.get?_push_size _ rfl
 have q4:(zt5 s.heap a b).get? (zt3 s.heap a b).objs.size=some _:=Heap.get?_push_of_some _ (Heap.get?_push_size _ rfl)
 have q3:(zt5 s.heap a b).get? (zt2 s.heap a b).objs.size=some _:=Heap.get?_push_of_some _ (Heap.get?_push_of_some _ (Heap.get?_push_size _ rfl))
 have q2:(zt5 s.heap a b).get? (zt1 s.heap a).objs.size=some _:=Heap.get?_push_of_some _ (Heap.get?_push_of_some _ (Heap.get?_push_of_some _ (Heap.get?_push_size _ rfl)))
 have q1:(zt5 s.heap a b).get? s.heap.objs.size=some _:=Heap.get?_push_of_some _ (Heap.get?_push_of_some _ (Heap.get?_push_of_some _ (Heap.get?_push_of_some _ (Heap.get?_push_size _ rfl))))
 show _/\_
 rw [z2,z3,z4] at q5
 rw [z1,z2] at q3
 rw [z3] at q4
 rw [z1] at q2
 rw [z4]
 exact ⟨⟨_,q5,rfl⟩,k _ q5 q3 q4 ⟨_,q1,rfl,rfl⟩ ⟨_,q2,rfl,rfl⟩ z5 fun c o x=>Heap.get?_push_of_some _ (Heap.get?_push_of_some _ (Heap.get?_push_of_some _ (Heap.get?_push_of_some _ (Heap.get?_push_of_some _ x))))⟩
end
def Ityp (K:W.Frag) (a b:Addr):It :=
 ⟨fun i H=>∃ xs ys x y,SqT K H a xs/\SqT K H b ys/\xs[i]?=some x/\ys[i]?=some y,
  fun i H v H'=>∃ p x y,H p=none/\v=.ref p/\H'=upd H p (.tup [x,y])/\(∀ xs,SqT K H a xs->xs[i]?=some x)/\∀ ys,SqT K H b ys->ys[i]?=some y,
  fun i H=>∃ xs ys,SqT K H a xs/\SqT K H b ys/\xs.length<=i⟩
theorem Va {P:Program}{w:World}{K:W.Frag}{es:List Expr}{x1:Nat}{tpos:Pos} (a b z TI TO i1 i2:Addr) (D:ZipApart z TI TO i1 i2 a b) :
 Turn P w K (.Tuple es x1 tpos) (Ityp K a b) [z,TI,TO,i1,i2] z (fun i h=>IsZip h z TI TO .none/\IsPair h TI (.ref i1) (.ref i2)/\(∃ c d,IsPair h TO c d)/\h.IsTupleIter i1 a i/\h.IsTupleIter i2 b i) where
 mem:=by simp
 obj:=fun i h st c hc=>by
  obtain⟨hz,hTI,⟨u,v,hTO⟩,⟨o1,h1,c1,d1⟩,⟨o2,h2,c2,d2⟩⟩:=st
  simp only [List.mem_cons,List.not_mem_nil,or_false] at hc
  rcases hc with rfl | rfl | rfl | rfl | rfl
  . exact ⟨_,hz,fun v q=>by cases (show Data.fields _=Data.cell v from q)⟩
  . exact ⟨_,hTI,fun v q=>by cases (show Data.seq _ _=Data.cell v from q)⟩
  . exact ⟨_,hTO,fun v q=>by cases (show Data.seq _ _=Data.cell v from q)⟩
  . exact ⟨o1,h1,fun v q=>by rw [d1] at q;cases q⟩
  . exact ⟨o2,h2,fun v q=>by rw [d2] at q;cases q⟩
 keep:=fun i h h' st k=>by
  obtain⟨hz,hTI,⟨u,v,hTO⟩,h1,h2⟩:=st
  exact ⟨k z (by simp) _ hz,k TI (by simp) _ hTI,⟨u,v,k TO (by simp) _ hTO⟩,h1.at fun o q=>k i1 (by simp) o q,h2.at fun o q=>k i2 (by simp) o q⟩
 item:=by
  intro X hP hw hK hc i Ab s σ H E I hf st hg
  subst hP hw hK
  obtain⟨hz,hTI,⟨u0,v0,hTO⟩,h1,h2⟩:=st
  obtain⟨xs,ys,x,y,hqa,hqb,hx,hy⟩:=hg
  obtain⟨ia,ra,pa,_⟩:=I.tuple hqa
  obtain⟨ib,rb,pb,_⟩:=I.tuple hqb
  obtain⟨u,hu,ru⟩:=ra.get hx
  obtain⟨v,hv,rv⟩:=rb.get hy
  have hfresh:H s.heap.objs.size=none:=I.hok.fresh (Nat.le_refl _)
  have ltz:=Heap.lt_size hz
  refine L6 D hz hTI hTO h1 h2 (show s.heap.IsTuple a ia.toArray from pa) (show s.heap.IsTuple b ib.toArray from pb) (x:=u) (y:=v) (by simpa using hu) (by simpa using hv) fun h' hz' hTO' h1' h2' htup hsz hk=>?_
  refine⟨_,rfl,wpAny_letOwnedTupleGo_zip hz' fun h3 hz3 hsb=>?_⟩
  replace hsb:Heap.SameBut z h' h3:=hsb
  have kk:∀ c o,c ∉ [z,TI,TO,i1,i2]->s.heap.get? c=some o->h3.get? c=some o:=fun c o hc e=>by
   simp only [List.mem_cons,List.not_mem_nil,or_false,not_or] at hc
   obtain⟨n1,n2,n3,n4,n5⟩:=hc
   exact (hsb.2 c n1).trans (hk c o n1 n3 n4 n5 e)
  have ht3:h3.get? s.heap.objs.size=some { cls:=.type "tuple",data:=.seq #[u,v] }:=(hsb.2 _ (Nat.ne_of_gt ltz)).trans htup
  have hi1:h3.IsTupleIter i1 a (i+1):=h1'.at fun o e=>(hsb.2 i1 D.i1z).trans e
  have hi2:h3.IsTupleIter i2 b (i+1):=h2'.at fun o e=>(hsb.2 i2 D.i2z).trans e
  have hTI3:IsPair h3 TI (.ref i1) (.ref i2):=(hsb.2 TI D.TIz).trans (hk _ _ D.TIz D.TITO D.TIi1 D.TIi2 hTI)
  have hTO3:IsPair h3 TO u v:=(hsb.2 TO D.TOz).trans hTO'
  have ntr:∀ c o,H c=some o->c ∉ [z,TI,TO,i1,i2]:=fun c o e hm=>by rw [(hf c hm).1] at e;cases e
  have nsz:∀ c o,H c=some o->c≠s.heap.objs.size:=fun c o e=>Bm e hfresh
  refine⟨.ref s.heap.objs.size,upd H s.heap.objs.size (.tup [x,y]),?_,rfl,⟨s.heap.objs.size,x,y,hfresh,rfl,rfl,fun zs q=>by rw [I.tuple_inj q hqa];exact hx,fun zs q=>by rw [I.tuple_inj q hqb];exact hy⟩,⟨hz3,hTI3,⟨_,_,hTO3⟩,hi1,hi2⟩,fun c hc=>?_⟩
  . refine Inv.step (s:=s) (h':=h3) (t':=s.toks) (H':=upd H s.heap.objs.size (.tup [x,y])) I (g':=s.gens) (d':=s.drawn) (ch:=[z,TI,TO,i1,i2]) (fun c hc=>?_) (fun c o _ _ hc e _=>kk c o hc e) (fun c o _ _ hc e _=>⟨o.slots,kk c o hc e⟩) (fun c o hc e n=>?_) (fun c o hc e=>⟨o,kk c o hc e⟩)
     (fun c zs e=>by rw [A7 (nsz c _ e)];exact e) (fun c o w' e=>by rw [A7 (nsz c _ e)];exact e) (fun c ps e=>⟨#[],by rw [A7 (nsz c _ e),e];simp⟩) (fun m hm=>?_) (fun c w' e=>?_) I.bare
    . have f:=hf c hc
      exact ⟨f.2.2.2.1,f.2.1,f.2.2.2.2.1,f.2.2.2.2.2⟩
    . rw [A7 (Nat.ne_of_lt (Heap.lt_size e))]
      exact n
    . obtain⟨o,es',ep,ho,r⟩:=hm
      exact ⟨o,es',ep,kk _ o (fun q=>(hf _ q).2.1 rfl) ho,r⟩
    . by_cases hcs:c=s.heap.objs.size
      . subst hcs
        rw [Ad] at e
        cases e
        exact ⟨(by show (2:Nat)<=sizeLine;decide),[u,v],.cons ru (.cons rv .nil),⟨_,ht3,rfl,rfl,_,rfl⟩⟩
      . rw [A7 hcs] at e
        refine (I.hok c w' e).stay (fun c' y' hc' q=>?_) (fun c' q=>by rw [A7 (nsz c' _ q)];exact q) fun c' zs q=>by rw [A7 (nsz c' _ q)];exact q
        rcases hc' with rfl | hc'
        . exact kk _ _ (ntr _ _ e) q
        . exact kk _ _ (ntr _ _ hc') q
  . have lb:c<s.heap.objs.size:=by
     simp only [List.mem_cons,List.not_mem_nil,or_false] at hc
     obtain⟨o1,q1,_⟩:=h1
     obtain⟨o2,q2,_⟩:=h2
     rcases hc with rfl | rfl | rfl | rfl | rfl
     . exact ltz
     . exact Heap.lt_size hTI
     . exact Heap.lt_size hTO
     . exact Heap.lt_size q1
     . exact Heap.lt_size q2
    rw [A7 (Nat.ne_of_lt lb)]
    exact (hf c hc).1
 done:=by
  intro X hP hw hK hc i Ab s σ H E I hf st hg
  subst hP hw hK
  obtain⟨hz,hTI,⟨u0,v0,hTO⟩,h1,h2⟩:=st
  obtain⟨xs,ys,hqa,hqb,hx⟩:=hg
  obtain⟨ia,ra,pa,_⟩:=I.tuple hqa
  obtain⟨ib,rb,pb,_⟩:=I.tuple hqb
  have la:=ra.length
  have lb:=rb.length
  refine N8 (I.ok.hd hc) D hz hTI hTO h1 h2 (show s.heap.IsTuple a ia.toArray from pa) (show s.heap.IsTuple b ib.toArray from pb) ?_ fun h' hk=>⟨rfl,I.turnedN (t':=s.toks) (fp:=[z,TI,TO,i1,i2]) (fun c o hc e=>?_) hf⟩
  . simp;omega
  . simp only [List.mem_cons,List.not_mem_nil,or_false,not_or] at hc
    obtain⟨n1,n2,n3,n4,n5⟩:=hc
    exact hk c o n1 n3 n4 n5 e
 self:=fun _ _ _ _ _ st h=>wpAny_pyIter_zip st.1 h
def Aa1 (K:W.Frag) (ta:TA):TI:=fun σ H R=>ta σ H fun vs H1=>∃ a b,vs=[.ref a,.ref b]/\(∃ xs,SqT K H1 a xs)/\(∃ ys,SqT K H1 b ys)/\R (Ityp K a b) H1
theorem Ux:bootBuiltins "zip"=some (.type "zip"):=by decide +kernel
theorem Zg {X:Cx}{K:W.Frag}{es:List Expr}{x1:Nat}{tpos:Pos}{a b:Expr}{ta:TA}{p pos:Pos} (hg:Gl X "zip") (hm:X.mg "zip"=none) (ha:PA X [a,b] ta) (hK:X.K=K:=by rfl) (hs:starEach [a,b] X.env=[(false,eval a X.env),(false,eval b X.env)]:=by rfl) (hs2:starEach [b] X.env=[(false,eval b X.env)]:=by rfl) :
 PI X (.Tuple es x1 tpos) (.Call (.Name "zip" p) [a,b] [] pos) (Aa1 K ta):=by
 subst hK
 intro Ab s σ H R I h
 refine Call_ (Hl I hg hm Ux (PyProof.Rows.callWith_type1 (thn (ha pos Ab s σ H _ I h) fun us s1 ⟨vs,H1,I1,r1,q1⟩=>?_) (by rw [hs,hs2]) (by rw [hs2];rfl)))
 obtain⟨la,lb,e,⟨xs,hqa⟩,⟨ys,hqb⟩,q⟩:=q1
 subst e
 cases r1 with
 | cons ra rr =>
   cases rr with
   | cons rb rr =>
     cases rr
     cases ra
     cases rb
     obtain⟨ia,_,pa,_⟩:=I1.tuple hqa
     obtain⟨ib,_,pb,_⟩:=I1.tuple hqb
     have a1:la<s1.heap.objs.size:=by obtain⟨_,e,_⟩:=pa;exact Heap.lt_size e
     have a2:lb<s1.heap.objs.size:=by obtain⟨_,e,_⟩:=pb;exact Heap.lt_size e
     refine Wv (show s1.heap.IsTuple la ia.toArray from pa) (show s1.heap.IsTuple lb ib.toArray from pb) fun h' hz hTI hTO hi1 hi2 hsz hk=>?_
     refine wpAny_pyIter_zip hz ⟨s1.heap.objs.size+4,[s1.heap.objs.size+4,s1.heap.objs.size+2,s1.heap.objs.size+3,s1.heap.objs.size,s1.heap.objs.size+1],_,_,H1,rfl,I1.kept (t':=s1.toks) hk,Va la lb _ _ _ _ _ (zipApart_new a1 a2),⟨hz,hTI,⟨_,_,hTO⟩,hi1,hi2⟩,fun c hc=>?_,q⟩
     have lc:s1.heap.objs.size<=c:=by
      simp only [List.mem_cons,List.not_mem_nil,or_false] at hc
      rcases hc with rfl | rfl | rfl | rfl | rfl
      . exact Nat.le_add_right _ _
      . exact Nat.le_add_right _ _
      . exact Nat.le_add_right _ _
      . exact Nat.le_refl _
      . exact Nat.le_add_right _ _
     exact I1.fpOk lc (I1.hok.fresh lc)
section
variable {g:TG}{tc:TT}{te:TE}{D:Addr}{Q:Hp->Prop}{τ:St}{H:Hp}
end
end L2
namespace L2
open PySem PySem.Spec PyProof.Rows
open AutoSeq1 (wpAny_loadPart')
section
variable {prog:Program}{w:World}{A:Around}{E:Value->Shared->Prop}{s:Shared}
end
section
variable {g:TG}{tc:TT}{te:TE}{D:Addr}{Q:Hp->Prop}{τ:St}{H:Hp}
end
end L2
namespace Hb
def sg (i:Nat):Int:=1-2*((i:Int)%2)
end Hb
namespace Hb
open PySem L2
def Ym (b:Addr) (H H1:Hp):Prop:=∀ c q,c≠b->H c=some q->H1 c=some q
section
variable {K:W.Frag}{H H1:Hp}{b:Addr}{m:List (Key × V)}
theorem SqL.x (s:Ym b H H1) (hb:H b=some (.dK m)) {a:Addr}{xs:List V} (h:SqL K H a xs):SqL K H1 a xs:=by
 rcases h with (h|⟨o,h⟩) | h
 . exact .inl (.inl (s _ _ (fun z=>by rw [z,hb] at h;cases h) h))
 . exact .inl (.inr ⟨o,s _ _ (fun z=>by rw [z,hb] at h;cases h) h⟩)
 . exact .inr h
theorem SqT.x (s:Ym b H H1) (hb:H b=some (.dK m)) {a:Addr}{xs:List V} (h:SqT K H a xs):SqT K H1 a xs:=by
 rcases h with (h|⟨o,h⟩) | h
 . exact .inl (.inl (s _ _ (fun z=>by rw [z,hb] at h;cases h) h))
 . exact .inl (.inr ⟨o,s _ _ (fun z=>by rw [z,hb] at h;cases h) h⟩)
 . exact .inr h
mutual
theorem Rep.x (s:Ym b H H1) (hb:H b=some (.dK m)) {v:V}{d:L2.D} (h:Rep K H v d):Rep K H1 v d:=by
 cases d with
 | non=>exact h
 | bl b=>exact h
 | int i=>exact h
 | str x=>exact h
 | tup ds =>
   obtain⟨a,vs,e,q,r⟩:=h
   exact ⟨a,vs,e,SqT.x s hb q,Reps.x s hb r⟩
 | lst ds =>
   obtain⟨a,vs,e,q,r⟩:=h
   exact ⟨a,vs,e,SqL.x s hb q,Reps.x s hb r⟩
theorem Reps.x (s:Ym b H H1) (hb:H b=some (.dK m)) {vs:List V}{ds:List L2.D} (h:Reps K H vs ds):Reps K H1 vs ds:=by
 cases ds with
 | nil=>exact h
 | cons d r =>
   obtain⟨v,q,e,h1,h2⟩:=h
   exact ⟨v,q,e,Rep.x s hb h1,Reps.x s hb h2⟩
end
end
section
variable (K:W.Frag)
end
end Hb
namespace Hb
open PySem L2
def face (xs:List (List Int)) (φ:Int->Int) (p:Int):Int:=sumN (fun j=>sg j*φ ((xs.getD p.toNat []).getD j 0)) (xs.getD p.toNat []).length
def dl (e k:Int):Int:=if k=e then 1 else 0
end Hb
namespace Hb
open PySem L2
def Aa0 (n:Nat) (k:Int):Bool:=decide ((n:Int)=k+1) || (decide (k=0)&&decide (n=0))
def spN (xs:List (List Int)) (k:Int):Nat->List Int
 | 0=>[]
 | i+1=>if Aa0 (xs.getD i []).length k=true then spN xs k i++[(i:Int)] else spN xs k i
def spots (xs:List (List Int)) (k:Int):List Int:=spN xs k xs.length
section
variable (K:W.Frag)
end
end Hb
namespace L2
open PySem PySem.Spec PyProof.Rows
abbrev TJ:=St->Hp->(Hp->Prop)->Prop
section
variable {X:Cx}{e v₁ v₂:Expr}{es rest:List Expr}{te:TE}{tj:TJ}{pos:Pos}
end
end L2
namespace Hb
open PySem L2
section
variable (K:W.Frag)
end
end Hb
namespace HT
open PySem PySem.Spec PyProof.Rows
section
variable {prog:Program}{w:World}{A:Around}{E:Value->Shared->Prop}{s:Shared}
end
end HT
namespace L2
open PySem PySem.Spec PyProof.Rows
section
variable {X:Cx}
end
end L2
namespace L2
open PySem PySem.Spec PyProof.Rows
end L2
namespace L2
open PySem PySem.Spec PyProof.Rows
end L2
namespace Hb
end Hb
namespace Hb
end Hb
namespace Hb
open PySem L2
theorem Z8 {sp:List Int}{x:Int} (h0:0<=x) (h1:x<(sp.length:Int)):atI (sp.map V.int) x=some (.int (sp.getD x.toNat 0)):=by
 obtain⟨j,rfl⟩:=Int.eq_ofNat_of_zero_le h0
 have hj:j<sp.length:=by omega
 rw [Int.toNat_natCast]
 exact Bg (by rw [List.getElem?_map,List.getElem?_eq_getElem hj,List.getD_eq_getElem?_getD,List.getElem?_eq_getElem hj];rfl)
section
variable (K:W.Frag)
def Pa:Sp:=fun vs H Q _=>∃ (a:Addr) (v:V) (sp fs:List Int),vs=[.ref a,v]/\SqL K H a (sp.map V.int)/\TI K H v fs/\(∀ x∈fs,0<=x/\x<(sp.length:Int))/\fs.length<=1000 ∧
 ∀ (w:V) (H':Hp),Same H H'->TI K H' w (fs.map fun x=>sp.getD x.toNat 0)->Q w H'
end
end Hb
namespace L2
open PySem PySem.Spec PyProof.Rows PySem.SeqAt
section
variable {X:Cx}
section
variable {o e:Expr}{es:List Expr}{to:TE}{t:TA}{name:Str}{apos cpos:Pos}{id:String}{r:V->List V->Hp->VK->Prop}
end
end
end L2
namespace Hb
open PySem L2
theorem Gs {α:Type}{l:List α}{i:Nat}{d:α} (h:i<l.length):l.getD i d∈l:=by
 rw [List.getD_eq_getElem?_getD,List.getElem?_eq_getElem h]
 exact List.getElem_mem h
section
variable (K:W.Frag)
end
end Hb
namespace Hb
open PySem L2
theorem W8 {sp:List Int}{x:Int} (h0:0<=x) (h1:x<(sp.length:Int)):atI (sp.map V.int) x=some (.int (sp.getD x.toNat 0)):=by
 obtain⟨j,rfl⟩:=Int.eq_ofNat_of_zero_le h0
 have hj:j<sp.length:=by omega
 rw [Int.toNat_natCast]
 exact Bg (by rw [List.getElem?_map,List.getElem?_eq_getElem hj,List.getD_eq_getElem?_getD,List.getElem?_eq_getElem hj];rfl)
end Hb
namespace Hb
open PySem L2
def atK (ks:List Int) (j:Int):Int:=ks.getD j.toNat 0
def ren (ks:List Int) (f:Int):Int:=(ks.findIdx (·==f):Nat)
theorem e8 {ks:List Int}{f:Int} (h:f∈ks):atK ks (ren ks f)=f/\0<=ren ks f/\ren ks f<(ks.length:Int):=by
 unfold atK ren
 have hl:ks.findIdx (·==f)<ks.length:=List.findIdx_lt_length_of_exists ⟨f,h,by simp⟩
 have h1:=List.findIdx_getElem (xs:=ks) (p:=(·==f)) (w:=hl)
 refine⟨?_,by omega,by omega⟩
 rw [Int.toNat_natCast,List.getD_eq_getElem?_getD,List.getElem?_eq_getElem hl]
 simpa using h1
def sub (xs:List (List Int)) (ks:List Int):List (List Int):=ks.map fun k=>(xs.getD k.toNat []).map (ren ks)
def Clo (xs:List (List Int)) (ks:List Int):Prop:=∀ k∈ks,∀ f∈xs.getD k.toNat [],f∈ks
theorem Zt {n:Nat}{p:Int}:p∈upN n↔0<=p/\p<(n:Int):=by
 unfold upN
 rw [List.mem_map]
 constructor
 . rintro ⟨i,hi,rfl⟩
   have:=List.mem_range.mp hi
   omega
 . rintro ⟨a,b⟩
   exact ⟨p.toNat,List.mem_range.mpr (by omega),by omega⟩
theorem m4 (ks:List Int):(upN ks.length).map (atK ks)=ks:=by
 apply List.ext_getElem?
 intro i
 rw [List.getElem?_map]
 by_cases h:i<ks.length
 . rw [R3 h,List.getElem?_eq_getElem h]
   show some (ks.getD ((i:Int)).toNat 0)=_
   rw [Int.toNat_natCast,List.getD_eq_getElem?_getD,List.getElem?_eq_getElem h]
   rfl
 . rw [List.getElem?_eq_none (by rw [Ih];omega),List.getElem?_eq_none (by omega)]
   rfl
end Hb
namespace L2
open PySem PySem.Spec PyProof.Rows
end L2
namespace Hb
open PySem L2
def Low (xs:List (List Int)):Prop:=∀ (i:Nat) (x:List Int),xs[i]?=some x->∀ f∈x,0<=f/\f<(i:Int)
def zipK (ks:List Int):Ms:=(List.range ks.length).map fun i=>(ks.getD i 0,(i:Int))
theorem U4 (ks:List Int):(zipK ks).map (·.1)=ks:=by
 unfold zipK
 rw [List.map_map]
 have:=m4 ks
 unfold upN at this
 rw [List.map_map] at this
 conv=>rhs;rw [←this]
 apply List.map_congr_left
 intro i _
 show ks.getD i 0=ks.getD ((i:Int)).toNat 0
 rw [Int.toNat_natCast]
theorem U2 {ks:List Int} (h:ks.Nodup):nd (zipK ks):=by
 unfold nd
 rw [U4]
 exact h
theorem Xi (ks:List Int):(zipK ks).length=ks.length:=by simp [zipK]
theorem Tm {ks:List Int}{i:Nat} (h:i<ks.length):(zipK ks)[i]?=some (ks.getD i 0,(i:Int)):=by
 unfold zipK
 rw [List.getElem?_map,List.getElem?_range h]
 rfl
theorem U3 {ks:List Int} (h:ks.Nodup) {f:Int} (hf:f∈ks):Oa (zipK ks) f=some (ren ks f):=by
 obtain⟨e,a,b⟩:=e8 hf
 have hm:(f,ren ks f)∈zipK ks:=by
  have hg:=Tm (ks:=ks) (i:=(ren ks f).toNat) (by omega)
  have e2:ks.getD (ren ks f).toNat 0=f:=e
  rw [e2,show (((ren ks f).toNat:Nat):Int)=ren ks f by omega] at hg
  exact List.mem_of_getElem? hg
 exact X3 (U2 h) hm
theorem Xl (n:Nat):upN (n+1)=upN n++[(n:Int)]:=by
 unfold upN
 rw [List.range_succ,List.map_append]
 rfl
section
variable (K:W.Frag)
def Gf:Sp:=fun vs H Q _=>∃ (b:Addr) (ks:List Int),vs=[.ref b]/\SqL K H b (ks.map V.int)/\ks.Nodup/\ks.length<=1000/\newC H (zipK ks) Q
def Uj:Sp:=fun vs H Q _=>∃ (b:Addr) (v:V) (ms:Ms) (fs:List Int) (g:Int->Int),vs=[.ref b,v]/\H b=some (.dK (cK ms))/\TI K H v fs/\fs.length<=1000/\(∀ x∈fs,Oa ms x=some (g x)) ∧
 ∀ (w:V) (H':Hp),Same H H'->TI K H' w (fs.map g)->Q w H'
def Ez:Sp:=fun vs H Q _=>∃ (a b:Addr) (ys:List (List Int)) (ls:List Int),vs=[.ref a,.ref b]/\LT K H (.ref a) ys/\SqL K H b (ls.map V.int)/\ls.Nodup/\(∀ l∈ls,0<=l/\l<(ys.length:Int))/\Clo ys ls/\ls.length<=1000/\(∀ x∈ys,x.length<=4) ∧
 ∀ (D:Addr) (us:List V) (H':Hp),H D=none->Same H H'->H' D=some (.lst us)->Reps K H' us ((sub ys ls).map tI)->Q (.ref D) H'
end
end Hb
namespace Hb
open PySem L2
section
variable (K:W.Frag)
end
end Hb
namespace L2
open PySem PySem.Spec PyProof.Rows
theorem On:typeLookup (.type "dict") "__len__"=pure (some (.builtin "dict.__len__")):=by rw [typeLookup_type,builtinLookup_eq_fast];kernel_rfl
theorem Rg {prog:Program}{w:World}{A:Around}{E:Value->Shared->Prop}{s:Shared}{d:Addr}{Aw:List (Key × Value)}{ep:Nat}{Q:List Value->Shared->Prop} (hh:A.handled=none)
 (hd:(d==sysModules)=false) (hm:s.heap.DictAt (mixKind prog w) d Aw ep)
 (hQ:∀ h' tk (acc:Array Value),(∀ b o,s.heap.get? b=some o->h'.get? b=some o)->s.heap.objs.size<h'.objs.size->ItemsOf (fun i v=>∃ k x,Aw[i]?=some (k,x)/\(mixKind prog w).is k v=true) acc Aw.length->Q acc.toList { s with heap:=h',toks:=tk })
 (hn:Aw.length<=sizeLine):wpAny (model prog w) A (collect (.ref d)) Q E s:=by
 unfold collect
 refine wpAny_bind (wpAny_runValue (codeAny_builtin PySem.F.entry_proto_collect ?_))
 rw [Around.under_plainId PySem.F.plain_proto_collect _]
 show wpAny _ A.in1 (newList []>>=fun l=>again (.builtin "list.__iadd__" ⟨[l,.ref d],[]⟩)) _ _ s
 refine wpAny_bind (wpAny_newObj_type ?_)
 refine wpAny_pure ⟨plainId_quiet PySem.F.plain_list_iadd _,codeAny_builtin PySem.F.entry_list_iadd ?_⟩
 rw [Around.under_plainId PySem.F.plain_list_iadd _]
 show wpAny _ A.in1 (Builtin.List.listExtendWith (.ref s.heap.objs.size) (.ref d) (.ref s.heap.objs.size)) _ _ _
 unfold Builtin.List.listExtendWith
 have hm1:(s.heap.push { cls:=.type "list",data:=.seq ([]:List Value).toArray }).DictAt (mixKind prog w) d Aw ep:=hm.at' fun o e=>Heap.get?_push_of_some _ e
 have hT1:({ s with heap:=s.heap.push { cls:=.type "list",data:=.seq ([]:List Value).toArray } }:Shared).TypeIs (.ref d) "dict":=hm1.dictOf.typeIs
 have hlt:d<s.heap.objs.size:=by
  obtain⟨o,es,ho,_⟩:=id hm
  exact Heap.lt_size ho
 have hSd:s.heap.objs.size≠d:=Ne.symm (Nat.ne_of_lt hlt)
 refine wpAny_bind (wpAny_typeOf hT1 ?_)
 have h1:Builtin.List.listSameRef (.ref s.heap.objs.size) (.ref d)=false:=by simp [Builtin.List.listSameRef,hSd]
 have h2:(Value.type "dict"==Value.type "list")=false:=by decide
 have h3:(Value.type "dict"==Value.type "tuple")=false:=by decide
 simp only [h1,h2,h3,Bool.or_false,Bool.false_eq_true,if_false]
 refine wpAny_bind (wpAny_pyIter_dict hd hm1 ?_)
 refine wpAny_bind (wpAny_holding ?_)
 generalize hH:s.heap.push { cls:=.type "list",data:=.seq ([]:List Value).toArray }=H at hm1 hT1 ⊢
 have hHs:H.objs.size=s.heap.objs.size+1:=by rw [←hH,Heap.size_push]
 have hS1:H.get? s.heap.objs.size=some { cls:=.type "list",data:=.seq ([]:List Value).toArray }:=hH▸Heap.get?_push_size _ rfl
 have old1:∀ b o,s.heap.get? b=some o->H.get? b=some o:=fun b o e=>hH▸Heap.get?_push_of_some _ e
 have hm2:(H.push { cls:=.type "dict_keyiterator",data:=.fields #[.ref d,.int 0 0,.int Aw.length 0,.int ep 0] }).DictAt (mixKind prog w) d Aw ep:=hm1.at' fun o e=>Heap.get?_push_of_some _ e
 have hI2:(H.push { cls:=.type "dict_keyiterator",data:=.fields #[.ref d,.int 0 0,.int Aw.length 0,.int ep 0] }).IsKeyIter H.objs.size d 0 Aw.length ep:=⟨_,Heap.get?_push_size _ rfl,rfl,rfl⟩
 have hS2:(H.push { cls:=.type "dict_keyiterator",data:=.fields #[.ref d,.int 0 0,.int Aw.length 0,.int ep 0] }).get? s.heap.objs.size=some { cls:=.type "list",data:=.seq ([]:List Value).toArray }:=Heap.get?_push_of_some _ hS1
 have old2:∀ b o,s.heap.get? b=some o->(H.push { cls:=.type "dict_keyiterator",data:=.fields #[.ref d,.int 0 0,.int Aw.length 0,.int ep 0] }).get? b=some o:=fun b o e=>Heap.get?_push_of_some _ (old1 b o e)
 generalize H.push { cls:=.type "dict_keyiterator",data:=.fields #[.ref d,.int 0 0,.int Aw.length 0,.int ep 0] }=G at hm2 hI2 hS2 old2 ⊢
 have hT2:({ s with heap:=G }:Shared).TypeIs (.ref d) "dict":=hm2.dictOf.typeIs
 unfold Builtin.List.listLengthHint
 refine wpAny_bind (wpAny_specialOf hT2 On ?_)
 wp_delta
 refine wpAny_bind (wpAny_isInstance (T:="dict") (v:=.ref d) (b:=true) hT2 (by rw [isSubtype_type];kernel_rfl) ?_)
 show wpAny _ A.in1 (typeOf (Value.ref d)>>=_) _ _ _
 refine wpAny_bind (wpAny_typeOf hT2 ?_)
 refine wpAny_pure ?_
 rw [if_pos (by decide)]
 refine wpAny_bind (wpAny_rule ?_)
 refine wpAny_bind ?_
 show wpAny _ A.in1 (updateSeq s.heap.objs.size (·.push .none)>>=fun _=>updateSeq s.heap.objs.size (·.pop)) _ _ _
 refine wpAny_bind (wpAny_updateSeq hS2 rfl ?_)
 have hS3:=Heap.get?_update_self (Obj.mapSeq (·.push Value.none)) hS2 rfl
 refine wpAny_updateSeq hS3 rfl ?_
 have hS4:=Heap.get?_update_self (Obj.mapSeq (·.pop)) hS3 rfl
 have oth:∀ b o,b≠s.heap.objs.size->G.get? b=some o->((G.update s.heap.objs.size (Obj.mapSeq (·.push Value.none))).update s.heap.objs.size (Obj.mapSeq (·.pop))).get? b=some o :=
  fun b o hb e=>(Heap.get?_update_other _ _ (Ne.symm hb)).trans ((Heap.get?_update_other _ _ (Ne.symm hb)).trans e)
 have hSI:H.objs.size≠s.heap.objs.size:=fun z=>by rw [hHs] at z;exact absurd z (Nat.succ_ne_self _)
 have hdI:d≠H.objs.size:=fun z=>by rw [z,hHs] at hlt;exact absurd hlt (Nat.not_lt.mpr (Nat.le_succ _))
 have hSf:s.heap.objs.size ∉ [H.objs.size,d]:=fun hq=>by
  rcases List.mem_cons.mp hq with z | z
  . exact hSI z.symm
  . exact hSd (List.mem_singleton.mp z)
 refine wpAny_pure ⟨plainId_quiet PySem.F.plain_extend_loop _,codeAny_extend_loopS (Walks.dictKeys (prog:=prog) (w:=w) (A:=A.in1) (knd:=mixKind prog w) hh H.objs.size d hdI Aw ep).toS hn _ hSf _ Aw.length 0 _ _ _ rfl (Nat.zero_le _)
  ⟨hI2.at fun o e=>oth _ o hSI e,hm2.at' fun o e=>oth _ o (Ne.symm hSd) e⟩ hS4 (ItemsOf.nil _) fun s' acc' c' hmv hS' hacc=>?_⟩
 show wpAny _ A (load s.heap.objs.size>>=_) _ _ s'
 refine wpAny_bind (wpAny_load hS' ?_)
 rw [Moved.eq_with hmv]
 refine wpAny_pure (hQ s'.heap s'.toks acc' (fun b ob e=>?_) (Heap.lt_size hS') hacc)
 have hb:=Heap.lt_size e
 refine hmv.heap b ob (fun hq=>?_) (oth b ob (fun z=>by rw [z] at hb;exact Nat.lt_irrefl _ hb) (old2 b ob e))
 rcases List.mem_cons.mp hq with z | z
 . rw [z] at hb;exact Nat.lt_irrefl _ hb
 . rw [List.mem_singleton.mp z,hHs] at hb;exact absurd hb (Nat.not_lt.mpr (Nat.le_succ _))
theorem Ty {P:Program}{w:World}:∀ (ks:List Int) (vs:List Value),ks.length=vs.length->(∀ (i:Nat) (n:Int) (u:Value),ks[i]?=some n->vs[i]?=some u->∃ t,u=.int n t)->IntsAre vs ks
 | [],[],_,_=>.nil
 | [],_::_,h,_=>by simp at h
 | _::_,[],h,_=>by simp at h
 | k::ks,v::vs,h,f=>by
   obtain⟨t,rfl⟩:=f 0 k v rfl rfl
   exact .cons _ _ (Ty (P:=P) (w:=w) ks vs (by simpa using h) fun i n u a b=>f (i+1) n u (by simpa using a) (by simpa using b))
theorem Kv:∀{vs:List Value}{ns:List Int},IntsAre vs ns->Vals (ns.map V.int) vs
 | _,_,.nil=>.nil
 | _,_,.cons n t h=>.cons ⟨t,rfl⟩ (Kv h)
theorem Kw:∀{vs:List Value}{ns:List Int},IntsAre vs ns->vs.length=ns.length
 | _,_,.nil=>rfl
 | _,_,.cons n t h=>by simp [Kw h]
theorem Ri {X:Cx} (hc:X.calm=true):Eu X (.builtin "sorted") (fun xs H Q=>∃ (p:Addr) (ks:List Int) (Aw:List (Key × V)),xs=[.ref p]/\H p=some (.dK Aw)/\Aw.map (·.1)=ks.map (fun k=>(.inl k:Key))/\ks.length<64 ∧
 ∀ ms:List Int,ms.Perm ks->ms.Pairwise (·<=·)->∀ D,H D=none->Q (.ref D) (upd H D (.lst (ms.map V.int)))):=by
 intro Ab s σ H xs us Q I r h
 obtain⟨p,ks,Aw,rfl,hp,hk,h64,q⟩:=h
 obtain⟨u,rfl,ru⟩:=Lo r
 cases ru
 have hh:X.A.handled=none:=I.ok.hd hc
 obtain⟨z,hsys,vs,rel,o,es,ep,ho,c⟩:=id (I.hok p _ hp)
 have hm:s.heap.DictAt (mixKind X.prog X.w) p vs ep:=⟨o,es,ho,c⟩
 have hl:vs.length=ks.length:=by rw [←rel.length];simpa using congrArg List.length hk
 refine Calls.call_function_entry kind_sorted plain_sorted entry_sorted (args_sorted1 _) ?_
 unfold Builtin.«sorted»
 refine wpAny_bind (m:=checkCount "sorted" 1 1 _) (wpAny_pure ?_)
 refine wpAny_bind (Rg hh hsys hm (fun h1 tk acc old hlt it=>?_) (by rw [←rel.length];exact z))
 have hI:IntsAre acc.toList ks:=by
  refine Ty (P:=X.prog) (w:=X.w) ks acc.toList (by rw [←hl,←it.1];simp) fun i n u e1 e2=>?_
  obtain⟨k,x,e3,e4⟩:=it.2 i u (by simpa using e2)
  have e5:(vs.map (·.1))[i]?=some k:=by rw [List.getElem?_map,e3];rfl
  rw [←rel.keys,hk,List.getElem?_map,e1] at e5
  cases e5
  exact is_kV e4
 have hal:acc.toList.length<64:=by rw [Kw hI];exact h64
 refine wpAny_bind (wpAny_newList ?_)
 have hoL:(h1.push (seqObj "list" acc.toList.toArray 0)).get? h1.objs.size=some (seqObj "list" acc.toList.toArray 0):=Heap.get?_push_size _ rfl
 show wpAny _ _ _ _ _ { s with heap:=h1.push (seqObj "list" acc.toList.toArray 0),toks:=tk }
 refine wpAny_bind (wpAny_holding (wpAny_call_entry slot_list_sort ⟨_,hoL,rfl⟩ entry_list_sort (list_sort_tree hoL hI hal fun out ns' a1 a2 a3=>⟨_,rfl,?_⟩) (args_list_sort _)))
 have hf:=I.hok.fresh (Nat.le_of_lt hlt)
 obtain⟨e9,at9⟩:=sortedHeap_at (out:=out) hoL
 have hn:ns'.length=ks.length:=a2.length_eq
 refine wpAny_pure ⟨_,rfl,.ref h1.objs.size,_,I.laid (a:=h1.objs.size) (t':=tk) (fun b ob e=>?_) (Nat.le_of_lt hlt) (show Dp X.prog X.w _ _ _ (.lst (ns'.map V.int)) from ⟨?_,out.toList,e9,Kv a1,by simpa using at9⟩),rfl,q ns' a2 a3 _ hf⟩
 . have hb:=Heap.lt_size (old b ob e)
   rw [sortedHeap_old (Nat.ne_of_lt hb) (by rw [size_push'];exact Nat.lt_succ_of_lt hb),Heap.get?_push_ne _ _ _ (Nat.ne_of_lt hb)]
   exact old b ob e
 . rw [List.length_map,hn,sizeLine_eq];omega
end L2
namespace L2
open PySem PySem.Spec PyProof.Rows
def Itd (hi:Int) (n:Nat):It:=⟨fun i _=>i<n,fun i H x H'=>H'=H/\x=.int (hi-i),fun i _=>n<=i⟩
theorem F5 (a b:Int):Builtin.Range.rangeSize a b (-1)=if b<a then a-b else 0:=by
 unfold Builtin.Range.rangeSize
 rw [if_neg (by decide)]
 split
 . show (a-b-1) / 1+1=a-b
   rw [Int.ediv_one];omega
 . rfl
theorem Uk {a b:Int} (ha:-(2 ^ 61)<=a) (ha':a<2 ^ 61) (hb:-(2 ^ 61)<=b) (hb':b<2 ^ 61):Builtin.Range.small a b (-1)=true:=by
 unfold Builtin.Range.small
 rw [F5]
 simp only [Builtin.Range.rangeFitsLong,Bool.and_eq_true,Bool.or_eq_true,decide_eq_true_eq,beq_iff_eq]
 split<;>simp<;>omega
theorem Vd {P:Program}{w:World}{K:W.Frag}{tg:Expr} (it:Addr) (hi:Int) (n:Nat):Turn P w K tg (Itd hi n) [it] it (fun i h=>IsRangeIter h it (hi+(i:Nat)*(-1)) ((n:Int)-(i:Nat)) (-1)) where
 mem:=by simp
 obj:=fun i h st b hb=>by
  have e:b=it:=by simpa using hb
  subst e
  exact ⟨_,st,fun v z=>by
   have z':Data.fields _=Data.cell v:=z
   cases z'⟩
 keep:=fun i h h' st k=>k it (by simp) _ st
 item:=by
  intro X hP hw hK hc i Ab s σ H E I hf st hg
  subst hP hw hK
  obtain⟨f0,f1,f2,f3,f4,f5⟩:=hf it (by simp)
  have W:=Walks.range (prog:=X.prog) (w:=X.w) (I.ok.hd hc) it hi (-1) n
  refine W.item i s _ _ hg st fun v h' tk hv st' kk=>?_
  obtain⟨t,rfl⟩:=hv
  have I1:Inv X Ab σ H { s with heap:=h',toks:=tk }:=I.turned (fun b o hb e=>kk b o (by simpa using hb) e) f0 f1 f3 f4 f5
  refine⟨_,rfl,V9 (s:={ s with heap:=h',toks:=tk }) (n:="range_iterator") st' rfl rfl (by decide) ⟨.int (hi-i),H,I1,⟨t,?_⟩,⟨rfl,rfl⟩,st',fun b hb=>(hf b hb).1⟩⟩
  rw [show hi+(i:Int)*(-1)=hi-i by omega]
 done:=by
  intro X hP hw hK hc i Ab s σ H E I hf st hg
  subst hP hw hK
  obtain⟨f0,f1,f2,f3,f4,f5⟩:=hf it (by simp)
  exact wpAny_pyNext_range_end (I.ok.hd hc) st (by have:n<=i:=hg;omega) fun h' eb=>⟨rfl,I.turned (t':=s.toks) (fun b o hb e=>eb b o hb e) f0 f1 f3 f4 f5⟩
 self:=fun _ _ _ _ _ st h=>wpAny_pyIter_rangeiter st h
def Aa4 (ta:TA):TI:=fun σ H R=>ta σ H fun vs H1=>∃ (n:Nat),vs=[.int ((n:Int)-1),.int (-1),.int (-1)]/\n<=1000000/\R (Itd ((n:Int)-1) n) H1
theorem Zi {X:Cx}{tg:Expr}{a b c:Expr}{ta:TA}{p pos:Pos} (hg:Gl X "range") (hm:X.mg "range"=none) (ha:PA X [a,b,c] ta) (hs:starEach [a,b,c] X.env=[(false,eval a X.env),(false,eval b X.env),(false,eval c X.env)]:=by rfl) (hs2:starEach [b,c] X.env=[(false,eval b X.env),(false,eval c X.env)]:=by rfl) :
 PI X tg (.Call (.Name "range" p) [a,b,c] [] pos) (Aa4 ta):=by
 intro Ab s σ H R I h
 refine Call_ (Hl I hg hm boot_range (PyProof.Rows.callWith_type1 (thn (ha pos Ab s σ H _ I h) fun us s1 ⟨vs,H1,I1,r1,q1⟩=>?_) (by rw [hs,hs2]) (by rw [hs2];rfl)))
 obtain⟨n,e,hn,q⟩:=q1
 subst e
 cases r1 with
 | cons r rr =>
   cases rr with
   | cons r' rr =>
     cases rr with
     | cons r'' rr =>
     cases rr
     obtain⟨t,rfl⟩:=r
     obtain⟨t',rfl⟩:=r'
     obtain⟨t'',rfl⟩:=r''
     refine call_range_3 (by decide) ?_ (Or.inl (PyProof.noPylong_small (by omega)))
     refine wpAny_pyIter_range (IsRange.new ..) (Uk (by omega) (by omega) (by omega) (by omega)) ?_
     have I2:Inv X Ab σ H1 { s1 with heap:=s1.heap.push { cls:=.type "range",data:=.fields #[.int ((n:Int)-1) t,.int (-1) t',.int (-1) t''] },toks:=s1.toks }:=I1.kept fun b o e=>Heap.get?_push_of_some _ e
     refine⟨(s1.heap.push { cls:=.type "range",data:=.fields #[.int ((n:Int)-1) t,.int (-1) t',.int (-1) t''] }).objs.size,[_],_,_,H1,rfl,
      I2.kept (t':=s1.toks) fun b o e=>Heap.get?_push_of_some _ e,Vd _ ((n:Int)-1) n,?_,fun b hb=>?_,q⟩
     . have e1:((n:Int)-1)+((0:Nat):Int)*(-1)=(n:Int)-1:=by simp
       have e2:(n:Int)-((0:Nat):Int)=Builtin.Range.rangeSize ((n:Int)-1) (-1) (-1):=by rw [F5];split<;>omega
       show IsRangeIter _ _ (((n:Int)-1)+((0:Nat):Int)*(-1)) ((n:Int)-((0:Nat):Int)) (-1)
       rw [e1,e2]
       exact Heap.get?_push_size _ rfl
     . have e:b=(s1.heap.push { cls:=.type "range",data:=.fields #[.int ((n:Int)-1) t,.int (-1) t',.int (-1) t''] }).objs.size:=by simpa using hb
       subst e
       exact I2.fpOk (Nat.le_refl _) (I2.hok.fresh (Nat.le_refl _))
theorem Yc {hi:Int}{n:Nat}{g:TG}{tb:TS}{D:Ends}{σ:St}{H:Hp} (Pv:Nat->St->Hp->Prop) (h0:Pv 0 σ H)
 (hs:∀ i σ H,i<n->Pv i σ H->g (.int (hi-i)) σ H fun σ2 H2=>tb { D with nx:=Pv (i+1),ct:=Pv (i+1),bk:=D.nx } σ2 H2) (hd:∀ σ H,Pv n σ H->D.nx σ H) :
 ∃ W:Nat->Nat->St->Hp->Prop,(∃ m,W 0 m σ H)/\∀ i m σ H,W i m σ H →
   ((Itd hi n).stop i H/\D.nx σ H)\/((Itd hi n).go i H/\∃ N:St->Hp->Prop,(∀ σ' H',N σ' H'->∃ m',m'<m/\W (i+1) m' σ' H')/\∀ x H',(Itd hi n).yld i H x H'->g x σ H' fun σ2 H2=>tb { D with nx:=N,ct:=N,bk:=D.nx } σ2 H2):=by
 refine⟨fun i m σ H=>m=n-i/\i<=n/\Pv i σ H,⟨n,by simp,Nat.zero_le _,h0⟩,?_⟩
 rintro i m σ H ⟨hm,hi',hp⟩
 by_cases hlt:i<n
 . refine .inr ⟨hlt,Pv (i+1),fun σ' H' h=>⟨n-(i+1),by omega,rfl,by omega,h⟩,?_⟩
   rintro x H' ⟨rfl,rfl⟩
   exact hs i σ _ hlt hp
 . refine .inl ⟨by show n<=i;omega,hd σ H (by have:i=n:=by omega
                                              subst this;exact hp)⟩
def rInK:R2:=fun x y H Q=>∃ a Aw k,y=.ref a/\H a=some (.dK Aw)/\x=kV k/\Q (.bl (valV Aw k).isSome) H
theorem j2 {X:Cx} (hu:X.A.units+1<cLine):OpR X (compareOp .In) rInK:=by
 intro Ab s σ H x y v u Q I rx ry h
 obtain⟨a,Aw,k,rfl,ha,rfl,q⟩:=h
 obtain rfl:u=Value.ref a:=ry
 exact d_in hu I (.k ha) rx fun s3 I3=>⟨.bl (valV Aw k).isSome,H,I3,rfl,q⟩
end L2
namespace Hb
open L2 PySem
theorem Vf {xs:List (List Int)} (h:IsShape xs):Low xs:=fun i x hx f hf=>by
 have F:=h i x hx
 refine⟨F.low f hf,?_⟩
 obtain⟨q,hq,_⟩:=F.bel f hf
 have:=(List.getElem?_eq_some_iff.mp hq).1
 rw [List.length_take] at this
 have h0:=F.low f hf
 omega
def KI (Aw:List (Key × V)) (ks:List Int):Prop:=Aw.map (·.1)=ks.map (fun k=>(.inl k:Key))
def keyI (ks:List Int) (f:Int):List Int:=if f∈ks then ks else ks++[f]
theorem KI.nil:KI [] []:=rfl
theorem KI.len {Aw:List (Key × V)}{ks:List Int} (h:KI Aw ks):Aw.length=ks.length:=by simpa using congrArg List.length h
theorem KI.mem {Aw:List (Key × V)}{ks:List Int} (h:KI Aw ks) (f:Int):(Aw.any fun kv=>decide (kv.1=(.inl f:Key)))=decide (f∈ks):=by
 rw [Bool.eq_iff_iff]
 simp only [List.any_eq_true,decide_eq_true_eq]
 have e:(∃ x,x∈Aw/\x.1=(.inl f:Key))↔(.inl f:Key)∈Aw.map (·.1):=by
  simp [List.mem_map]
 rw [e,h]
 simp
theorem KI.val {Aw:List (Key × V)}{ks:List Int} (h:KI Aw ks) (f:Int):(valV Aw (.inl f)).isSome=decide (f∈ks):=by
 rw [←M7,h.mem]
theorem KI.put {Aw:List (Key × V)}{ks:List Int} (h:KI Aw ks) (f:Int) (v:V):KI (putK Aw (.inl f) v) (keyI ks f):=by
 unfold putK keyI
 rw [h.mem]
 by_cases hf:f∈ks
 . rw [if_pos hf]
   simp only [hf,decide_true,if_true]
   unfold KI
   rw [List.map_map,←h]
   refine List.map_congr_left fun kv _=>?_
   show (if kv.1=(.inl f:Key) then (kv.1,v) else kv).1=kv.1
   split<;>rfl
 . rw [if_neg hf]
   simp only [hf,decide_false,Bool.false_eq_true,if_false]
   unfold KI
   rw [List.map_append,List.map_append,h]
   rfl
theorem Cy {ks:List Int}{f k:Int}:k∈keyI ks f↔k∈ks\/k=f:=by
 unfold keyI
 split
 . rename_i h
   exact ⟨.inl,fun z=>z.elim id fun e=>e▸h⟩
 . simp
theorem Mp {ks:List Int} (h:ks.Nodup) (f:Int):(keyI ks f).Nodup:=by
 unfold keyI
 split
 . exact h
 . rename_i hf
   rw [List.nodup_append]
   refine⟨h,by simp,fun a ha b hb=>?_⟩
   rw [List.mem_singleton.mp hb]
   exact fun e=>hf (e▸ha)
def Qm:List Int->List Int->List Int
 | ks,[]=>ks
 | ks,f::r=>Qm (keyI ks f) r
theorem KI.merge:∀ (gs:List Int) {Aw:List (Key × V)}{ks:List Int},KI Aw ks->KI (mergeK Aw (gs.map fun g=>((.inl g:Key),V.bl true))) (Qm ks gs)
 | [],_,_,h=>h
 | g::r,_,_,h=>by
   show KI (mergeK (putK _ (.inl g) (.bl true)) (r.map fun g=>((.inl g:Key),V.bl true))) (Qm (keyI _ g) r)
   exact KI.merge r (h.put g _)
theorem Fd {k:Int}:∀{gs ks:List Int},k∈Qm ks gs↔k∈ks\/k∈gs
 | [],ks=>by simp [Qm]
 | g::r,ks=>by
   show k∈Qm (keyI ks g) r↔_
   rw [Fd,Cy,List.mem_cons,or_assoc]
theorem Kp:∀{gs ks:List Int},ks.Nodup->(Qm ks gs).Nodup
 | [],_,h=>h
 | g::r,_,h=>Kp (gs:=r) (Mp h g)
theorem Hj:∀ (n:Nat) {ks:List Int},ks.Nodup->(∀ k∈ks,0<=k/\k<(n:Int))->ks.length<=n
 | 0,ks,_,h=>by
   cases ks with
   | nil=>simp
   | cons a r=>have:=h a (by simp);omega
 | n+1,ks,hn,h=>by
   by_cases hm:(n:Int)∈ks
   . have h1:=Hj n (hn.erase (n:Int)) fun k hk=>by
      rw [hn.mem_erase_iff] at hk
      have:=h k hk.2
      have:=hk.1
      omega
     rw [List.length_erase_of_mem hm] at h1
     omega
   . have:=Hj n hn fun k hk=>by
      have:=h k hk
      have:k≠(n:Int):=fun e=>hm (e▸hk)
      omega
     omega
structure Way (ys:List (List Int)) (gs ks:List Int) (p:Int):Prop where
 nd:ks.Nodup
 rng:∀ k∈ks,0<=k/\k<(ys.length:Int)
 giv:∀ g∈gs,g∈ks
 fac:∀ k∈ks,p<=k->∀ f∈ys.getD k.toNat [],f∈ks
 why:∀ k∈ks,k∈gs\/∃ q∈ks,k∈ys.getD q.toNat []
theorem Way.start {ys:List (List Int)}{gs:List Int} (h:∀ g∈gs,0<=g/\g<(ys.length:Int)):Way ys gs (Qm [] gs) ys.length where
 nd:=Kp List.nodup_nil
 rng:=fun k hk=>h k ((Fd.mp hk).resolve_left (by simp))
 giv:=fun g hg=>Fd.mpr (.inr hg)
 fac:=fun k hk hp=>by have:=h k ((Fd.mp hk).resolve_left (by simp));omega
 why:=fun k hk=>.inl ((Fd.mp hk).resolve_left (by simp))
theorem Way.len {ys:List (List Int)}{gs ks:List Int}{p:Int} (h:Way ys gs ks p):ks.length<=ys.length:=Hj _ h.nd h.rng
theorem m5 {ys:List (List Int)} (hl:Low ys) {p f:Int} (h0:0<=p) (h1:p<(ys.length:Int)) (hf:f∈ys.getD p.toNat []):0<=f/\f<p:=by
 have hq:ys[p.toNat]?=some (ys.getD p.toNat []):=by rw [List.getD_eq_getElem?_getD,List.getElem?_eq_getElem (by omega)];rfl
 have:=hl _ _ hq f hf
 omega
theorem Way.skip {ys:List (List Int)}{gs ks:List Int}{p:Int} (h:Way ys gs ks (p+1)) (hp:p ∉ ks):Way ys gs ks p :=
 ⟨h.nd,h.rng,h.giv,fun k hk hl=>h.fac k hk (by have:k≠p:=fun e=>hp (e▸hk);omega),h.why⟩
structure U0 (ys:List (List Int)) (gs ks:List Int) (p:Int) (m:Nat):Prop extends Way ys gs ks (p+1) where
 here:p∈ks
 some_:∀ f∈(ys.getD p.toNat []).take m,f∈ks
theorem U0.put {ys:List (List Int)}{gs ks:List Int}{p:Int}{m:Nat} (hl:Low ys) (h:U0 ys gs ks p m) (hm:m<(ys.getD p.toNat []).length):U0 ys gs (keyI ks ((ys.getD p.toNat [])[m])) p (m+1):=by
 obtain⟨p0,p1⟩:=h.rng p h.here
 have hf:=m5 hl p0 p1 (List.getElem_mem hm)
 have hfm:=List.getElem_mem hm
 generalize hfe:(ys.getD p.toNat [])[m]=f at hf hfm
 refine⟨⟨Mp h.nd _,fun k hk=>?_,fun g hg=>Cy.mpr (.inl (h.giv g hg)),fun k hk hp f' hf'=>?_,fun k hk=>?_⟩,Cy.mpr (.inl h.here),fun f' hf'=>?_⟩
 . rcases Cy.mp hk with z | z
   . exact h.rng k z
   . omega
 . rcases Cy.mp hk with z | z
   . exact Cy.mpr (.inl (h.fac k z hp f' hf'))
   . omega
 . rcases Cy.mp hk with z | z
   . rcases h.why k z with w|⟨q,hq,w⟩
     . exact .inl w
     . exact .inr ⟨q,Cy.mpr (.inl hq),w⟩
   . exact .inr ⟨p,Cy.mpr (.inl h.here),z▸hfm⟩
 . rw [List.take_succ,List.getElem?_eq_getElem hm,hfe] at hf'
   rcases List.mem_append.mp hf' with z | z
   . exact Cy.mpr (.inl (h.some_ f' z))
   . exact Cy.mpr (.inr (by simpa using z))
theorem U0.done {ys:List (List Int)}{gs ks:List Int}{p:Int} (h:U0 ys gs ks p (ys.getD p.toNat []).length):Way ys gs ks p :=
 ⟨h.nd,h.rng,h.giv,fun k hk hl f hf=>by
  by_cases e:k=p
  . subst e
    exact h.some_ f (by rw [List.take_length];exact hf)
  . exact h.fac k hk (by omega) f hf,h.why⟩
structure Kept (ys:List (List Int)) (gs ms:List Int):Prop where
 up:ms.Pairwise (·<·)
 rng:∀ k∈ms,0<=k/\k<(ys.length:Int)
 giv:∀ g∈gs,g∈ms
 clo:Clo ys ms
 why:∀ k∈ms,k∈gs\/∃ q∈ms,k∈ys.getD q.toNat []
theorem Kept.nd {ys:List (List Int)}{gs ms:List Int} (h:Kept ys gs ms):ms.Nodup:=h.up.imp fun z=>by omega
theorem Kept.len {ys:List (List Int)}{gs ms:List Int} (h:Kept ys gs ms):ms.length<=ys.length:=Hj _ h.nd h.rng
theorem u9 {ms:List Int} (h1:ms.Pairwise (·<=·)) (h2:ms.Nodup):ms.Pairwise (·<·):=by
 induction ms with
 | nil=>exact .nil
 | cons a r ih =>
   rw [List.pairwise_cons] at h1 ⊢
   rw [List.nodup_cons] at h2
   refine⟨fun b hb=>?_,ih h1.2 h2.2⟩
   have:=h1.1 b hb
   have:a≠b:=fun e=>h2.1 (e▸hb)
   omega
theorem Way.kept {ys:List (List Int)}{gs ks ms:List Int} (h:Way ys gs ks 0) (hp:ms.Perm ks) (hs:ms.Pairwise (·<=·)):Kept ys gs ms where
 up:=u9 hs (hp.nodup_iff.mpr h.nd)
 rng:=fun k hk=>h.rng k (hp.mem_iff.mp hk)
 giv:=fun g hg=>hp.mem_iff.mpr (h.giv g hg)
 clo:=fun k hk f hf=>hp.mem_iff.mpr (h.fac k (hp.mem_iff.mp hk) (h.rng k (hp.mem_iff.mp hk)).1 f hf)
 why:=fun k hk=>(h.why k (hp.mem_iff.mp hk)).imp id fun ⟨q,hq,w⟩=>⟨q,hp.mem_iff.mpr hq,w⟩
end Hb
namespace Hb
open L2 PySem
def fc (ys:List (List Int)) (p:Int):List Int:=ys.getD p.toNat []
def lb (fs:List Int) (p:Int):Int:=fs.getD p.toNat 0
def InR (ys:List (List Int)) (p:Int):Prop:=0<=p/\p<(ys.length:Int)
def Gr (ys:List (List Int)):Prop:=∀ p,InR ys p->∀ f∈fc ys p,0<=f/\f<p/\(fc ys f).length<(fc ys p).length/\∀ q,InR ys q->(fc ys q).length<(fc ys p).length->(fc ys q).length<=(fc ys f).length
theorem Gr.rng {ys:List (List Int)} (h:Gr ys) {p f:Int} (hp:InR ys p) (hf:f∈fc ys p):InR ys f:=by
 have:=h p hp f hf
 unfold InR at *
 omega
theorem Gr.same {ys:List (List Int)} (h:Gr ys) {p q f g:Int} (hp:InR ys p) (hq:InR ys q) (e:(fc ys p).length=(fc ys q).length) (hf:f∈fc ys p) (hg:g∈fc ys q):(fc ys f).length=(fc ys g).length:=by
 have h1:=h p hp f hf
 have h2:=h q hq g hg
 have:=h1.2.2.2 g (h.rng hq hg) (by omega)
 have:=h2.2.2.2 f (h.rng hp hf) (by omega)
 omega
structure Lab (ys:List (List Int)) (fs:List Int):Prop where
 len:fs.length=ys.length
 rng:∀ p,InR ys p->0<=lb fs p/\lb fs p<=p
 fix:∀ p,InR ys p->lb fs (lb fs p)=lb fs p
 lev:∀ p,InR ys p->(fc ys (lb fs p)).length=(fc ys p).length
theorem Lab.inR {ys:List (List Int)}{fs:List Int} (h:Lab ys fs) {p:Int} (hp:InR ys p):InR ys (lb fs p):=by
 have:=h.rng p hp
 unfold InR at *
 omega
theorem Qj {ys:List (List Int)}{p:Int} (hp:InR ys p):lb (upN ys.length) p=p:=by
 unfold lb
 obtain⟨h0,h1⟩:=hp
 rw [List.getD_eq_getElem?_getD,R3 (by omega:p.toNat<ys.length)]
 show ((p.toNat:Nat):Int)=p
 omega
theorem Lab.start (ys:List (List Int)):Lab ys (upN ys.length) where
 len:=Ih _
 rng:=fun p hp=>by rw [Qj hp];exact ⟨hp.1,Int.le_refl _⟩
 fix:=fun p hp=>by rw [Qj hp,Qj hp]
 lev:=fun p hp=>by rw [Qj hp]
def mrg (fs:List Int) (lo hi:Int):List Int:=fs.map fun x=>if x=hi then lo else x
theorem m6 {fs:List Int}{lo hi p:Int} (h0:0<=p) (h1:p<(fs.length:Int)):lb (mrg fs lo hi) p=if lb fs p=hi then lo else lb fs p:=by
 unfold lb mrg
 rw [List.getD_eq_getElem?_getD,List.getD_eq_getElem?_getD,List.getElem?_map,List.getElem?_eq_getElem (by omega)]
 rfl
theorem Lab.lbm {ys:List (List Int)}{fs:List Int} (h:Lab ys fs) {lo hi p:Int} (hp:InR ys p):lb (mrg fs lo hi) p=if lb fs p=hi then lo else lb fs p :=
 m6 hp.1 (by rw [h.len];exact hp.2)
theorem Lab.mrg {ys:List (List Int)}{fs:List Int} (h:Lab ys fs) {lo hi:Int} (hlo:InR ys lo) (hhi:InR ys hi) (fl:lb fs lo=lo) (fh:lb fs hi=hi) (hlt:lo<hi) (hlv:(fc ys lo).length=(fc ys hi).length):Lab ys (mrg fs lo hi) where
 len:=by unfold Hb.mrg;rw [List.length_map];exact h.len
 rng:=fun p hp=>by
  rw [h.lbm hp]
  have:=h.rng p hp
  have:=hlo.1
  split<;>omega
 fix:=fun p hp=>by
  rw [h.lbm hp]
  by_cases e:lb fs p=hi
  . rw [if_pos e,h.lbm hlo,fl,if_neg (by omega)]
  . rw [if_neg e,h.lbm (h.inR hp),h.fix p hp,if_neg e]
 lev:=fun p hp=>by
  rw [h.lbm hp]
  have:=h.lev p hp
  split
  . rename_i e;rw [e] at this;omega
  . exact this
theorem Lab.mono {ys:List (List Int)}{fs:List Int} (h:Lab ys fs) {lo hi p q:Int} (hp:InR ys p) (hq:InR ys q) (e:lb fs p=lb fs q):lb (Hb.mrg fs lo hi) p=lb (Hb.mrg fs lo hi) q:=by
 rw [h.lbm hp,h.lbm hq,e]
theorem Lab.split {ys:List (List Int)}{fs:List Int} (h:Lab ys fs) {lo hi p q:Int} (hp:InR ys p) (hq:InR ys q) (e:lb (Hb.mrg fs lo hi) p=lb (Hb.mrg fs lo hi) q) :
 lb fs p=lb fs q\/(lb fs p=hi/\lb fs q=lo)\/(lb fs p=lo/\lb fs q=hi):=by
 rw [h.lbm hp,h.lbm hq] at e
 by_cases e1:lb fs p=hi
 . by_cases e2:lb fs q=hi
   . exact .inl (e1.trans e2.symm)
   . rw [if_pos e1,if_neg e2] at e
     exact .inr (.inl ⟨e1,e.symm⟩)
 . by_cases e2:lb fs q=hi
   . rw [if_neg e1,if_pos e2] at e
     exact .inr (.inr ⟨e,e2⟩)
   . rw [if_neg e1,if_neg e2] at e
     exact .inl e
def Clsd (ys:List (List Int)) (fs:List Int) (m:Nat):Prop:=∀ p q,InR ys p->InR ys q->(fc ys p).length<=m->lb fs p=lb fs q->∀ (i:Nat) f g,(fc ys p)[i]?=some f->(fc ys q)[i]?=some g->lb fs f=lb fs g
structure Cong (ys:List (List Int)) (T:Int->Int->Prop):Prop where
 refl:∀ p,T p p
 symm:∀ p q,T p q->T q p
 trans:∀ p q r,T p q->T q r->T p r
 face:∀ p q,T p q->InR ys p->InR ys q->∀ (i:Nat) f g,(fc ys p)[i]?=some f->(fc ys q)[i]?=some g->T f g
def Tl (ys:List (List Int)) (fs:List Int) (T:Int->Int->Prop):Prop:=∀ p q,InR ys p->InR ys q->lb fs p=lb fs q->T p q
theorem O7 {ys:List (List Int)}{fs:List Int}{T:Int->Int->Prop} (h:Lab ys fs) (c:Cong ys T) (u:Tl ys fs T) {lo hi:Int} (hlo:InR ys lo) (hhi:InR ys hi) (fl:lb fs lo=lo) (fh:lb fs hi=hi) (t:T lo hi):Tl ys (mrg fs lo hi) T:=fun p q hp hq e=>by
 rcases h.split hp hq e with z|⟨z1,z2⟩|⟨z1,z2⟩
 . exact u p q hp hq z
 . exact c.trans _ _ _ (u p hi hp hhi (z1.trans fh.symm)) (c.trans _ _ _ (c.symm _ _ t) (u lo q hlo hq (fl.trans z2.symm)))
 . exact c.trans _ _ _ (u p lo hp hlo (z1.trans fl.symm)) (c.trans _ _ _ t (u hi q hhi hq (fh.trans z2.symm)))
structure Ic (ys:List (List Int)) (fs:List Int) (k:Nat) (zs:List (Int × Int)) (gs:List Int):Prop where
 lab:Lab ys gs
 mono:∀ p q,InR ys p->InR ys q->lb fs p=lb fs q->lb gs p=lb gs q
 join:∀ z∈zs,lb gs z.1=lb gs z.2
 clo:Clsd ys gs k
 up:∀ p q,InR ys p->InR ys q->k<(fc ys p).length->lb gs p=lb gs q->lb fs p=lb fs q
 snd:∀ T,Cong ys T->Tl ys fs T->(∀ z∈zs,T z.1 z.2)->Tl ys gs T
theorem Ic.refl {ys:List (List Int)}{fs:List Int}{k:Nat} (h:Lab ys fs) (c:Clsd ys fs k):Ic ys fs k [] fs :=
 ⟨h,fun _ _ _ _ e=>e,fun z hz=>(by cases hz),c,fun _ _ _ _ _ e=>e,fun _ _ u _=>u⟩
theorem Ic.then {ys:List (List Int)}{fs gs hs:List Int}{k:Nat}{z:Int × Int}{zs:List (Int × Int)} (hz:InR ys z.1/\InR ys z.2) (h1:Ic ys fs k [z] gs) (h2:Ic ys gs k zs hs):Ic ys fs k (z::zs) hs where
 lab:=h2.lab
 mono:=fun p q hp hq e=>h2.mono p q hp hq (h1.mono p q hp hq e)
 join:=fun y hy=>by
  rcases List.mem_cons.mp hy with e | e
  . subst e
    exact h2.mono _ _ hz.1 hz.2 (h1.join _ (by simp))
  . exact h2.join y e
 clo:=h2.clo
 up:=fun p q hp hq hk e=>h1.up p q hp hq hk (h2.up p q hp hq hk e)
 snd:=fun T c u t=>h2.snd T c (h1.snd T c u fun y hy=>t y (by rw [List.mem_singleton.mp hy];simp)) fun y hy=>t y (List.mem_cons_of_mem _ hy)
def Ey:Nat->List (List Int)->List Int->Int->Int->List Int
 | 0,_,fs,_,_=>fs
 | d+1,ys,fs,a,b=>if lb fs a=lb fs b then fs else ((fc ys a).zip (fc ys b)).foldl (fun t z=>Ey d ys t z.1 z.2) (mrg fs (min (lb fs a) (lb fs b)) (max (lb fs a) (lb fs b)))
theorem S5 {ys:List (List Int)}{k d:Nat} (step:∀ t f g,Lab ys t->InR ys f->InR ys g->(fc ys f).length=k->(fc ys g).length=k->Clsd ys t k->Ic ys t k [(f,g)] (Ey d ys t f g)) :
 ∀ (zs:List (Int × Int)) (t:List Int),Lab ys t->Clsd ys t k->(∀ z∈zs,InR ys z.1/\InR ys z.2/\(fc ys z.1).length=k/\(fc ys z.2).length=k)->Ic ys t k zs (zs.foldl (fun t z=>Ey d ys t z.1 z.2) t)
 | [],t,h,c,_=>.refl h c
 | z::zs,t,h,c,hz=>by
   obtain⟨z1,z2,z3,z4⟩:=hz z (by simp)
   have h1:=step t z.1 z.2 h z1 z2 z3 z4 c
   exact .then ⟨z1,z2⟩ h1 (S5 step zs _ h1.lab h1.clo fun y hy=>hz y (List.mem_cons_of_mem _ hy))
theorem c7 {α β:Type}{x:List α}{y:List β}{i:Nat}{a:α}{b:β} (ha:x[i]?=some a) (hb:y[i]?=some b):(a,b)∈x.zip y:=by
 refine List.mem_of_getElem? (i:=i) ?_
 rw [List.getElem?_zip_eq_some]
 exact ⟨ha,hb⟩
theorem Oh {ys:List (List Int)} (G:Gr ys):∀ (d:Nat) (fs:List Int) (a b:Int),Lab ys fs->InR ys a->InR ys b->(fc ys a).length=(fc ys b).length->(fc ys a).length<d->Clsd ys fs (fc ys a).length →
 Ic ys fs (fc ys a).length [(a,b)] (Ey d ys fs a b)
 | 0,_,_,_,_,_,_,_,hd,_=>absurd hd (by omega)
 | d+1,fs,a,b,h,ha,hb,e,hd,c=>by
   unfold Ey
   by_cases hab:lb fs a=lb fs b
   . rw [if_pos hab]
     exact ⟨h,fun _ _ _ _ e=>e,fun z hz=>by rw [List.mem_singleton.mp hz];exact hab,c,fun _ _ _ _ _ e=>e,fun _ _ u _=>u⟩
   . rw [if_neg hab]
     obtain⟨lo,hlo⟩:∃ lo,lo=min (lb fs a) (lb fs b):=⟨_,rfl⟩
     obtain⟨hi,hhi⟩:∃ hi,hi=max (lb fs a) (lb fs b):=⟨_,rfl⟩
     rw [←hlo,←hhi]
     have hcase:(lo=lb fs a/\hi=lb fs b)\/(lo=lb fs b/\hi=lb fs a):=by omega
     have rlo:InR ys lo:=by rcases hcase with z | z<;>rw [z.1]<;>first | exact h.inR ha | exact h.inR hb
     have rhi:InR ys hi:=by rcases hcase with z | z<;>rw [z.2]<;>first | exact h.inR ha | exact h.inR hb
     have fl:lb fs lo=lo:=by rcases hcase with z | z<;>rw [z.1]<;>first | exact h.fix a ha | exact h.fix b hb
     have fh:lb fs hi=hi:=by rcases hcase with z | z<;>rw [z.2]<;>first | exact h.fix a ha | exact h.fix b hb
     have hlt:lo<hi:=by omega
     have la:=h.lev a ha
     have lb':=h.lev b hb
     have hlv:(fc ys lo).length=(fc ys hi).length:=by rcases hcase with z | z<;>rw [z.1,z.2]<;>omega
     have hm:=h.mrg rlo rhi fl fh hlt hlv
     have mm:∀ p q,InR ys p->InR ys q->lb fs p=lb fs q->lb (mrg fs lo hi) p=lb (mrg fs lo hi) q:=fun p q hp hq z=>h.mono hp hq z
     have hjoin:lb (mrg fs lo hi) a=lb (mrg fs lo hi) b:=by
      rw [h.lbm ha,h.lbm hb]
      rcases hcase with ⟨z1,z2⟩|⟨z1,z2⟩
      . rw [←z1,←z2,if_pos rfl,if_neg (by omega)]
      . rw [←z1,←z2,if_pos rfl,if_neg (by omega)]
     have tlh:∀ T,Cong ys T->Tl ys fs T->T a b->T lo hi:=fun T cT u t=>by
      have t1:=u (lb fs a) a (h.inR ha) ha (h.fix a ha)
      have t2:=u b (lb fs b) hb (h.inR hb) (h.fix b hb).symm
      have t3:=cT.trans _ _ _ (cT.trans _ _ _ t1 t) t2
      rcases hcase with ⟨z1,z2⟩|⟨z1,z2⟩
      . rw [z1,z2];exact t3
      . rw [z1,z2];exact cT.symm _ _ t3
     have lots:∀ p q,InR ys p->InR ys q->lb (mrg fs lo hi) p=lb (mrg fs lo hi) q->lb fs p=lb fs q\/(lb fs p=lb fs a/\lb fs q=lb fs b)\/(lb fs p=lb fs b/\lb fs q=lb fs a):=fun p q hp hq z=>by
      rcases h.split hp hq z with w|⟨w1,w2⟩|⟨w1,w2⟩
      . exact .inl w
      . rcases hcase with ⟨z1,z2⟩|⟨z1,z2⟩
        . exact .inr (.inr ⟨w1.trans z2,w2.trans z1⟩)
        . exact .inr (.inl ⟨w1.trans z2,w2.trans z1⟩)
      . rcases hcase with ⟨z1,z2⟩|⟨z1,z2⟩
        . exact .inr (.inl ⟨w1.trans z1,w2.trans z2⟩)
        . exact .inr (.inr ⟨w1.trans z1,w2.trans z2⟩)
     have levs:∀ p q,InR ys p->InR ys q->lb fs p=lb fs q->(fc ys p).length=(fc ys q).length:=fun p q hp hq z=>by
      have h1:=h.lev p hp
      have h2:=h.lev q hq
      rw [z] at h1
      omega
     have upm:∀ p q,InR ys p->InR ys q->(fc ys p).length≠(fc ys a).length->lb (mrg fs lo hi) p=lb (mrg fs lo hi) q->lb fs p=lb fs q:=fun p q hp hq hn z=>by
      rcases lots p q hp hq z with w|⟨w,_⟩|⟨w,_⟩
      . exact w
      . exact absurd (levs p a hp ha w) hn
      . exact absurd ((levs p b hp hb w).trans e.symm) hn
     cases hfa:fc ys a with
     | nil =>
       have ez:((([]:List Int).zip (fc ys b)).foldl (fun t z=>Ey d ys t z.1 z.2) (mrg fs lo hi))=mrg fs lo hi:=by rw [List.zip_nil_left];rfl
       rw [ez]
       refine⟨hm,mm,fun z hz=>by rw [List.mem_singleton.mp hz];exact hjoin,fun p q hp hq hl _ i f g hf _=>?_,fun p q hp hq hk z=>upm p q hp hq (by rw [hfa];exact Nat.ne_of_gt hk) z,fun T cT u t=>O7 h cT u rlo rhi fl fh (tlh T cT u (t (a,b) (by simp)))⟩
       have:(fc ys p)=[]:=List.eq_nil_of_length_eq_zero (by simpa using hl)
       rw [this] at hf
       simp at hf
     | cons f0 r0 =>
       rw [←hfa]
       have hf0:f0∈fc ys a:=by rw [hfa];simp
       have g0:=G a ha f0 hf0
       have rf0:=G.rng ha hf0
       obtain⟨k,hk⟩:∃ k,k=(fc ys f0).length:=⟨_,rfl⟩
       have cm:Clsd ys (mrg fs lo hi) k:=fun p q hp hq hl z i f g hf hg=>by
        have hne:(fc ys p).length≠(fc ys a).length:=by omega
        have z':=upm p q hp hq hne z
        have:=c p q hp hq (by omega) z' i f g hf hg
        exact mm f g (G.rng hp (List.mem_of_getElem? hf)) (G.rng hq (List.mem_of_getElem? hg)) this
       have hzs:∀ z∈(fc ys a).zip (fc ys b),InR ys z.1/\InR ys z.2/\(fc ys z.1).length=k/\(fc ys z.2).length=k:=fun z hz=>by
        have m1:=(List.of_mem_zip hz).1
        have m2:=(List.of_mem_zip hz).2
        refine⟨G.rng ha m1,G.rng hb m2,?_,?_⟩
        . rw [hk];exact G.same ha ha rfl m1 hf0
        . rw [hk];exact G.same hb ha e.symm m2 hf0
       have J:=S5 (d:=d) (k:=k) (fun t f g ht hf hg ef eg ct=>by
        have:=Oh G d t f g ht hf hg (by omega) (by omega) (by rw [ef];exact ct)
        rw [ef] at this
        exact this) _ _ hm cm hzs
       refine⟨J.lab,fun p q hp hq z=>J.mono p q hp hq (mm p q hp hq z),fun z hz=>?_,fun p q hp hq hl z i f g hf hg=>?_,fun p q hp hq hk' z=>upm p q hp hq (by omega) (J.up p q hp hq (by omega) z),fun T cT u t=>?_⟩
       . rw [List.mem_singleton.mp hz]
         exact J.mono a b ha hb hjoin
       . by_cases hlt':(fc ys p).length<(fc ys a).length
         . have:=g0.2.2.2 p hp hlt'
           exact J.clo p q hp hq (by omega) z i f g hf hg
         . have ep:(fc ys p).length=(fc ys a).length:=by omega
           have z':=J.up p q hp hq (by omega) z
           have rf:=G.rng hp (List.mem_of_getElem? hf)
           have rg:=G.rng hq (List.mem_of_getElem? hg)
           have il:i<(fc ys p).length:=(List.getElem?_eq_some_iff.mp hf).1
           have ha':(fc ys a)[i]?=some ((fc ys a)[i]'(by omega)):=List.getElem?_eq_getElem (by omega)
           have hb':(fc ys b)[i]?=some ((fc ys b)[i]'(by omega)):=List.getElem?_eq_getElem (by omega)
           have ra:=G.rng ha (List.mem_of_getElem? ha')
           have rb:=G.rng hb (List.mem_of_getElem? hb')
           have up2:∀ x y,InR ys x->InR ys y->lb fs x=lb fs y->lb (((fc ys a).zip (fc ys b)).foldl (fun t z=>Ey d ys t z.1 z.2) (mrg fs lo hi)) x=lb (((fc ys a).zip (fc ys b)).foldl (fun t z=>Ey d ys t z.1 z.2) (mrg fs lo hi)) y:=fun x y hx hy w=>J.mono x y hx hy (mm x y hx hy w)
           have jab:=J.join _ (c7 ha' hb')
           rcases lots p q hp hq z' with w|⟨w1,w2⟩|⟨w1,w2⟩
           . exact up2 f g rf rg (c p q hp hq (by omega) w i f g hf hg)
           . have s1:=up2 _ _ rf ra (c p a hp ha (by omega) w1 i _ _ hf ha')
             have s2:=up2 _ _ rb rg (c b q hb hq (by omega) w2.symm i _ _ hb' hg)
             exact s1.trans (jab.trans s2)
           . have s1:=up2 _ _ rf rb (c p b hp hb (by omega) w1 i _ _ hf hb')
             have s2:=up2 _ _ ra rg (c a q ha hq (by omega) w2.symm i _ _ ha' hg)
             exact s1.trans (jab.symm.trans s2)
       . have tab:=t (a,b) (by simp)
         refine J.snd T cT (O7 h cT u rlo rhi fl fh (tlh T cT u tab)) fun z hz=>?_
         obtain⟨i,hi'⟩:=List.getElem?_of_mem hz
         rw [List.getElem?_zip_eq_some] at hi'
         exact cT.face a b tab ha hb i _ _ hi'.1 hi'.2
def Glu (ys:List (List Int)) (ps:List (Int × Int)) (p q:Int):Prop:=∀ T,Cong ys T->(∀ z∈ps,T z.1 z.2)->T p q
theorem Glu.cong (ys:List (List Int)) (ps:List (Int × Int)):Cong ys (Glu ys ps) where
 refl:=fun p T c _=>c.refl p
 symm:=fun p q h T c t=>c.symm _ _ (h T c t)
 trans:=fun p q r h1 h2 T c t=>c.trans _ _ _ (h1 T c t) (h2 T c t)
 face:=fun p q h hp hq i f g hf hg T c t=>c.face p q (h T c t) hp hq i f g hf hg
theorem Glu.base {ys:List (List Int)}{ps:List (Int × Int)}{z:Int × Int} (h:z∈ps):Glu ys ps z.1 z.2:=fun T _ t=>t z h
def Yn (ys:List (List Int)) (fs:List Int) (p q:Int):Prop:=p=q\/(InR ys p/\InR ys q/\lb fs p=lb fs q)
theorem Yn.cong {ys:List (List Int)} (G:Gr ys) {fs:List Int} (c:∀ p q,InR ys p->InR ys q->lb fs p=lb fs q->∀ (i:Nat) f g,(fc ys p)[i]?=some f->(fc ys q)[i]?=some g->lb fs f=lb fs g):Cong ys (Yn ys fs) where
 refl:=fun p=>.inl rfl
 symm:=fun p q h=>h.elim (fun e=>.inl e.symm) fun ⟨a,b,e⟩=>.inr ⟨b,a,e.symm⟩
 trans:=fun p q r h1 h2=>by
  rcases h1 with rfl|⟨a,b,e⟩
  . exact h2
  . rcases h2 with rfl|⟨a',b',e'⟩
    . exact .inr ⟨a,b,e⟩
    . exact .inr ⟨a,b',e.trans e'⟩
 face:=fun p q h hp hq i f g hf hg=>by
  rcases h with rfl|⟨a,b,e⟩
  . rw [hf] at hg
    exact .inl (Option.some.inj hg)
  . exact .inr ⟨G.rng a (List.mem_of_getElem? hf),G.rng b (List.mem_of_getElem? hg),c p q a b e i f g hf hg⟩
def a9 (ys:List (List Int)) (ps:List (Int × Int)) (fs:List Int):Prop:=∀ p q,InR ys p->InR ys q->(lb fs p=lb fs q↔Glu ys ps p q)
theorem Xm {ys:List (List Int)} (G:Gr ys) {ps:List (Int × Int)}{fs:List Int} (hps:∀ z∈ps,InR ys z.1/\InR ys z.2) (c:∀ p q,InR ys p->InR ys q->lb fs p=lb fs q->∀ (i:Nat) f g,(fc ys p)[i]?=some f->(fc ys q)[i]?=some g->lb fs f=lb fs g)
 (hj:∀ z∈ps,lb fs z.1=lb fs z.2) (u:Tl ys fs (Glu ys ps)):a9 ys ps fs:=fun p q hp hq=>by
 refine⟨u p q hp hq,fun h=>?_⟩
 rcases h (Yn ys fs) (Yn.cong G c) fun z hz=>.inr ⟨(hps z hz).1,(hps z hz).2,hj z hz⟩ with e|⟨_,_,e⟩
 . rw [e]
 . exact e
structure Mj (ys:List (List Int)) (all ps:List (Int × Int)) (fs:List Int):Prop where
 lab:Lab ys fs
 clo:Clsd ys fs 4
 join:∀ z∈ps,lb fs z.1=lb fs z.2
 snd:Tl ys fs (Glu ys all)
theorem Mj.start {ys:List (List Int)}{all:List (Int × Int)}:Mj ys all [] (upN ys.length) where
 lab:=Lab.start ys
 clo:=fun p q hp hq _ e i f g hf hg=>by
  rw [Qj hp,Qj hq] at e
  subst e
  rw [hf] at hg
  rw [Option.some.inj hg]
 join:=fun z hz=>by cases hz
 snd:=fun p q hp hq e=>by
  rw [Qj hp,Qj hq] at e
  subst e
  exact (Glu.cong ys all).refl p
theorem Mj.step {ys:List (List Int)} (G:Gr ys) (h4:∀ p,InR ys p->(fc ys p).length<=4) {all ps:List (Int × Int)}{fs:List Int}{a b:Int} (h:Mj ys all ps fs) (ha:InR ys a) (hb:InR ys b) (e:(fc ys a).length=(fc ys b).length) (hm:(a,b)∈all)
 (hps:∀ z∈ps,InR ys z.1/\InR ys z.2):Mj ys all (ps++[(a,b)]) (Ey 5 ys fs a b):=by
 have l4:=h4 a ha
 have J:=Oh G 5 fs a b h.lab ha hb e (by omega) fun p q hp hq hl z=>h.clo p q hp hq (by omega) z
 refine⟨J.lab,fun p q hp hq hl z i f g hf hg=>?_,fun z hz=>?_,J.snd _ (Glu.cong ys all) h.snd fun z hz=>by rw [List.mem_singleton.mp hz];exact Glu.base hm⟩
 . by_cases hk:(fc ys p).length<=(fc ys a).length
   . exact J.clo p q hp hq hk z i f g hf hg
   . exact J.mono f g (G.rng hp (List.mem_of_getElem? hf)) (G.rng hq (List.mem_of_getElem? hg)) (h.clo p q hp hq hl (J.up p q hp hq (by omega) z) i f g hf hg)
 . rcases List.mem_append.mp hz with w | w
   . exact J.mono _ _ (hps z w).1 (hps z w).2 (h.join z w)
   . exact J.join z w
theorem Mj.tells {ys:List (List Int)} (G:Gr ys) (h4:∀ p,InR ys p->(fc ys p).length<=4) {ps:List (Int × Int)}{fs:List Int} (h:Mj ys ps ps fs) (hps:∀ z∈ps,InR ys z.1/\InR ys z.2):a9 ys ps fs :=
 Xm G hps (fun p q hp hq z=>h.clo p q hp hq (h4 p hp) z) h.join h.snd
end Hb
namespace Hb
open L2 PySem
theorem Ky (p:Int):∀{x:List Int},p∈x->(nums x).findIdx? (fun e=>eqD e (.int p))=some (x.findIdx (·==p))
 | [],h=>by cases h
 | a::r,h=>by
   have en:nums (a::r)=.int a::nums r:=rfl
   rw [en,List.findIdx?_cons,List.findIdx_cons]
   by_cases e:a=p
   . subst e
     simp [eqD]
   . have h':p∈r:=(List.mem_cons.mp h).resolve_left fun z=>e z.symm
     have e1:eqD (.int a) (.int p)=false:=by simp [eqD,e]
     have e2:(a==p)=false:=by simp [e]
     rw [e1,e2,Ky p h']
     simp
theorem Hn {ms:List Int}{j:Nat}{x:V} (hx:(ms.map V.int)[j]?=some x):∃ h:j<ms.length,x=.int ms[j]:=by
 have hj:j<ms.length:=by have:=(List.getElem?_eq_some_iff.mp hx).1;simpa using this
 refine⟨hj,?_⟩
 rw [List.getElem?_map,List.getElem?_eq_getElem hj] at hx
 simpa using hx.symm
section
variable (K:W.Frag)
def C3:Sp:=fun vs H Q _=>∃ (a b:Addr) (ys:List (List Int)) (gs:List Int),vs=[.ref a,.ref b]/\LT K H (.ref a) ys/\SqL K H b (gs.map V.int)/\Low ys/\ys.length<=60/\(∀ y∈ys,y.length<=4)/\(∀ g∈gs,0<=g/\g<(ys.length:Int))/\gs.length<=1000 ∧
 ∀ (D:Addr) (ms:List Int) (H':Hp),H D=none->Same H H'->H' D=some (.lst (ms.map V.int))->Kept ys gs ms->Q (.ref D) H'
end
end Hb
namespace L2
open PySem PySem.Spec PyProof.Rows
theorem Yb {K:W.Frag}{a b:Addr}{xs ys:List V}{n:Nat}{g:TG}{tb:TS}{D:Ends}{σ:St}{H:Hp} (hn:xs.length=n/\ys.length=n) (Pv:Nat->St->Hp->Prop) (h0:Pv 0 σ H) (hl:∀ i σ H,i<=n->Pv i σ H->SqT K H a xs/\SqT K H b ys)
 (hs:∀ i x y σ H p,xs[i]?=some x->ys[i]?=some y->Pv i σ H->H p=none->g (.ref p) σ (upd H p (.tup [x,y])) fun σ2 H2=>tb { D with nx:=Pv (i+1),ct:=Pv (i+1),bk:=D.nx } σ2 H2) (hd:∀ σ H,Pv n σ H->D.nx σ H) :
 ∃ W:Nat->Nat->St->Hp->Prop,(∃ m,W 0 m σ H)/\∀ i m σ H,W i m σ H →
   ((Ityp K a b).stop i H/\D.nx σ H)\/((Ityp K a b).go i H/\∃ N:St->Hp->Prop,(∀ σ' H',N σ' H'->∃ m',m'<m/\W (i+1) m' σ' H')/\∀ x H',(Ityp K a b).yld i H x H'->g x σ H' fun σ2 H2=>tb { D with nx:=N,ct:=N,bk:=D.nx } σ2 H2):=by
 refine⟨fun i m σ H=>m=n-i/\i<=n/\Pv i σ H,⟨n,by simp,Nat.zero_le _,h0⟩,?_⟩
 rintro i m σ H ⟨rfl,hi,pp⟩
 obtain⟨qa,qb⟩:=hl i σ H hi pp
 by_cases hlt:i<n
 . refine .inr ⟨⟨xs,ys,xs[i],ys[i],qa,qb,by simp<;>omega,by simp<;>omega⟩,Pv (i+1),fun σ' H' p'=>⟨n-(i+1),by omega,rfl,hlt,p'⟩,fun x H' y=>?_⟩
   obtain⟨p,u,v,hp,rfl,rfl,y1,y2⟩:=y
   exact hs i u v σ _ p (y1 xs qa) (y2 ys qb) pp hp
 . have e:i=n:=by omega
   subst e
   exact .inl ⟨⟨xs,ys,qa,qb,by omega⟩,hd σ H pp⟩
end L2
namespace Hb
open L2 PySem
theorem T3 {ys:List (List Int)}{p:Int} (hp:InR ys p):ys[p.toNat]?=some (fc ys p):=by
 obtain⟨h0,h1⟩:=hp
 unfold fc
 rw [List.getD_eq_getElem?_getD,List.getElem?_eq_getElem (by omega)]
 rfl
theorem Aa5 {ys:List (List Int)} (h:IsShape ys):Gr ys:=fun p hp f hf=>by
 have cnt:∀ q,InR ys q->(fc ys q).length=0\/(fc ys q).length=2\/(fc ys q).length=3\/(fc ys q).length=4:=fun q hq=>(h _ _ (T3 hq)).cnt
 have F:=h _ _ (T3 hp)
 have f0:=F.low f hf
 obtain⟨q,hq,hl⟩:=F.bel f hf
 have hlt:=(List.getElem?_eq_some_iff.mp hq).1
 rw [List.length_take] at hlt
 have p0:=hp.1
 have rf:InR ys f:=⟨f0,by have:=hp.2;omega⟩
 have eq:fc ys f=q:=by
  have h1:ys[f.toNat]?=some q:=by
   rw [List.getElem?_take] at hq
   split at hq
   . exact hq
   . cases hq
  rw [T3 rf] at h1
  exact Option.some.inj h1
 unfold lev at hl
 rw [←eq] at hl
 have hpos:0<(fc ys p).length:=List.length_pos_of_mem hf
 have c1:=cnt f rf
 have c2:=cnt p hp
 refine⟨f0,by omega,by omega,fun r hr hrl=>?_⟩
 have c3:=cnt r hr
 omega
theorem r6 {ys:List (List Int)} (h:∀ y∈ys,y.length<=4) (p:Int) (hp:InR ys p):(fc ys p).length<=4:=h _ (List.mem_of_getElem? (T3 hp))
theorem X7 {ys:List (List Int)} (G:Gr ys) {d:Nat}{fs:List Int}{a b:Int} (h:Lab ys fs) (ha:InR ys a) (hb:InR ys b) (e:(fc ys a).length=(fc ys b).length) (hd:(fc ys a).length<d+1) (c:Clsd ys fs (fc ys a).length) (hab:¬lb fs a=lb fs b) {m:Nat}{z:Int × Int}
 (hz:((fc ys a).zip (fc ys b))[m]?=some z) :
 Lab ys ((((fc ys a).zip (fc ys b)).take m).foldl (fun t z=>Ey d ys t z.1 z.2) (mrg fs (min (lb fs a) (lb fs b)) (max (lb fs a) (lb fs b)))) ∧
 Clsd ys ((((fc ys a).zip (fc ys b)).take m).foldl (fun t z=>Ey d ys t z.1 z.2) (mrg fs (min (lb fs a) (lb fs b)) (max (lb fs a) (lb fs b)))) (fc ys z.1).length/\InR ys z.1/\InR ys z.2/\(fc ys z.1).length=(fc ys z.2).length/\(fc ys z.1).length<d:=by
 obtain⟨lo,hlo⟩:∃ lo,lo=min (lb fs a) (lb fs b):=⟨_,rfl⟩
 obtain⟨hi,hhi⟩:∃ hi,hi=max (lb fs a) (lb fs b):=⟨_,rfl⟩
 rw [←hlo,←hhi]
 have hcase:(lo=lb fs a/\hi=lb fs b)\/(lo=lb fs b/\hi=lb fs a):=by omega
 have rlo:InR ys lo:=by rcases hcase with z | z<;>rw [z.1]<;>first | exact h.inR ha | exact h.inR hb
 have rhi:InR ys hi:=by rcases hcase with z | z<;>rw [z.2]<;>first | exact h.inR ha | exact h.inR hb
 have fl:lb fs lo=lo:=by rcases hcase with z | z<;>rw [z.1]<;>first | exact h.fix a ha | exact h.fix b hb
 have fh:lb fs hi=hi:=by rcases hcase with z | z<;>rw [z.2]<;>first | exact h.fix a ha | exact h.fix b hb
 have hlt:lo<hi:=by omega
 have la:=h.lev a ha
 have lb':=h.lev b hb
 have hlv:(fc ys lo).length=(fc ys hi).length:=by rcases hcase with z | z<;>rw [z.1,z.2]<;>omega
 have hm:=h.mrg rlo rhi fl fh hlt hlv
 have lots:∀ p q,InR ys p->InR ys q->lb (mrg fs lo hi) p=lb (mrg fs lo hi) q->lb fs p=lb fs q\/lb fs p=lb fs a\/lb fs p=lb fs b:=fun p q hp hq z=>by
  rcases h.split hp hq z with w|⟨w1,w2⟩|⟨w1,w2⟩
  . exact .inl w
  . rcases hcase with ⟨z1,z2⟩|⟨z1,z2⟩
    . exact .inr (.inr (w1.trans z2))
    . exact .inr (.inl (w1.trans z2))
  . rcases hcase with ⟨z1,z2⟩|⟨z1,z2⟩
    . exact .inr (.inl (w1.trans z1))
    . exact .inr (.inr (w1.trans z1))
 have levs:∀ p q,InR ys p->InR ys q->lb fs p=lb fs q->(fc ys p).length=(fc ys q).length:=fun p q hp hq z=>by
  have h1:=h.lev p hp
  have h2:=h.lev q hq
  rw [z] at h1
  omega
 have upm:∀ p q,InR ys p->InR ys q->(fc ys p).length≠(fc ys a).length->lb (mrg fs lo hi) p=lb (mrg fs lo hi) q->lb fs p=lb fs q:=fun p q hp hq hn z=>by
  rcases lots p q hp hq z with w | w | w
  . exact w
  . exact absurd (levs p a hp ha w) hn
  . exact absurd ((levs p b hp hb w).trans e.symm) hn
 have hzm:=List.mem_of_getElem? hz
 have m1:=(List.of_mem_zip hzm).1
 have m2:=(List.of_mem_zip hzm).2
 have g0:=G a ha z.1 m1
 have cm:Clsd ys (mrg fs lo hi) (fc ys z.1).length:=fun p q hp hq hl w i f g hf hg=>by
  have hne:(fc ys p).length≠(fc ys a).length:=by omega
  have:=c p q hp hq (by omega) (upm p q hp hq hne w) i f g hf hg
  exact h.mono (G.rng hp (List.mem_of_getElem? hf)) (G.rng hq (List.mem_of_getElem? hg)) this
 have J:=S5 (d:=d) (k:=(fc ys z.1).length) (fun t f g ht hf hg ef eg ct=>by
  have:=Oh G d t f g ht hf hg (by omega) (by omega) (by rw [ef];exact ct)
  rw [ef] at this
  exact this) (((fc ys a).zip (fc ys b)).take m) _ hm cm fun y hy=>by
   have hy':=List.mem_of_mem_take hy
   have n1:=(List.of_mem_zip hy').1
   have n2:=(List.of_mem_zip hy').2
   exact ⟨G.rng ha n1,G.rng hb n2,G.same ha ha rfl n1 m1,G.same hb ha e.symm n2 m1⟩
 exact ⟨J.lab,J.clo,G.rng ha m1,G.rng hb m2,G.same ha hb e m1 m2,by omega⟩
def pr (z:Int × Int):List Int:=[z.1,z.2]
def fixP (fs:List Int):List Int:=(upN fs.length).filter fun p=>decide (lb fs p=p)
def gluP (fs:List Int):List Int:=fs.map (ren (fixP fs))
theorem m7 {fs:List Int}{i:Nat} (hi:i<fs.length):lb fs (i:Int)=fs[i]:=by
 unfold lb
 rw [Int.toNat_natCast,List.getD_eq_getElem?_getD,List.getElem?_eq_getElem hi]
 rfl
def fixN (fs:List Int) (n:Nat):List Int:=(upN n).filter fun p=>decide (lb fs p=p)
theorem Wb (fs:List Int) (n:Nat):fixN fs (n+1)=fixN fs n++(if lb fs (n:Int)=(n:Int) then [(n:Int)] else []):=by
 unfold fixN
 rw [Xl,List.filter_append]
 by_cases e:lb fs (n:Int)=(n:Int)
 . rw [if_pos e,List.filter_cons_of_pos (by simpa using e),List.filter_nil]
 . rw [if_neg e,List.filter_cons_of_neg (by simpa using e),List.filter_nil]
theorem T2 (fs:List Int) (n:Nat):(fixN fs n).length<=n:=Nat.le_trans (List.length_filter_le ..) (by rw [Ih];exact Nat.le_refl _)
theorem Tw {fs:List Int}{n:Nat}{p:Int}:p∈fixN fs n↔(0<=p/\p<(n:Int))/\lb fs p=p:=by
 unfold fixN
 rw [List.mem_filter,Zt,decide_eq_true_eq]
theorem Zu {ys:List (List Int)}{fs:List Int} (h:Lab ys fs) {p:Int} (hp:InR ys p):lb fs p∈fixP fs:=by
 have h1:=h.inR hp
 have:lb fs p∈fixN fs fs.length:=Tw.mpr ⟨⟨h1.1,by rw [h.len];exact h1.2⟩,h.fix p hp⟩
 exact this
theorem X9 (fs:List Int):(gluP fs).length=fs.length:=List.length_map ..
section
variable (K:W.Frag)
def O4 (ys:List (List Int)) (ps:List (Int × Int)):Prop:=∀ z∈ps,InR ys z.1/\InR ys z.2/\(fc ys z.1).length=(fc ys z.2).length
def Cg (dd:Nat):Sp:=fun vs H Q _=>∃ (a l:Addr) (ys:List (List Int)) (fs:List Int) (i j:Int),vs=[.ref a,.ref l,.int i,.int j]/\LT K H (.ref a) ys/\SqL K H l (fs.map V.int)/\Gr ys/\(∀ y∈ys,y.length<=4)/\ys.length<=63/\Lab ys fs/\InR ys i/\InR ys j/\(fc ys i).length=(fc ys j).length/\(fc ys i).length<dd ∧
 Clsd ys fs (fc ys i).length/\∀ (E:Addr) (H':Hp),Same H H'->SqL K H' E ((Ey dd ys fs i j).map V.int)->Q (.ref E) H'
abbrev Uh:Sp:=Cg K 5
def Em:Sp:=fun vs H Q _=>∃ (a c:Addr) (ys:List (List Int)) (ns:List Int),vs=[.ref a,.ref c]/\LT K H (.ref a) ys/\SqL K H c (ns.map V.int)/\ys.length<=63/\ns.length<=63 ∧
 ∀ (D:Addr) (us:List V) (ps:List (Int × Int)) (H':Hp),Same H H'->H D=none->H' D=some (.lst us)->Reps K H' us ((ps.map pr).map tI)->ps.length<=63->O4 ys ps->Q (.ref D) H'
end
end Hb
namespace L2
open PySem PySem.Spec PyProof.Rows PySem.W
section
variable {prog:Program}{w:World}{A:Around}{E:Value->Shared->Prop}{h:Heap}{g:Array GenState}{d:Drawn}{t:Nat}{os:OsState}{a C dx:Addr}{o:Obj}{K:Frag}{cd:ClassData}{mA:Str->Option Value}{v:Value}{name:Str}
end
end L2
namespace L2
open PySem PySem.Spec PyProof.Rows PySem.W PySem.Builtin PySem.Builtin.ObjectAttr
section
variable {prog:Program}{w:World}{A:Around}{K:Frag}{s:Shared}{x C D:Addr}{R:Result->Shared->Prop}
end
section
variable {prog:Program}{w:World}{A:Around}{E:Value->Shared->Prop}{K:Frag}{s:Shared}{x C:Addr}
end
end L2
namespace L2
open PySem PySem.Spec PyProof.Rows PySem.W
section
variable {prog:Program}{w:World}{A:Around}{E:Value->Shared->Prop}{h:Heap}{g:Array GenState}{d:Drawn}{t:Nat}{os:OsState}{K:Frag}{C D f:Addr}{rest:List Value}
end
end L2
namespace L2
open PySem PySem.Spec PyProof.Rows PySem.W
section
variable {X:Cx}{K:Frag}
end
end L2
namespace L2
open PySem PySem.Spec PyProof.Rows PySem.W
def del (H:Hp) (e:Addr):Hp:=fun b=>if b=e then none else H b
section
variable {M:Model}{A:Around}{E:Value->Shared->Prop}{env:Env}
end
section
variable {P:Program}{w:World}{K:W.Frag}{mg:Str->Option Value}{base:Heap}{N:List Str}{qual:Str}{scope:Scope}{f:Addr}{cd:Value}{A:Around}{outer:List Env}{s:Shared}{H:Hp}{E:XK}
end
end L2
namespace L2
open PySem PySem.Spec PyProof.Rows PySem.W
section
variable {prog:Program}{w:World}{A:Around}{E:Value->Shared->Prop}{h:Heap}{g:Array GenState}{d:Drawn}{t:Nat}{os:OsState}{a C dx:Addr}{o:Obj}{K:Frag}{mA:Str->Option Value}{v:Value}{name:Str}
end
section
variable {X:Cx}{K:Frag}
end
end L2
namespace L2
open PySem PySem.Spec PyProof.Rows
theorem Om:entryFor table "proto.unchain"=some Builtin.«proto.unchain»:=entryFor_of_fast (by kernel_rfl)
theorem Nt:plainId "proto.unchain"=true:=by decide +kernel
section
variable {prog:Program}{w:World}{A:Around}{E:Value->Shared->Prop}{s:Shared}
def LoneAt (h:Heap) (x:Addr):Prop:=∃ (o:Obj) (vs:Array Value),h.get? x=some o/\o.data=.fields vs/\vs[2]?=some .none
theorem R5 {x a:Addr}{Q:Value->Shared->Prop} (hx:LoneAt s.heap x) (q:Q .none s):wpAny (model prog w) A (runValue (.builtin "proto.unchain" ⟨[.ref a,.ref x,.ref x,.bool false],[]⟩)) Q E s:=by
 obtain⟨o,vs,ho,hd,hv⟩:=hx
 refine wpAny_runValue ?_
 refine codeAny_builtin Om ?_
 rw [Around.under_plainId Nt _]
 show wpAny _ A.in1 (field (.ref x) 2>>=_) _ _ s
 refine wpAny_bind (wpAny_field ho hd (x:=.none) hv ?_)
 exact wpAny_pure q
theorem F7 {it l x:Addr}{i:Nat}{items}{Q:Option Value->Shared->Prop} (hh:A.handled=some (.ref x)) (hlone:LoneAt s.heap x) (hxi:x≠it)
 (hit:s.heap.IsListIter it l i) (hl:s.heap.IsList l items) (hx:items[i]?=none)
 (hQ:∀ h',Heap.ExtBut it s.heap h'->Q none { s with heap:=h' }):wpAny (model prog w) A (pyNext (.ref it)) Q E s:=by
 obtain⟨o,ho,hc,hd⟩:=id hit
 obtain⟨ol,hol,_,nl,hdl⟩:=hl
 unfold pyNext
 refine wpAny_bind (wpAny_attempt (wpAny_callSpecial?_slot (name:=Str.ofString "__next__") hit.typeIs slot_listiter_next
  (wpAny_call_entry slot_listiter_next hit.typeIs entry_listiter_next ?_ (args_listiter_next _))))
 show wpAny _ _ (field (.ref it) 0>>=_) _ _ s
 refine wpAny_bind (wpAny_field ho hd (x:=.ref l) rfl ?_)
 show wpAny _ _ (if (Value.ref l==Value.none)=true then _ else _) _ _ s
 rw [if_neg (show ¬((Value.ref l==Value.none)=true) from Bool.false_ne_true)]
 show wpAny _ _ (field (.ref it) 1>>=_) _ _ s
 refine wpAny_bind (wpAny_field ho hd (x:=.int i 0) rfl ?_)
 show wpAny _ _ (seqItems? (.ref l)>>=_) _ _ s
 refine wpAny_bind (wpAny_seqItems hol hdl ?_)
 simp only [Int.toNat_natCast,hx]
 refine wpAny_bind (wpAny_rule (wpAny_bind (wpAny_setField ho hd (by simp) ?_)))
 show wpAny _ _ (newExc (.type "StopIteration") []>>=_) _ _ _
 refine wpAny_bind ?_
 simp only [newExc,newTuple]
 refine wpAny_bind (wpAny_newObj_type ?_ (by size_fits))
 refine wpAny_bind (m:=firstArgMember _ _) (wpAny_of_eq (a:=Value.none) (by first | rfl | (simp only [firstArgMember];rfl)) ?_)
 refine wpAny_newObj_type ?_ (by size_fits)
 simp only [raiseNew]
 refine wpAny_bind (wpAny_handled ?_)
 rw [show A.in1.handled=some (.ref x) from hh]
 generalize hg1:s.heap.update it (Obj.mapFields fun x=>x.setIfInBounds 0 Value.none)=g1
 have old1:∀ b o,b≠it->s.heap.get? b=some o->g1.get? b=some o:=fun b o hb e=>by
  rw [←hg1]
  exact (Heap.get?_update_other _ _ (Ne.symm hb)).trans e
 obtain⟨ox,vs,hox,hdx,hvx⟩:=hlone
 have hox1:=old1 x ox hxi hox
 generalize hg2:g1.push { cls:=Value.type "tuple",data:=Data.seq #[] }=g2
 have hox2:g2.get? x=some ox:=by rw [←hg2];exact Heap.get?_push_of_some _ hox1
 have hxe:x≠g2.objs.size:=Nat.ne_of_lt (Heap.lt_size hox2)
 have hne:(Value.ref x != Value.ref g2.objs.size)=true:=by
  simp only [bne_iff_ne,ne_eq]
  intro z
  cases z
  exact hxe rfl
 show wpAny _ _ (if (Value.ref x != Value.ref g2.objs.size)=true then _ else _) _ _ _
 rw [if_pos hne]
 generalize hoe:({ cls:=Value.type "StopIteration",data:=Data.fields (#[Value.ref g1.objs.size,Value.none,Value.none,Value.none,Value.bool false,Value.none]++ownMembersOf (Value.type "StopIteration") []) }:Obj)=oe
 have hcl:oe.cls=.type "StopIteration":=by rw [←hoe]
 have hda:oe.data=.fields (#[Value.ref g1.objs.size,Value.none,Value.none,Value.none,Value.bool false,Value.none]++ownMembersOf (Value.type "StopIteration") []):=by rw [←hoe]
 have hfr:oe.isFreed=false:=by rw [←hoe];rfl
 have hoe3:(g2.push oe).get? g2.objs.size=some oe:=Heap.get?_push_size _ hfr
 refine wpAny_bind (wpAny_holding (R5 ⟨ox,vs,Heap.get?_push_of_some _ hox2,hdx,hvx⟩ ?_))
 show wpAny _ _ (setField (.ref g2.objs.size) 2 (.ref x)>>=_) _ _ _
 refine wpAny_bind (wpAny_setField hoe3 hda (by show 2<6;decide) (wpAny_throw ?_))
 refine wpAny_bind (wpAny_isInstance (T:="StopIteration") (b:=true) ⟨_,Heap.get?_update_self _ hoe3 (Obj.isFreed_of_fields (Obj.data_mapFields hda _)),(Obj.cls_mapFields ..).trans hcl⟩ isSubtype_stop ?_)
 refine wpAny_pure (hQ _ fun b o hb e=>?_)
 have e1:=old1 b o hb e
 have e2:g2.get? b=some o:=by rw [←hg2];exact Heap.get?_push_of_some _ e1
 exact (Heap.get?_update_other _ _ (Ne.symm (Nat.ne_of_lt (Heap.lt_size e2)))).trans (Heap.get?_push_of_some _ e2)
end
theorem lone_of {X:Cx}{Ab:List (Addr × Obj)}{σ:St}{H:Hp}{s:Shared}{x C:Addr}{o:Option Addr} (I:Inv X Ab σ H s) (h:H x=some (excX x (.ref C) o)):LoneAt s.heap x:=by
 cases o with
 | none =>
   obtain⟨⟨ob,vs,e1,c1,d1,g1⟩,_⟩:=I.hok x _ h
   exact ⟨ob,vs,e1,d1,g1⟩
 | some d =>
   obtain⟨⟨ob,vs,e1,c1,d1,d2,g1⟩,_⟩:=I.hok x _ h
   exact ⟨ob,vs,e1,d1,g1⟩
structure Yl (P:Program) (w:World) (K:W.Frag) (hv:Option Value) (tg:Expr) (J:It) (fp:List Addr) (it:Addr) (tn:Nat->Heap->Prop):Prop where
 mem:it∈fp
 obj:∀ i h,tn i h->∀ b∈fp,∃ o,h.get? b=some o/\∀ v,o.data≠.cell v
 keep:∀ i h h',tn i h->(∀ b∈fp,∀ o,h.get? b=some o->h'.get? b=some o)->tn i h'
 item:∀ (X:Cx),X.prog=P->X.w=w->X.K=K->X.A.handled=hv->∀ (i:Nat) (Ab:List (Addr × Obj)) (s:Shared) (σ:St) (H:Hp) (E:Value->Shared->Prop),Inv X Ab σ H s->(∀ b∈fp,FpOk X Ab H b)->tn i s.heap->J.go i H →
  wpAny (model P w) X.A (pyNext (.ref it)) (fun r s1=>∃ u,r=some u ∧
   wpAny (model P w) X.A (letOwnedTupleGo tg (.ref it) u) (fun _ s2=>∃ x H',Inv X Ab σ H' s2/\RelV x u/\J.yld i H x H'/\tn (i+1) s2.heap/\∀ b∈fp,H' b=none) E s1) E s
 done:∀ (X:Cx),X.prog=P->X.w=w->X.K=K->X.A.handled=hv->∀ (i:Nat) (Ab:List (Addr × Obj)) (s:Shared) (σ:St) (H:Hp) (E:Value->Shared->Prop),Inv X Ab σ H s->(∀ b∈fp,FpOk X Ab H b)->tn i s.heap->J.stop i H →
  wpAny (model P w) X.A (pyNext (.ref it)) (fun r s1=>r=none/\Inv X Ab σ H s1) E s
 self:∀ (A:Around) (i:Nat) (s:Shared) (Q:Value->Shared->Prop) (E:Value->Shared->Prop),tn i s.heap->Q (.ref it) s->wpAny (model P w) A (pyIter (.ref it)) Q E s
def u7 (H:Hp) (x:Addr):Prop:=∃ (C:Addr) (o:Option Addr),H x=some (excX x (.ref C) o)
def ItlH (K:W.Frag) (a x:Addr):It:={ Itl K a with stop:=fun i H=>(∃ xs,SqL K H a xs/\xs.length<=i)/\u7 H x }
theorem Uf {P:Program}{w:World}{K:W.Frag}{tg:Expr} (a it x:Addr):Yl P w K (some (.ref x)) tg (ItlH K a x) [it] it (fun i h=>h.IsListIter it a i) where
 mem:=by simp
 obj:=fun i h st b hb=>by
  have e:b=it:=by simpa using hb
  subst e
  obtain⟨o,e,c,d⟩:=st
  exact ⟨o,e,fun v z=>by rw [d] at z;cases z⟩
 keep:=fun i h h' st k=>st.at fun o e=>k it (by simp) o e
 item:=by
  intro X hP hw hK hc i Ab s σ H E I hf st hg
  subst hP hw hK
  obtain⟨xs,x,hq,hx⟩:=hg
  obtain⟨its,rv,p,hz⟩:=I.list hq
  obtain⟨u,hu,ru⟩:=rv.get hx
  obtain⟨f0,f1,f2,f3,f4,f5⟩:=hf it (by simp)
  refine wpAny_pyNext_list_item st p.isList (x:=u) (by simpa using hu) fun h' st' sb=>?_
  have I1:Inv X Ab σ H { s with heap:=h' }:=I.turned (t':=s.toks) (fun b o hb e=>(sb.2 b hb).trans e) f0 f1 f3 f4 f5
  obtain⟨o,e,c,d⟩:=id st'
  exact ⟨u,rfl,V9 (s:={ s with heap:=h' }) e c d (by decide) ⟨x,H,I1,ru,⟨rfl,fun ys hy=>by rw [I.list_inj hy hq];exact hx⟩,st',fun b hb=>(hf b hb).1⟩⟩
 done:=by
  intro X hP hw hK hc i Ab s σ H E I hf st hg
  subst hP hw hK
  obtain⟨⟨xs,hq,hx⟩,C,o,he⟩:=hg
  obtain⟨its,rv,p,hz⟩:=I.list hq
  obtain⟨f0,f1,f2,f3,f4,f5⟩:=hf it (by simp)
  have hl:=rv.length
  have hne:x≠it:=fun z=>by rw [z,f0] at he;cases he
  refine F7 hc (lone_of I he) hne st p.isList (by simp;omega) fun h' eb=>⟨rfl,I.turned (t':=s.toks) (fun b o hb e=>eb b o hb e) f0 f1 f3 f4 f5⟩
 self:=fun _ _ _ _ _ st h=>wpAny_pyIter_listiter st h
def PIEH (X:Cx) (hv:Option Value) (Ab:List (Addr × Obj)) (σ:St) (tg:Expr) (R:It->Hp->Prop) (itv:Value) (s2:Shared):Prop :=
 ∃ (it:Addr) (fp:List Addr) (tn:Nat->Heap->Prop) (J:It) (H':Hp),itv=.ref it/\Inv X Ab σ H' s2/\Yl X.prog X.w X.K hv tg J fp it tn/\tn 0 s2.heap/\(∀ b∈fp,FpOk X Ab H' b)/\R J H'
def PIH (X:Cx) (hv:Option Value) (tg iter:Expr) (wi:TI):Prop :=
 ∀ (Ab:List (Addr × Obj)) (s:Shared) (σ:St) (H:Hp) (R:It->Hp->Prop),Inv X Ab σ H s->wi σ H R →
   wpAny (model X.prog X.w) X.A (eval iter X.env) (fun v s1=>wpAny (model X.prog X.w) X.A (pyIter v) (PIEH X hv Ab σ tg R) X.xe s1) X.xe s
def p7 (K:W.Frag) (x:Addr) (tl:TE):TI:=fun σ H R=>tl σ H fun y H1=>∃ a,y=.ref a/\(∃ xs,SqL K H1 a xs)/\R (ItlH K a x) H1
theorem Xs {X:Cx}{tg l:Expr}{tl:TE}{x:Addr}{K:W.Frag} (hl:PE X l tl) (hK:X.K=K:=by rfl):PIH X (some (.ref x)) tg l (p7 K x tl):=by
 subst hK
 intro Ab s σ H R I h
 refine thn (hl Ab s σ H _ I h) fun v s1 ⟨y,H1,I1,r1,q1⟩=>?_
 obtain⟨a,e,⟨xs,hq⟩,q⟩:=q1
 subst e
 cases r1
 obtain⟨its,rv,p,hz⟩:=I1.list hq
 refine wpAny_pyIter_list p.isList ?_
 refine⟨s1.heap.objs.size,[s1.heap.objs.size],_,_,H1,rfl,I1.kept (t':=s1.toks) fun b o e=>Heap.get?_push_of_some _ e,Uf a _ x,⟨_,Heap.get?_push_size _ rfl,rfl,rfl⟩,fun b hb=>?_,q⟩
 have e:b=s1.heap.objs.size:=by simpa using hb
 subst e
 exact I1.fpOk (Nat.le_refl _) (I1.hok.fresh (Nat.le_refl _))
section
variable {X:Cx}{hv:Option Value}{sc:Scope}{N':List Str}{cap:List (Option Nat)}{tg elt iter:Expr}{ifs:List Expr}{pos:Pos}{g:TG}{tc:TT}{te:TE}
theorem Uw {Y:Cx}{J:It}{fp:List Addr}{it D:Addr}{tn:Nat->Heap->Prop}{R:Result->Shared->Prop}{Q:Hp->Prop}{τ:St}{H:Hp}{s:Shared}
 (hx:Y.xe=fun _ _=>False) (hc:Y.A.handled=hv) (hg:PG Y tg g) (ht:PTs Y ifs tc) (he:PE Y elt te) (T:Yl Y.prog Y.w Y.K hv tg J fp it tn) (st:tn 0 s.heap) (hf:∀ b∈fp,FpOk Y [] H b) (I:Inv Y [] τ H s)
 (h:RunC J g tc te D Q τ H) (hR:∀ τ' H' s',Inv Y [] τ' H' s'->Q H'->R (.ok .next) s') :
 codeAny (model Y.prog Y.w) Y.A (.compLoop (.ListComp elt [⟨tg,iter,ifs,0⟩] sc pos) 0 (.ref it) (.ref D) Y.env) R s:=by
 obtain⟨W,⟨m0,w0⟩,turn⟩:=h
 have stat:∀{H':Hp},(∀ b∈fp,H' b=none)->∀ b∈fp,FpOk Y [] H' b:=fun hn b hb=>⟨hn b hb,(hf b hb).2⟩
 have no:∀{P:Prop}{e:Value}{s':Shared},Y.xe e s'->P:=fun z=>by rw [hx] at z;exact z.elim
 refine codeAny_loop rfl (fun n s'=>∃ i ys τ' H',Inv Y [] τ' H' s'/\tn i s'.heap/\(∀ b∈fp,H' b=none)/\W i n ys τ' H') ?_ m0 ⟨0,[],τ,H,I,st,fun b hb=>(hf b hb).1,w0⟩
 rintro n s3 ⟨i,ys,τ3,H3,I3,st3,fr3,w3⟩
 show wpAny _ Y.A ((compTurn (.ListComp elt [⟨tg,iter,ifs,0⟩] sc pos) 0 (.ref it) (.ref D) Y.env).onRaise (fun x=>do noteFrame x Y.env;theTreesLotGoes x)) _ _ s3
 refine wpAny_noted ?_
 rw [compTurn_list]
 refine wpAny_bind (wpAny_standAt (wpAny_bind ?_))
 rcases turn i n ys τ3 H3 w3 with ⟨stop,qn⟩|⟨go,N,hN,step⟩
 . refine wpAny_mono (T.done Y rfl rfl rfl hc i [] s3 τ3 H3 (fun _ _=>False) I3 (stat fr3) st3 stop) (fun r s4 ⟨hr,I4⟩=>?_) fun _ _ z=>z.elim
   subst hr
   exact wpAny_pure (hR _ _ _ I4 qn)
 . refine wpAny_mono (T.item Y rfl rfl rfl hc i [] s3 τ3 H3 (fun _ _=>False) I3 (stat fr3) st3 go) (fun r s4 ⟨u,hr,h4⟩=>?_) fun _ _ z=>z.elim
   subst hr
   refine wpAny_bind (wpAny_mono h4 (fun _ s5 ⟨x,H5,I5,r5,y5,st5,fr5⟩=>?_) fun _ _ z=>z.elim)
   have I5':=I5.pinned (stat fr5) (T.obj _ _ st5)
   have again:∀{τ7:St}{H7:Hp}{ys7:List V}{s7:Shared},Inv Y ([]++Mn fp s5.heap) τ7 H7 s7->N ys7 τ7 H7->∃ m,m<n/\∃ i ys τ' H',Inv Y [] τ' H' s7/\tn i s7.heap/\(∀ b∈fp,H' b=none)/\W i m ys τ' H':=fun {τ7 H7 ys7 s7} I7 n7=>by
    obtain⟨m',hm,w7⟩:=hN ys7 τ7 H7 n7
    refine⟨m',hm,i+1,ys7,τ7,H7,I7.unpinned,T.keep _ _ _ st5 fun b hb o e=>(I7.pin (b,o) (List.mem_append_right _ (List.mem_append_right _ (Dt hb e)))).1,fun b hb=>?_,w7⟩
    obtain⟨o,e,d⟩:=T.obj _ _ st5 b hb
    exact (I7.pin (b,o) (List.mem_append_right _ (List.mem_append_right _ (Dt hb e)))).2.1
   refine wpAny_bind (wpAny_mono (hg _ s5 τ3 H5 x u _ I5' r5 (step x H5 y5)) (fun _ s6 ⟨τ6,H6,I6,q6⟩=>?_) fun _ _ z=>no z)
   refine wpAny_bind (wpAny_mono (ht _ s6 τ6 H6 _ I6 q6) (fun ok s7 ⟨H7,I7,q7⟩=>?_) fun _ _ z=>no z)
   cases ok with
   | false =>
     have q8:N ys τ6 H7:=by simpa using q7
     exact wpAny_pure ⟨rfl,again I7 q8⟩
   | true =>
     have q8:te τ6 H7 fun y H4=>H4 D=some (.lst ys)/\ys.length<sizeLine/\N (ys++[y]) τ6 (upd H4 D (.lst (ys++[y]))):=by simpa using q7
     refine wpAny_bind (wpAny_bind (wpAny_mono (he _ s7 τ6 H7 _ I7 q8) (fun y s8 ⟨v8,H8,I8,r8,hD,hl,n8⟩=>?_) fun _ _ z=>no z))
     refine wpAny_bind (wpAny_mono (Dy _ s8 τ6 H8 (.ref D) [v8] (.ref D) [y] (fun _ H9=>N (ys++[v8]) τ6 H9) I8 rfl (.cons r8 .nil) ⟨D,ys,v8,rfl,rfl,hD,hl,n8⟩) (fun _ s9 ⟨_,H9,I9,_,n9⟩=>?_) fun _ _ z=>no z)
     exact wpAny_pure (wpAny_pure ⟨rfl,again I9 n9⟩)
theorem Tf {Ab:List (Addr × Obj)}{σ:St}{H:Hp}{s:Shared}{J:It}{fp:List Addr}{it:Addr}{tn:Nat->Heap->Prop}{RR:Value->Addr->Result->Shared->Prop}{Q:Addr->Hp->Prop}{E:Value->Shared->Prop}
 (c:Mk X sc N' cap) (hc:X.A.handled=hv) (hg:∀ C s₀ H₀ fp,PG (Bw X sc N' C s₀ H₀ fp) tg g) (ht:∀ C s₀ H₀ fp,PTs (Bw X sc N' C s₀ H₀ fp) ifs tc) (he:∀ C s₀ H₀ fp,PE (Bw X sc N' C s₀ H₀ fp) elt te)
 (I:Inv X Ab σ H s) (T:Yl X.prog X.w X.K hv tg J fp it tn) (st:tn 0 s.heap) (hf:∀ b∈fp,FpOk X Ab H b)
 (h:∀ D,H D=none->RunC J g tc te D (Q D) (capS cap σ) (upd H D (.lst [])))
 (hR:∀ D C s' H' m',H D=none->s.heap.objs.size<=C->s'.os=s.os->AllBare s'.gens->Un (frs X.stack) fp H H' s.heap s'.heap->HOk X.prog X.w H' s'.heap->s'.heap.Ns C m'->H' C=none->C ∉ fp->Q D H'->RR (.ref D) C (.ok .next) s') :
 wpAny (model X.prog X.w) X.A (newList []) (fun acc s₃=>wpAny (model X.prog X.w) X.A (newFunctionEnv sc X.env.globals (clOf X.env.cells sc.names []) [] X.env.qual none .none (some X.env)) (fun cenv s₄ =>
  codeAny (model X.prog X.w) X.A (.compStart (.ListComp elt [⟨tg,iter,ifs,0⟩] sc pos) 0 (.ref it) acc { cenv with scope:=relabel sc X.env }) (RR acc cenv.locals) s₄) E s₃) E s:=by
 have hb:∀ b∈fp,b<s.heap.objs.size:=fun b hb=>by
  obtain⟨o,e,_⟩:=T.obj _ _ st b hb
  exact Heap.lt_size e
 refine wpAny_newObj_type (wpAny_newFunctionEnv c.nocell (by intro y hy;simp at hy) (fun h₁ hns₁ hsb₁=>?_) c.kind)
 dsimp only at hns₁ hsb₁ ⊢
 generalize hH2:s.heap.push { cls:=.type "list",dict:=none,data:=.seq ([]:List Value).toArray }=H2 at hns₁ hsb₁ ⊢
 have hC:H2.objs.size=s.heap.objs.size+1:=by rw [←hH2,Heap.size_push]
 have hCl:s.heap.objs.size<=H2.objs.size:=by rw [hC];exact Nat.le_succ _
 have hCn:s.heap.objs.size≠H2.objs.size:=by rw [hC];exact (Nat.succ_ne_self _).symm
 have old:∀ b o,s.heap.get? b=some o->h₁.get? b=some o:=fun b o e=>by
  have l1:=Heap.lt_size e
  exact hsb₁.extBut b o (Nat.ne_of_lt (Nat.lt_of_lt_of_le l1 hCl)) (Heap.get?_push_of_some _ (hH2▸Heap.get?_push_of_some _ e))
 have hl:h₁.get? s.heap.objs.size=some { cls:=.type "list",data:=.seq #[] 0 }:=hsb₁.extBut _ _ hCn (Heap.get?_push_of_some _ (hH2▸Heap.get?_push_size _ rfl))
 have hns₂:h₁.Ns H2.objs.size fun _=>none:=by simpa using hns₁
 have I4:Inv (Bw X sc N' H2.objs.size s H fp) [] (capS cap σ) (upd H s.heap.objs.size (.lst [])) { s with heap:=h₁,toks:=s.toks+([]:List (Str × Value)).length }:=T7 c I hC rfl hf hb hns₂ hl old
 have hfr:H s.heap.objs.size=none:=I.fresh
 have f4:∀ b∈fp,FpOk (Bw X sc N' H2.objs.size s H fp) [] (upd H s.heap.objs.size (.lst [])) b:=fun b hb'=>by
  obtain⟨f0,f1,f2,f3,f4,f5⟩:=hf b hb'
  have lb:=hb b hb'
  refine⟨by rw [A7 (Nat.ne_of_lt lb)];exact f0,(Nat.ne_of_lt (Nat.lt_of_lt_of_le lb hCl):b≠H2.objs.size),fun z=>?_,.inl hb',fun x a e=>f4 x a (Cm (c.cells I.ok) (fun z=>by simp at z) e),fun p hp=>absurd hp (by simp [Bw])⟩
  rcases List.mem_cons.mp (I.stkSub b z) with e | e
  . exact f1 e
  . exact f2 e
 have st4:tn 0 h₁:=T.keep _ _ _ st fun b _ o e=>old b o e
 have loop:∀ s₅:Shared,s₅={ s with heap:=h₁,toks:=s.toks+([]:List (Str × Value)).length } →
  codeAny (model X.prog X.w) X.A (.compLoop (.ListComp elt [⟨tg,iter,ifs,0⟩] sc pos) 0 (.ref it) (.ref s.heap.objs.size) (Bw X sc N' H2.objs.size s H fp).env) (RR (.ref s.heap.objs.size) H2.objs.size) s₅:=by
  rintro s₅ rfl
  refine Uw (Y:=Bw X sc N' H2.objs.size s H fp) (J:=J) (fp:=fp) (tn:=tn) (Q:=Q s.heap.objs.size) rfl hc (hg _ _ _ _) (ht _ _ _ _) (he _ _ _ _) T st4 f4 I4 (h _ hfr) fun τ' H' s' I' q'=>?_
  obtain⟨m',hn',_⟩:=I'.loc
  exact hR _ _ s' H' m' hfr hCl I'.os I'.bare I'.base I'.hok hn' I'.free (fun z=>absurd (Nat.lt_of_lt_of_le (hb _ z) hCl) (Nat.lt_irrefl _)) q'
 exact codeAny_compStart_list (loop _ rfl) (T.self _ 0 _ _ _ st4 (loop _ rfl))
theorem Xu {wi:TI} (hc:X.A.handled=hv) (hcap:capB X.env.scope X.N sc N' cap=true) (hi:PIH X hv tg iter wi) (hg:∀ C s₀ H₀ fp,PG (Bw X sc N' C s₀ H₀ fp) tg g) (ht:∀ C s₀ H₀ fp,PTs (Bw X sc N' C s₀ H₀ fp) ifs tc)
 (he:∀ C s₀ H₀ fp,PE (Bw X sc N' C s₀ H₀ fp) elt te) (hs:∀ x,foldedSetIterable iter X.env x=pure x:=by intro _;rfl):PE X (.ListComp elt [⟨tg,iter,ifs,0⟩] sc pos) (Y7 wi cap g tc te):=by
 intro Ab s σ H Q I h
 have c:Mk X sc N' cap:=Tg hcap
 rw [eval_ListComp]
 refine wpAny_comprehension_free (use:=none) rfl hs (Jo (c.cells I.ok)) c.kind c.locals (thn (hi Ab s σ H _ I h) fun v s1 h1=>thn h1 fun itv s2 h2=>?_)
 obtain⟨it,fp,tn,J,H2,e,I2,T,st2,f2,hW⟩:=h2
 subst e
 refine Tf (RR:=fun acc C=>compPost (model X.prog X.w) X.A X.xe none (EP X Ab σ Q) acc C) (Q:=fun D H'=>Q (.ref D) H') c hc hg ht he I2 T st2 f2 hW ?_
 intro D C s' H' m' hD hC hos hbare hun hok hn hHC hCf q
 refine⟨m',hn,fun h' hsb=>?_⟩
 have I3:Inv X Ab σ H' s':=I2.call' hos hun hok hbare (Inv.fpCh f2)
 have f3:FpOk X Ab H' C:=I2.fpOk hC hHC
 obtain⟨_,k1,_,k3,k4,k5⟩:=f3
 have I4:Inv X Ab σ H' { s' with heap:=h' }:=I3.turned (t':=s'.toks) (fun b o hb e=>(hsb.2 b hb).trans e) hHC k1 k3 k4 k5
 exact ⟨.ref D,H',I4,rfl,q⟩
end
theorem LoneAt.at {h h':Heap}{x:Addr} (z:LoneAt h x) (k:∀ o,h.get? x=some o->h'.get? x=some o):LoneAt h' x:=by
 obtain⟨o,vs,e,r⟩:=z
 exact ⟨o,vs,k o e,r⟩
theorem Rz {prog:Program}{w:World}{A:Around}{x:Addr} (hh:A.handled=some (.ref x)) (I ax:Addr) (hne:ax≠I) (hxI:x≠I) (items:Array Value) :
 Walks prog w A I [I,ax,x] [I] items.size (fun i v=>items[i]?=some v) (fun i h=>h.IsListIter I ax i/\h.IsList ax items/\LoneAt h x) where
 sub:=fun b hb=>by simp at hb;simp [hb]
 frame:=fun _ _ _ st hk=>⟨st.1.at fun o e=>hk I (by simp) o e,st.2.1.at fun o e=>hk ax (by simp) o e,st.2.2.at fun o e=>hk x (by simp) o e⟩
 item:=fun i s Q E hi st hQ=>by
  refine wpAny_pyNext_list_item st.1 st.2.1 (x:=items[i]) (by simp [hi]) fun h' hit' hs'=>?_
  exact hQ _ h' s.toks (by simp [hi]) ⟨hit',st.2.1.extBut hs'.extBut hne,st.2.2.at fun o e=>hs'.extBut x o hxI e⟩ fun b o hb e=>hs'.extBut b o (fun h=>hb (by simp [h])) e
 done:=fun s Q E st hQ=>F7 hh st.2.2 hxI st.1 st.2.1 (by simp) fun h' he'=>hQ h' s.toks fun b o hb e=>he' b o (fun h=>hb (by simp [h])) e
 self:=fun _ _ _ _ st hQ=>wpAny_pyIter_listiter st.1 hQ
theorem Ww {X:Cx}{x:Addr}{K:W.Frag} (hh:X.A.handled=some (.ref x)) (hK:X.K=K:=by rfl):Eu X (.builtin "sum") (fun xs H Q=>∃ (p:Addr) (ns:List Int),xs=[.ref p]/\SqL K H p (ns.map V.int)/\u7 H x/\Q (.int ns.sum) H):=by
 subst hK
 intro Ab s σ H xs us Q I r h
 obtain⟨p,ns,rfl,hq,⟨C,o,he⟩,q⟩:=h
 obtain⟨u,rfl,ru⟩:=Lo r
 cases ru
 obtain⟨its,rv,pl,hz⟩:=I.list hq
 have lx:=lone_of I he
 have hxlt:x<s.heap.objs.size:=by
  obtain⟨ob,vs,e1,_⟩:=lx
  exact Heap.lt_size e1
 have l1:=rv.length
 rw [List.length_map] at l1
 have rel:∀ (i:Nat) (v:Value),its.toArray[i]?=some v->∃ t,v=.int (ns.getD i 0) t:=fun i v e=>by
  have e':its[i]?=some v:=by simpa using e
  have hlt:i<its.length:=(List.getElem?_eq_some_iff.mp e').1
  have hb:ns[i]?=some (ns[i]'(by omega)):=by simp<;>omega
  obtain⟨u,hu,ru⟩:=rv.get (i:=i) (x:=V.int (ns[i]'(by omega))) (by rw [List.getElem?_map,hb];rfl)
  rw [e'] at hu
  cases hu
  rw [List.getD_eq_getElem?_getD,hb]
  exact ru
 refine call_sum_walkG (wpAny_pyIter_list pl.isList ?_)
 refine⟨s.heap.objs.size,[s.heap.objs.size,p,x],[s.heap.objs.size],its.toArray.size,_,_,fun i=>ns.getD i 0,rfl,Rz (show X.A.in1.handled=some (.ref x) from hh) s.heap.objs.size p ?_ (Nat.ne_of_lt hxlt) its.toArray,⟨⟨_,Heap.get?_push_size _ rfl,rfl,rfl⟩,?_,?_⟩,?_,rel,fun h' tk t' k=>?_⟩
 . obtain⟨o,_,ho,_⟩:=pl
   exact Nat.ne_of_lt (Heap.lt_size ho)
 . exact pl.isList.at fun o e=>Heap.get?_push_of_some _ e
 . exact lx.at fun o e=>Heap.get?_push_of_some _ e
 . intro b hb
   have hb':b=s.heap.objs.size\/b=p\/b=x:=by simpa using hb
   rw [Heap.size_push]
   rcases hb' with rfl | rfl | rfl
   . exact Nat.lt_succ_self _
   . obtain⟨o,_,ho,_⟩:=pl
     exact Nat.lt_succ_of_lt (Heap.lt_size ho)
   . exact Nat.lt_succ_of_lt hxlt
 . have I1:Inv X Ab σ H { s with heap:=h',toks:=tk }:=I.kept (fun b o e=>k b o (by simp;exact Nat.ne_of_lt (Heap.lt_size e)) (Heap.get?_push_of_some _ e))
   refine⟨.int ns.sum,H,I1,⟨t',?_⟩,q⟩
   have e:preSum (fun i=>ns.getD i 0) its.toArray.size=ns.sum:=by
    rw [List.size_toArray,←l1,preSum_sum ns _ (Nat.le_refl _),List.take_length]
   rw [e]
structure b7 (P:Program) (w:World) (K:W.Frag) (mg:Str->Option Value) (base:Heap) (k:Nat) (f:Addr) (fd:FuncData) (ps:List Str) (sp:Addr->Sp):Prop where
 len:∀ x vs H Q E,sp x vs H Q E->vs.length=ps.length
 run:∀ (A:Around) (outer:List Env) (s:Shared) (H:Hp) (args:Args) (us:List Value) (vs:List V) (Q:VK) (E:XK) (x:Addr),A.handled=some (.ref x)->J6 k A->Env0 P w K mg base A outer s H->BindsTo s fd args (ps.zip us)->Vals vs us->sp x vs H Q E →
  codeAny (model P w) A (.call (.ref f) args) (CR CX0 outer P w H s Q E) s
section
variable {P:Program}{w:World}{K:W.Frag}{mg:Str->Option Value}{base:Heap}
theorem Fun.okE {x qual:Str}{st:Stmt}{f:Addr}{fd:FuncData}{N ps:List Str}{k:Nat}{sp:Addr->Sp} (F:Fun K x qual st f fd) (S:FnScope N ps (Ag st)) (len:∀ x vs H Q E,sp x vs H Q E->vs.length=ps.length)
 (hbody:∀ (Cf:Value) (A:Around) (outer:List Env) (s:Shared) (H:Hp) (vs:List V) (Q:VK) (E:XK) (xa:Addr),A.handled=some (.ref xa)->J6 k (A.deeper (envOfC qual (Ag st) s.heap.objs.size f Cf))->sp xa vs H Q E →
   ∃ t,PSs (cxN P w K mg base N qual (Ag st) f Cf A outer s H E) (Be st) t/\t { nx:=fun _ H'=>Q .non H',rt:=Q } (start N vs) H):b7 P w K mg base (k+1) f fd ps sp:=by
 obtain⟨oc,od,kV,doc,pm,an,Cf,ct,osl,rfl,lk,hcd⟩:=F.ex
 refine⟨len,fun A outer s H args us vs Q E xa hh hr e0 hb r hsp=>?_⟩
 have hl:=len _ _ _ _ _ hsp
 have KX:K.In s.heap:=e0.mod.kin.keeps fun b o e=>(e0.bs b o e).1
 have lim:s.heap.NoLimit:=e0.mod.nolimit.keeps fun b o e=>(e0.bs b o e).1
 have hkind:∀ y∈ps.zip us,(Ag st).names.lookup y.1=some .local\/((Ag st).names.lookup y.1=some .cell/\((cellsFrom (s.heap.objs.size+1) (Ag st).names []).lookup y.1).isSome=true):=fun ⟨n,v⟩ hy=>by
  rcases S.par n (List.of_mem_zip hy).1 with q | q
  . exact .inl q
  . exact .inr ⟨q,PySem.W.cellsFrom_some _ _ _ (.inl q)⟩
 refine codeAny_call_function hr.depth (KX _ _ lk) rfl S.co S.gen rfl (PySem.W.codeRec_of KX hcd) (hb _ _ _ _ ?_)
 refine wpAny_newFunctionEnv_cells S.kind hkind fun env he s1 x=>?_
 subst he
 refine⟨lim.keeps x.toInCall.keep,codeAny_func ?_⟩
 obtain⟨t,ht,hq⟩:=hbody Cf A outer s H vs Q E xa hh (hr.deeper _) hsp
 have I:Inv (cxN P w K mg base N qual (Ag st) f Cf A outer s H E) [] (start N vs) H s1:=Ut S e0 hl r x
 refine wpAny_mono (ht [] s1 (start N vs) H _ I hq) (fun fl s' hs=>?_) fun e s' hs=>hs.elim
 have fin:∀{σ':St}{H':Hp}{v:V}{u:Value},Inv (cxN P w K mg base N qual (Ag st) f Cf A outer s H E) [] σ' H' s'->RelV v u->Q v H'->CE outer P w H s Q u s' :=
  fun {σ' H' v u} J rv q=>⟨v,H',J.os,J.bare,J.base,J.hok,rv,q⟩
 cases fl with
 | ret u =>
   obtain⟨v,σ',H',J,rv,q⟩:=hs
   exact fin J rv q
 | next =>
   obtain⟨σ',H',J,q⟩:=hs
   exact fin (v:=V.non) (u:=Value.none) J rfl q
 | brk =>
   obtain⟨_,_,_,q⟩:=hs
   exact False.elim q
 | cont =>
   obtain⟨_,_,_,q⟩:=hs
   exact False.elim q
end
structure HasH (P:Program) (w:World) (K:W.Frag) (mg:Str->Option Value) (base:Heap) (x:Str) (ps:List Str) (k:Nat) (sp:Addr->Sp):Prop where
 ex:∃ (f:Addr) (fd:FuncData),mg x=some (.ref f)/\PySem.W.keepIn K (.ref f)=true/\O5 K fd ps []/\b7 P w K mg base k f fd ps sp
section
variable {X:Cx}{x:Str}{ps:List Str}{j k:Nat}{sp:Addr->Sp}{p pos:Pos}{e:Expr}{es:List Expr}{t:TA}
theorem Tu {xa:Addr} (h:HasH X.prog X.w X.K X.mg X.base x ps j sp) (hh:X.A.handled=some (.ref xa)) (hr:J6 k X.A) (hg:Gl X x) (ha:PA X (e::es) t) (hk:j<=k:=by decide) (hdb:(x==("__debug__":Str))=false:=by decide)
 (he:starEach (e::es) X.env=(false,eval e X.env)::starEach es X.env:=by rfl) (hpl:(backTo pos (starEach es X.env)).any (·.1)=false:=by rfl):PE X (.Call (.Name x p) (e::es) [] pos) (tCall (sp xa) [] E0 t):=by
 intro Ab s σ H Q I h1
 obtain⟨f,fd,hm,hkp,hb,F⟩:=h.ex
 refine wpAny_Call_Name_kw (Iy I hg hm ?_ hdb)
 refine PySem.W.callWith_K (h₀:=X.base) I.ok.mod.kin hkp (thn (ha pos Ab s σ H _ I h1) fun us s1 ⟨vs,H1,I1,r,q⟩=>⟨I1.kIn,?_⟩) he hpl
 have q':sp xa vs H1 Q E0:=by have:sp xa (vs++[]) H1 Q E0:=q;rwa [List.append_nil] at this
 have hl:us.length=ps.length:=by rw [←r.length];exact F.len _ _ _ _ _ q'
 have hb1:=hb s1 us I1.kIn (by rw [List.append_nil];exact hl)
 rw [List.append_nil] at hb1
 refine wpAny_call (codeAny_mono (F.run X.A X.stack s1 H1 ⟨us,[]⟩ us vs Q _ xa hh (hr.mono hk) I1.env0 hb1 r q') fun q s' hq=>?_)
 cases q with
 | error u=>exact False.elim hq
 | ok fl =>
   cases fl with
   | ret u=>exact I1.after hq
   | next=>exact False.elim hq
   | brk=>exact False.elim hq
   | cont=>exact False.elim hq
end
def hAsE (K:W.Frag) (C:Addr) (i:Nat) (ts:Addr->TS) (th:Ends->XJ):Ends->XJ:=fun D cls dx σ H=>∃ (C':Addr) (b:Bool),cls=.ref C'/\PySem.W.subIn K (.ref C') (.ref C)=some b ∧
 if b=true then ∀ e,H e=none->ts e (Y2 i D) (σ.set i (some (.ref e))) (upd H e (excX e cls dx)) else th D cls dx σ H
section
open PySem.W
variable {X:Cx}{th:Ends->XJ}
theorem Yt {x n:Str}{i:Nat}{C:Addr}{np hpos:Pos}{b0:Stmt}{bs:List Stmt}{ts:Addr->TS}{rest:List ExceptHandler} (hN:X.N.Nodup) (hi:X.N[i]?=some n) (hk:X.env.kindOf n=some .local) (hg:Gl X x) (hm:X.mg x=some (.ref C)) (hC:ktsIn X.K C "BaseException"=true)
 (hs:∀ e,PSs (X.suite e) (b0::bs) (ts e)) (hr:PH X rest th) (hdb:(x==("__debug__":Str))=false:=by decide):PH X (.ExceptHandler (some (.Name x np)) (some n) (b0::bs) hpos::rest) (hAsE X.K C i ts th):=by
 intro Ab s σ H D e cls a0 dx F h
 obtain⟨C',b,rfl,hb,h⟩:=h
 have I:=F.inv.1
 obtain⟨nm,qn,N,bs',bm,hdct,sn,sub,ab,col,dd,k0,k1,k2,k3,k5,nid,hCo,hbase,_⟩:=kts_cls I.kIn hC
 have F':=F
 obtain⟨B,H0,S,I0,q1,q2,q3,q4,q5,dE⟩:=F'
 obtain⟨oe,he,hcls⟩:=q5.there
 refine wpAny_handleBy_cons (codeAny_handlers_test (Iy (X:=X.suite e) (I.suite e) hg hm ?_ hdb)) (by intro q;cases q)
 have LS:Looks (model X.prog X.w) s.heap (isSubtype (.ref C') (.ref C)) b:=looks_subIn I.kIn hb
 obtain⟨sh,sg,sd,st,so⟩:=s
 refine Wd hCo he hcls hbase LS ?_
 cases b with
 | false =>
   rw [if_neg Bool.false_ne_true] at h
   exact hr Ab _ σ H D e _ a0 dx F h
 | true =>
   rw [if_pos rfl] at h
   refine codeAny_handlers_suite_as ?_
   refine wpAny_mono (D1 (Fe _ _) (lands_againW (E:=fun _ _=>False) (Q:=fun _ s2=>∃ h6,s2={ (⟨sh,sg,sd,st,so⟩:Shared) with heap:=h6 }/\Heap.FlyingW B X.stack e (.ref C') a0 h6/\sh.UpToSlots h6) q5 fun h6 f6 up6=>⟨h6,rfl,f6,up6⟩)) (fun _ s2 ⟨⟨h6,e6,f6,up6⟩,kd⟩=>?_) (fun _ _ z=>z.1.elim)
   subst e6
   have F6:=FlyAt.step I0 q1 q2 q3 q4 q5 f6 up6 (dE.go kd)
   obtain⟨I6,hn⟩:=F6.held
   refine M8 (v:=.ref e) I6 hN hi (.inl hk) rfl (fun s7 I7=>?_) (.inr hk)
   refine wpAny_mono (hs e Ab s7 _ _ (Y2 i D) (I7.suite e) (h e hn)) (fun f s8 q=>?_) fun _ _ z=>z.elim
   have go:∀{σ':St}{H':Hp}{f:Flow},Inv (X.suite e) Ab σ' H' s8->(∀ s9,Inv X Ab (σ'.set i none) H' s9->SP X Ab D f s9)->wpAny (model X.prog X.w) X.A (do bindName X.env n .none;unbindBehindTheSuite X.env n hpos) (fun _ s9=>SP X Ab D f s9) X.xe s8 :=
    fun {σ' H' f} I8 k=>U8 (I8.unsuite I.ok) hN hi hk k
   cases f with
   | next=>obtain⟨σ',H',I8,q⟩:=q;exact go I8 fun s9 I9=>⟨_,H',I9,q⟩
   | brk=>obtain⟨σ',H',I8,q⟩:=q;exact go I8 fun s9 I9=>⟨_,H',I9,q⟩
   | cont=>obtain⟨σ',H',I8,q⟩:=q;exact go I8 fun s9 I9=>⟨_,H',I9,q⟩
   | ret u=>obtain⟨v,σ',H',I8,r,q⟩:=q;exact go I8 fun s9 I9=>⟨v,_,H',I9,r,q⟩
end
end L2
namespace L2
open PySem PySem.Spec PyProof.Rows
theorem Zy {X:Cx} (hu:X.A.units+1<cLine):IxR X (fun x y H Q=>∃ a v,x=.ref a/\DGet H a y (some v)/\Q v H):=by
 intro value slice Ab s σ H x y v u Q I rx ry h hs
 obtain⟨a,w,rfl,g,q⟩:=h
 obtain rfl:v=Value.ref a:=rx
 have hT:=dict_typeIs I g
 unfold subscriptTail
 refine wpAny_bind ?_
 rw [getitemInPython_of_ne hT.not_modules]
 refine wpAny_bind (wpAny_specialOf hT PySem.F.slot_dict_getitem.lookup ?_)
 have fin:wpAny (model X.prog X.w) X.A (subscripted slice false (.ref a) u) (fun r s₃=>wpAny (model X.prog X.w) X.A (letTemporaryGo value (.ref a) r>>=fun _=>pure r) (EP X Ab σ Q) X.xe s₃) X.xe s:=by
  rw [hs]
  exact wpAny_operating (wpAny_mono (Wo hu I g ry fun w' s3 I3 rw'=>⟨w,H,I3,rw',q⟩) (fun r s₃ h₃=>wpAny_bind (wpAny_letTemporaryGo (wpAny_pure h₃))) fun _ _ x=>x)
 first
  | exact wpAny_pure (wpAny_bind fin)
  | exact wpAny_bind fin
  | exact wpAny_pure fin
  | exact fin
end L2
namespace Hb
open PySem L2
theorem La {d:L2.D}{b:Int} (h:Ca d b=true):∃ i,d=.int i/\0<=i/\i<b:=by
 cases d with
 | int i =>
   have h:(decide (0<=i)&&decide (i<b))=true:=h
   simp at h
   exact ⟨i,rfl,h.1,h.2⟩
 | _=>cases h
theorem Y1 {b:Int}:∀{ds:List L2.D},ds.all (fun d=>Ca d b)=true->∃ gs,ds=nums gs/\∀ g∈gs,0<=g/\g<b
 | [],_=>⟨[],rfl,fun g hg=>by cases hg⟩
 | d::ds,h=>by
   rw [List.all_cons,Bool.and_eq_true] at h
   obtain⟨i,rfl,h0,h1⟩:=La h.1
   obtain⟨gs,rfl,hg⟩:=Y1 h.2
   refine⟨i::gs,rfl,fun g hgm=>?_⟩
   rcases List.mem_cons.mp hgm with e | e
   . rw [e];exact ⟨h0,h1⟩
   . exact hg g e
def lenX (ys:List (List Int)):L2.D->Nat
 | .int i=>(fc ys i).length
 | _=>0
def gluD (ys:List (List Int)) (d:L2.D):Bool:=match d with
 | .tup [x,y]=>Ca x (ys.length:Int)&&De ys y (levI (lenX ys x))
 | _=>false
theorem T0 {ys:List (List Int)} (hc:∀ p,InR ys p->(fc ys p).length≠1) {d:L2.D} (h:gluD ys d=true):∃ z:Int × Int,d=tI (pr z)/\InR ys z.1/\InR ys z.2/\(fc ys z.1).length=(fc ys z.2).length:=by
 match d,h with
 | .tup [x,y],h =>
   have h:(Ca x (ys.length:Int)&&De ys y (levI (lenX ys x)))=true:=h
   rw [Bool.and_eq_true] at h
   obtain⟨i,rfl,h0,h1⟩:=La h.1
   cases y with
   | int j =>
     have h2:(decide (0<=j)&&decide (j<(ys.length:Int))&&decide (levI (ys.getD j.toNat []).length=levI (fc ys i).length))=true:=h.2
     simp only [Bool.and_eq_true,decide_eq_true_eq] at h2
     refine⟨(i,j),rfl,⟨h0,h1⟩,⟨h2.1.1,h2.1.2⟩,?_⟩
     show (fc ys i).length=(fc ys j).length
     have a1:=hc i ⟨h0,h1⟩
     have a2:=hc j ⟨h2.1.1,h2.1.2⟩
     have e:levI (fc ys j).length=levI (fc ys i).length:=h2.2
     unfold levI at e
     split at e<;>split at e<;>omega
   | _=>cases h.2
theorem Q0 {ys:List (List Int)} (hc:∀ p,InR ys p->(fc ys p).length≠1):∀{ds:List L2.D},ds.all (gluD ys)=true->∃ ps:List (Int × Int),ds=(ps.map pr).map tI/\O4 ys ps
 | [],_=>⟨[],rfl,fun g hg=>by cases hg⟩
 | d::ds,h=>by
   rw [List.all_cons,Bool.and_eq_true] at h
   obtain⟨z,rfl,hz⟩:=T0 hc h.1
   obtain⟨ps,rfl,hp⟩:=Q0 hc h.2
   refine⟨z::ps,rfl,fun g hgm=>?_⟩
   rcases List.mem_cons.mp hgm with e | e
   . rw [e];exact hz
   . exact hp g e
theorem p9 {ys:List (List Int)}{z:Int × Int} (h1:InR ys z.1) (h2:InR ys z.2) (e:(fc ys z.1).length=(fc ys z.2).length):gluD ys (tI (pr z))=true:=by
 show (Ca (.int z.1) (ys.length:Int)&&De ys (.int z.2) (levI (fc ys z.1).length))=true
 show ((decide (0<=z.1)&&decide (z.1<(ys.length:Int)))&&(decide (0<=z.2)&&decide (z.2<(ys.length:Int))&&decide (levI (fc ys z.2).length=levI (fc ys z.1).length)))=true
 rw [e]
 simp [h1.1,h1.2,h2.1,h2.2]
theorem Yo {xs:List (List Int)} (h:IsShape xs) {x:List Int} (hx:x∈xs):x.length<=4:=by
 obtain⟨k,hk⟩:=List.getElem?_of_mem hx
 have:=(h k x hk).cnt
 omega
theorem fst0 (x:V) (r:List V):atI (x::r) 0=some x:=Bg (j:=0) rfl
theorem snd1 (x y:V) (r:List V):atI (x::y::r) 1=some y:=Bg (j:=1) rfl
theorem Xc {α:Type}{f:α->Bool}{l r:List α}{x:α} (h:f x=false):(l++[x]++r).all f=false:=by
 rw [List.all_append,List.all_append]
 simp [h]
theorem deps_le {n:Nat}:∀{ds:List L2.D},(∀ d∈ds,dep d<=n)->deps ds<=n
 | [],_=>Nat.zero_le _
 | d::ds,h=>by
   have h1:=h d List.mem_cons_self
   have h2:=deps_le (ds:=ds) fun x hx=>h x (List.mem_cons_of_mem _ hx)
   show max (dep d) (deps ds)<=n
   omega
theorem T4 (z:List Int):dep (tI z)<=2:=by
 have:=Ht z
 show deps (nums z)+1<=2
 omega
theorem Ji {n:Nat}{ds:List L2.D} (h:∀ d∈ds,dep d<=n):dep (.lst ds)<=n+1:=by
 have:=deps_le h
 show deps ds+1<=n+1
 omega
theorem Reps.app {K:W.Frag}{H:Hp}:∀{us vs:List V}{ds es:List L2.D},Reps K H us ds->Reps K H vs es->Reps K H (us++vs) (ds++es)
 | us,vs,[],es,h,g=>by
   cases us with
   | nil=>exact g
   | cons u us=>exact absurd h.length (by simp)
 | us,vs,d::ds,es,h,g=>by
   obtain⟨u,us',e,hu,h'⟩:=h
   subst e
   exact ⟨u,us'++vs,rfl,hu,Reps.app h' g⟩
theorem Reps.dropN {K:W.Frag}{H:Hp}:∀{us:List V}{ds:List L2.D} (n:Nat),Reps K H us ds->Reps K H (us.drop n) (ds.drop n)
 | us,ds,0,h=>by simpa using h
 | us,[],n+1,h=>by
   cases us with
   | nil=>exact h
   | cons u us=>exact absurd h.length (by simp)
 | us,d::ds,n+1,h=>by
   obtain⟨u,us',e,hu,h'⟩:=h
   subst e
   exact Reps.dropN n h'
section
variable (K:W.Frag)
def C0 (ys:List (List Int)) (ds:List L2.D):Bool:=ds.all fun d=>Ca d (ys.length:Int)
def C1 (ys:List (List Int)) (ds:List L2.D):Bool:=ds.all (gluD ys)
structure ShOk (ys:List (List Int)):Prop where
 shp:IsShape ys
 le:ys.length<=40
def Fp:Sp:=fun vs H Q E=>∃ (b0:Addr) (v0:V),vs=[.ref b0,v0]/\(Uj K [.ref b0,v0] H Q E\/Pa K [.ref b0,v0] H Q E)
def Na (CG:Addr):Sp:=fun vs H Q E=>∃ (a b:Addr) (ys:List (List Int)) (ds:List L2.D),vs=[.ref a,.ref b]/\LT K H (.ref a) ys/\Rep K H (.ref b) (.lst ds)/\ShOk ys/\ds.length<=70 ∧
 (C0 ys ds=true->∀ (u:V) (H':Hp),Same H H'->Q u H')/\(C0 ys ds=false->∀ H',Same H H'->E (.ref CG) none H')
def Ij:Sp:=fun vs H Q _=>∃ (a:Addr) (v:V) (ys:List (List Int)) (d:L2.D),vs=[.ref a,v]/\LT K H (.ref a) ys/\Rep K H v d/\Q (.bl (gluD ys d)) H
def Kb (CG:Addr):Sp:=fun vs H Q E=>∃ (a b:Addr) (ys:List (List Int)) (ds:List L2.D),vs=[.ref a,.ref b]/\LT K H (.ref a) ys/\Rep K H (.ref b) (.lst ds)/\ShOk ys/\ds.length<=70 ∧
 (C1 ys ds=true->∀ (u:V) (H':Hp),Same H H'->Q u H')/\(C1 ys ds=false->∀ H',Same H H'->E (.ref CG) none H')
def Hf (_K:W.Frag) (CG:Addr):Addr->Sp:=fun x vs H Q _=>vs=[.ref x]/\H x=some (excO x (.ref CG))/\∀ H',Same H H'->Q (.int 1) H'
def E6:Sp:=fun vs H Q _=>∃ (a b:Addr) (ys:List (List Int)) (ds:List L2.D),vs=[.ref a,.ref b]/\LT K H (.ref a) ys/\Rep K H (.ref b) (.lst ds)/\ShOk ys/\ds.length<=70 ∧
 (C0 ys ds=true->∀ H',Same H H'->Q .non H')/\(C0 ys ds=false->∀ (t:Addr) (H':Hp),Same H H'->H' t=some (.tup [.bl true,.bl true,.int 1])->Q (.ref t) H')
def E7:Sp:=fun vs H Q _=>∃ (a b:Addr) (ys:List (List Int)) (ds:List L2.D),vs=[.ref a,.ref b]/\LT K H (.ref a) ys/\Rep K H (.ref b) (.lst ds)/\ShOk ys/\ds.length<=70 ∧
 (C1 ys ds=true->∀ H',Same H H'->Q .non H')/\(C1 ys ds=false->∀ (t:Addr) (H':Hp),Same H H'->H' t=some (.tup [.bl true,.bl true,.int 1])->Q (.ref t) H')
def Ek:Sp:=fun vs H Q _=>∃ (a:Addr) (ys:List (List Int)) (c:Int),vs=[.ref a,.int c]/\LT K H (.ref a) ys/\ys.length<=40/\∀ (v:V) (d:L2.D) (H':Hp),Same H H'->Rep K H' v d->Ca d (ys.length:Int)=false->gluD ys d=false->dep d<=2->Q v H'
def Ii:Sp:=fun vs H Q _=>∃ (a:Addr) (ys:List (List Int)) (c:Int),vs=[.ref a,.int c]/\LT K H (.ref a) ys/\ShOk ys/\∀ (v:V) (d:L2.D) (H':Hp),Same H H'->Rep K H' v d->gluD ys d=false->dep d<=4->Q v H'
end
theorem cnt_ne1 {ys:List (List Int)} (h:IsShape ys):∀ p,InR ys p->(fc ys p).length≠1:=fun p hp=>by
 obtain⟨h0,h1⟩:=hp
 have hi:p.toNat<ys.length:=by omega
 have e:ys[p.toNat]?=some ys[p.toNat]:=List.getElem?_eq_getElem hi
 have F:=(h _ _ e).cnt
 unfold fc
 rw [List.getD_eq_getElem?_getD,e]
 show ys[p.toNat].length≠1
 omega
end Hb
namespace Hb
open PySem L2
def top (i:Nat):Stmt:=PySem.Challenge.pw_holebook_k48_what_cannot_be_glued.main.body.getD i (.Pass ⟨0,0,0,0⟩)
structure Txt (K:W.Frag) (mg:Str->Option Value) (Ai Aq Az A1 Au Av Ao Ay A6 Ac As Ap A0 A5 At Ar:Addr):Prop where
 m_HoleError:mg "HoleError"=some (.ref Ai)
 k_HoleError:PySem.W.ktsIn K Ai "BaseException"=true
 m_NoShape:mg "NoShape"=some (.ref Aq)
 m_NoText:mg "NoText"=some (.ref Az)
 m_NoName:mg "NoName"=some (.ref A1)
 m_NoLevel:mg "NoLevel"=some (.ref Au)
 m_NoChain:mg "NoChain"=some (.ref Av)
 m_NoTable:mg "NoTable"=some (.ref Ao)
 m_NoTurn:mg "NoTurn"=some (.ref Ay)
 m_NoMap:mg "NoMap"=some (.ref A6)
 m_NoGlue:mg "NoGlue"=some (.ref Ac)
 e_NoGlue:PySem.W.excIn K Ac bmV "ValueError.__new__"=true
 x_NoGlue:ExcC K Ac
 k_NoGlue:PySem.W.ktsIn K Ac "BaseException"=true
 iv_NoGlue:PySem.W.kitOne K (.ref Ac) (.type "ValueError")=some true
 m_NoPrime:mg "NoPrime"=some (.ref As)
 m_NoStage:mg "NoStage"=some (.ref Ap)
 m_NoPair:mg "NoPair"=some (.ref A0)
 m_NoRow:mg "NoRow"=some (.ref A5)
 m_NoPiece:mg "NoPiece"=some (.ref At)
 m_NoRound:mg "NoRound"=some (.ref Ar)
 i_NoGlue_HoleError:PySem.W.kitOne K (.ref Ac) (.ref Ai)=some true
 s_NoGlue_HoleError:PySem.W.subIn K (.ref Ac) (.ref Ai)=some true
 i_NoGlue_NoShape:PySem.W.kitOne K (.ref Ac) (.ref Aq)=some false
 i_NoGlue_NoText:PySem.W.kitOne K (.ref Ac) (.ref Az)=some false
 i_NoGlue_NoName:PySem.W.kitOne K (.ref Ac) (.ref A1)=some false
 i_NoGlue_NoLevel:PySem.W.kitOne K (.ref Ac) (.ref Au)=some false
 i_NoGlue_NoChain:PySem.W.kitOne K (.ref Ac) (.ref Av)=some false
 i_NoGlue_NoTable:PySem.W.kitOne K (.ref Ac) (.ref Ao)=some false
 i_NoGlue_NoTurn:PySem.W.kitOne K (.ref Ac) (.ref Ay)=some false
 i_NoGlue_NoMap:PySem.W.kitOne K (.ref Ac) (.ref A6)=some false
 i_NoGlue_NoGlue:PySem.W.kitOne K (.ref Ac) (.ref Ac)=some true
 s_NoGlue_NoGlue:PySem.W.subIn K (.ref Ac) (.ref Ac)=some true
 i_NoGlue_NoPrime:PySem.W.kitOne K (.ref Ac) (.ref As)=some false
 i_NoGlue_NoStage:PySem.W.kitOne K (.ref Ac) (.ref Ap)=some false
 i_NoGlue_NoPair:PySem.W.kitOne K (.ref Ac) (.ref A0)=some false
 i_NoGlue_NoRow:PySem.W.kitOne K (.ref Ac) (.ref A5)=some false
 i_NoGlue_NoPiece:PySem.W.kitOne K (.ref Ac) (.ref At)=some false
 i_NoGlue_NoRound:PySem.W.kitOne K (.ref Ac) (.ref Ar)=some false
 n_isinstance:mg "isinstance"=none
 n_int:mg "int"=none
 n_bool:mg "bool"=none
 n_max:mg "max"=none
 n_len:mg "len"=none
 n_tuple:mg "tuple"=none
 n_dict:mg "dict"=none
 n_enumerate:mg "enumerate"=none
 n_all:mg "all"=none
 n_range:mg "range"=none
 n_sorted:mg "sorted"=none
 n_list:mg "list"=none
 n_min:mg "min"=none
 n_zip:mg "zip"=none
 n_sum:mg "sum"=none
 n_ValueError:mg "ValueError"=none
def cutS (ns:List Int) (lo hi:Option Int):List Int:=(ns.drop (HT.sIx ns.length 0 lo)).take (HT.sIx ns.length ns.length hi-HT.sIx ns.length 0 lo)
theorem T5 (ns:List Int) (lo hi:Option Int):cutV (ns.map V.int) lo hi=(cutS ns lo hi).map V.int:=by
 unfold cutV cutS
 rw [List.length_map,List.map_take,List.map_drop]
theorem T6 (ns:List Int) (lo hi:Option Int):(cutS ns lo hi).length<=ns.length:=by
 unfold cutS
 rw [List.length_take,List.length_drop]
 omega
theorem z9:(["face","spots"]:List Str).Nodup:=by decide +kernel
theorem z8:(["old","spots","shape"]:List Str).Nodup:=by decide +kernel
theorem j8:(["place","thing"]:List Str).Nodup:=by decide +kernel
theorem z7:(["place","shape"]:List Str).Nodup:=by decide +kernel
theorem z0:(["place"]:List Str).Nodup:=by decide +kernel
theorem y9:(["place","spots","shape"]:List Str).Nodup:=by decide +kernel
theorem y8:(["first","kept"]:List Str).Nodup:=by decide +kernel
theorem j7:(["place","first"]:List Str).Nodup:=by decide +kernel
theorem y7:(["pair","shape"]:List Str).Nodup:=by decide +kernel
theorem y6:(["first","high","low"]:List Str).Nodup:=by decide +kernel
theorem m3:(["_law_letter"]:List Str).Nodup:=by decide +kernel
theorem l9:(["_law_i","_law_word"]:List Str).Nodup:=by decide +kernel
theorem l8:(["_law_word","_law_family","_law_words"]:List Str).Nodup:=by decide +kernel
theorem l7:(["_law_face","_law_words"]:List Str).Nodup:=by decide +kernel
theorem l6:(["_law_spot","_law_shape","_law_one"]:List Str).Nodup:=by decide +kernel
theorem k9:(["_law_mark"]:List Str).Nodup:=by decide +kernel
theorem k6:(["_law_spot","_law_shape","_law_at"]:List Str).Nodup:=by decide +kernel
theorem j9:(["_law_pair"]:List Str).Nodup:=by decide +kernel
section
variable {P:Program}{w:World}{K:W.Frag}{mg:Str->Option Value}{base:Heap}{Ai Aq Az A1 Au Av Ao Ay A6 Ac As Ap A0 A5 At Ar:Addr}
abbrev Ds:Stmt:=top 18
theorem Se:FnScope ["thing"] ["thing"] (Ag Ds):=⟨rfl,rfl,rfl,by decide +kernel,rfl,by decide +kernel,by decide +kernel⟩
theorem Sl {f:Addr}{fd:FuncData} (F:Fun K "is_whole" "is_whole" Ds f fd) (T:Txt K mg Ai Aq Az A1 Au Av Ao Ay A6 Ac As Ap A0 A5 At Ar) :FnOk P w K mg base CX0 1 f fd ["thing"] (Gg K):=by
 refine F.ok Se (fun vs H Q E h=>?_) (fun Cf A outer s H vs Q E hr h=>?_)
 . obtain⟨x,d,rfl,hx,k⟩:=h
   rfl
 . obtain⟨x,d,rfl,hx,k⟩:=h
   refine⟨_,(An (Bj (Vr (Ak (Ff (K:=K)) (by rfl) T.n_isinstance Aj (Aa (pv 0) (Aa (Ki (v:=.ty "int") rfl T.n_int boot_intT rfl) Ae))) (Vp (i9 (Ak (Ff (K:=K)) (by rfl) T.n_isinstance Aj (Aa (pv 0) (Aa (Ki (v:=.ty "bool") rfl T.n_bool Uy rfl) Ae)))))))),?_⟩
   refine⟨_,rfl,_,_,d,rfl,.inl rfl,hx,_,rfl,?_⟩
   refine ite2 (fun e=>?_) (fun e=>?_)
   . refine⟨_,rfl,_,_,d,rfl,.inr (.inl rfl),hx,_,rfl,?_⟩
     have e2:J9 d=!isD "bool" d:=by unfold J9;rw [e];rfl
     rw [e2] at k
     exact k
   . have e2:J9 d=false:=by unfold J9;simp [e]
     rw [e2] at k
     exact k
abbrev Dr:Stmt:=top 21
theorem Sd:FnScope ["piece"] ["piece"] (Ag Dr):=⟨rfl,rfl,rfl,by decide +kernel,rfl,by decide +kernel,by decide +kernel⟩
theorem Sk {f:Addr}{fd:FuncData} (F:Fun K "level_of" "level_of" Dr f fd) (T:Txt K mg Ai Aq Az A1 Au Av Ao Ay A6 Ac As Ap A0 A5 At Ar) :FnOk P w K mg base CX0 1 f fd ["piece"] (Ej K):=by
 refine F.ok Sd (fun vs H Q E h=>?_) (fun Cf A outer s H vs Q E hr h=>?_)
 . obtain⟨x,ds,rfl,hx,k⟩:=h
   rfl
 . obtain⟨x,ds,rfl,hx,k⟩:=h
   refine⟨_,(An (Bj (Ak (Rj (by rfl)) (by rfl) T.n_max Rm (Aa (Bh Px (Ak (Al (K:=K)) (by rfl) T.n_len PySem.boot_len (Aa (pv 0) Ae)) Am) (Aa Am Ae))))),?_⟩
   obtain⟨p,us,e,hq,hl⟩:∃ (p:Addr) (us:List V),x=.ref p/\(SqL K H p us\/SqT K H p us)/\us.length=ds.length:=by
    rcases hx with ⟨p,us,e,hq,r⟩|⟨p,us,e,hq,r⟩
    . exact ⟨p,us,e,.inl hq,r.length⟩
    . exact ⟨p,us,e,.inr hq,r.length⟩
   subst e
   refine⟨_,rfl,p,us,rfl,hq,_,_,rfl,rfl,_,_,rfl,?_⟩
   rw [hl]
   exact k
abbrev Ck:Stmt:=top 23
theorem Pl:FnScope ["spots","piece"] ["spots","piece"] (Ag Ck):=⟨rfl,rfl,rfl,by decide +kernel,rfl,by decide +kernel,by decide +kernel⟩
theorem P0 {f:Addr}{fd:FuncData} (F:Fun K "called_by" "called_by" Ck f fd) (T:Txt K mg Ai Aq Az A1 Au Av Ao Ay A6 Ac As Ap A0 A5 At Ar) :FnOk P w K mg base CX0 1 f fd ["spots","piece"] (Fp K):=by
 refine F.ok Pl (fun vs H Q E h=>?_) (fun Cf A outer s H vs Q E hr h=>?_)
 . obtain⟨b0,v0,rfl,hh⟩:=h
   rfl
 . obtain⟨b0,v0,rfl,hh⟩:=h
   have hu8:(A.deeper (PyProof.Rows.envOfC "called_by" (Ag Ck) s.heap.objs.size f Cf)).units+8<cLine:=by have:=hr.units;omega
   refine⟨_,(An (Bj (B8 (F9 (K:=K)) (by rfl) T.n_tuple G0 (Aa (C9 (N':=["face","spots"]) (cap:=[none,some 0]) (by rfl) (by kernel_rfl) (Sw (K:=K) (pv 1)) (fun _ _ _ _=>(Ba (i:=0) z9 (by rfl) (by first | exact Or.inl rfl | exact Or.inr rfl))) (fun _ _ _ _=>Cl) (fun _ _ _ _=>(B4 (IxR.or (A8 (K:=K)) (Zy (u1 hu8))) (pv 1) (pv 0) (fun _ _=>rfl)))) Ae)))),?_⟩
   rcases hh with ⟨b,v,ms,fs,gf,ez,hb,hv,hfl,hlk,k⟩|⟨a,v,sp,fs,ez,hS,hv,hin,hfl,k⟩
   . cases ez
     obtain⟨af,rfl,sq⟩:=TI.sq hv
     refine⟨_,rfl,af,rfl,⟨_,sq⟩,fun D hD=>?_⟩
     refine K5 (K:=K) (a:=af) (xs:=fs.map V.int) (fun i ys τ H1=>Same H H1/\H1 D=some (.lst ys)/\ys=((fs.take i).map gf).map V.int/\∃ o,τ=[o,some (.ref b0)])
      ⟨Same.new hD,Ad,rfl,none,rfl⟩ (fun i ys τ H1 _ ⟨s1,_⟩=>s1.seqT sq) ?_ ?_
     . rintro i y ys τ H1 hy ⟨s1,hD1,hys,o,rfl⟩
       have hi:i<fs.length:=by have:=(List.getElem?_eq_some_iff.mp hy).1;simpa using this
       have hyv:y=.int fs[i]:=by
        rw [List.getElem?_map,List.getElem?_eq_getElem hi] at hy
        simpa using hy.symm
       subst hyv
       have hx:=hlk _ (List.getElem_mem hi)
       have e5:(fs.take (i+1)).map gf=(fs.take i).map gf++[gf fs[i]]:=by
        rw [List.take_succ,List.getElem?_eq_getElem hi,List.map_append]
        rfl
       generalize fs[i]=x at hx e5
       refine⟨_,rfl,_,rfl,.inr ⟨b0,.int (gf x),rfl,Z4 (.inl (s1 _ _ hb)) hx,?_⟩⟩
       refine⟨hD1,small (by rw [hys,List.length_map,List.length_map,List.length_take];omega),s1.turn hD,Ad,?_,_,rfl⟩
       rw [e5,List.map_append,hys]
       rfl
     . rintro ys τ H1 ⟨s1,hD1,hys,_⟩
       rw [List.length_map,List.take_length] at hys
       refine⟨D,_,rfl,.inl ⟨.of hD1,fun T1 hT1=>?_⟩⟩
       refine k _ _ (s1.trans (Same.new hT1)) (TI.mk ?_)
       rw [←hys]
       exact .of Ad
   . cases ez
     obtain⟨af,rfl,sq⟩:=TI.sq hv
     refine⟨_,rfl,af,rfl,⟨_,sq⟩,fun D hD=>?_⟩
     refine K5 (K:=K) (a:=af) (xs:=fs.map V.int) (fun i ys τ H1=>Same H H1/\H1 D=some (.lst ys)/\ys=((fs.take i).map fun x=>sp.getD x.toNat 0).map V.int/\∃ o,τ=[o,some (.ref b0)])
      ⟨Same.new hD,Ad,rfl,none,rfl⟩ (fun i ys τ H1 _ ⟨s1,_⟩=>s1.seqT sq) ?_ ?_
     . rintro i y ys τ H1 hy ⟨s1,hD1,hys,o,rfl⟩
       have hi:i<fs.length:=by have:=(List.getElem?_eq_some_iff.mp hy).1;simpa using this
       have hyv:y=.int fs[i]:=by
        rw [List.getElem?_map,List.getElem?_eq_getElem hi] at hy
        simpa using hy.symm
       subst hyv
       obtain⟨x0,x1⟩:=hin _ (List.getElem_mem hi)
       have e5:(fs.take (i+1)).map (fun x=>sp.getD x.toNat 0)=(fs.take i).map (fun x=>sp.getD x.toNat 0)++[sp.getD fs[i].toNat 0]:=by
        rw [List.take_succ,List.getElem?_eq_getElem hi,List.map_append]
        rfl
       generalize fs[i]=x at x0 x1 e5
       refine⟨_,rfl,_,rfl,.inl ⟨b0,_,_,_,rfl,rfl,s1.seq hS,Z8 x0 x1,?_⟩⟩
       refine⟨hD1,small (by rw [hys,List.length_map,List.length_map,List.length_take];omega),s1.turn hD,Ad,?_,_,rfl⟩
       rw [e5,List.map_append,hys]
       rfl
     . rintro ys τ H1 ⟨s1,hD1,hys,_⟩
       rw [List.length_map,List.take_length] at hys
       refine⟨D,_,rfl,.inl ⟨.of hD1,fun T1 hT1=>?_⟩⟩
       refine k _ _ (s1.trans (Same.new hT1)) (TI.mk ?_)
       rw [←hys]
       exact .of Ad
abbrev Dq:Stmt:=top 26
theorem Sc:FnScope ["things"] ["things"] (Ag Dq):=⟨rfl,rfl,rfl,by decide +kernel,rfl,by decide +kernel,by decide +kernel⟩
theorem Sj {f:Addr}{fd:FuncData} (F:Fun K "spots_of" "spots_of" Dq f fd) (T:Txt K mg Ai Aq Az A1 Au Av Ao Ay A6 Ac As Ap A0 A5 At Ar) :FnOk P w K mg base CX0 1 f fd ["things"] (Gf K):=by
 refine F.ok Sc (fun vs H Q E h=>?_) (fun Cf A outer s H vs Q E hr h=>?_)
 . obtain⟨b,ks,rfl,hS,hnd,hkl,kq⟩:=h
   rfl
 . obtain⟨b,ks,rfl,hS,hnd,hkl,kq⟩:=h
   refine⟨_,(An (Bj (B8 (Mt (by rfl)) (by rfl) T.n_dict Mu (Aa (C9 (N':=["place","thing"]) (cap:=[none,none]) (by rfl) (by kernel_rfl) (Vl (K:=K) (by rfl) T.n_enumerate (Aa (pv 0) Ae)) (fun _ _ _ _=>(Ob (K:=K) (n:=2) (by rfl) (D3 (Ba (i:=0) j8 (by rfl) (by first | exact Or.inl rfl | exact Or.inr rfl)) (D3 (Ba (i:=1) j8 (by rfl) (by first | exact Or.inl rfl | exact Or.inr rfl)) Nu)))) (fun _ _ _ _=>Cl) (fun _ _ _ _=>(B6 (Aa (pv 1) (Aa (pv 0) Ae))))) Ae)))),?_⟩
   refine⟨_,rfl,b,rfl,⟨_,hS⟩,fun D hD=>?_⟩
   refine Rf (K:=K) (a:=b) (xs:=ks.map V.int) (fun i zs τ G=>Same H G/\G D=some (.lst zs)/\(∃ ts:List Addr,zs=ts.map V.ref/\ts.length=i/\∀ (j:Nat) t,ts[j]?=some t->G t=some (.tup [.int (ks.getD j 0),.int j])/\t≠D)/\∃ o1 o2,τ=[o1,o2])
    ⟨Same.new hD,Ad,⟨[],rfl,rfl,fun j t z=>by simp at z⟩,none,none,rfl⟩ (fun i zs τ G _ ⟨g,_⟩=>g.seq hS) ?_ ?_
   . rintro i x zs τ G p hx ⟨g,hDG,⟨ts,rfl,htl,hts⟩,o1,o2,rfl⟩ hp
     have hi:i<ks.length:=by have:=(List.getElem?_eq_some_iff.mp hx).1;simpa using this
     have hxv:x=.int (ks.getD i 0):=by
      rw [List.getElem?_map,List.getElem?_eq_getElem hi] at hx
      rw [List.getD_eq_getElem?_getD,List.getElem?_eq_getElem hi]
      simpa using hx.symm
     subst hxv
     have gp:Same G (upd G p (.tup [.int i,.int (ks.getD i 0)])):=Same.new hp
     have hp1:(upd G p (.tup [.int i,.int (ks.getD i 0)])) p=some (.tup [.int i,.int (ks.getD i 0)]):=Ad
     generalize upd G p (.tup [.int i,.int (ks.getD i 0)])=G1 at gp hp1
     refine⟨p,_,rfl,.of hp1,rfl,_,_,rfl,_,_,rfl,rfl,?_⟩
     refine⟨_,rfl,_,rfl,A4 (by simp),fun t ht=>?_⟩
     have gt:=gp.trans (Same.new (o:=.tup [.int (ks.getD i 0),.int i]) ht)
     have ntD:t≠D:=(Bm (gp _ _ hDG) ht).symm
     have hDt:=gt _ _ hDG
     have htt:(upd G1 t (.tup [.int (ks.getD i 0),.int i])) t=some (.tup [.int (ks.getD i 0),.int i]):=Ad
     generalize upd G1 t (.tup [.int (ks.getD i 0),.int i])=G2 at gt hDt htt
     refine⟨hDt,small (by rw [List.length_map];omega),(g.trans gt).turn hD,Ad,⟨ts++[t],by simp,by simp [htl],fun j t' e2=>?_⟩,_,_,rfl⟩
     rw [List.getElem?_append] at e2
     split at e2
     . obtain⟨h2',h3'⟩:=hts j t' e2
       exact ⟨by rw [A7 h3'];exact gt _ _ h2',h3'⟩
     . rename_i hj
       have hj0:j-ts.length=0:=by
        cases hz:j-ts.length with
        | zero=>rfl
        | succ m=>rw [hz] at e2;simp at e2
       rw [hj0] at e2
       have et:t=t':=by simpa using e2
       subst et
       have ej:j=i:=by omega
       subst ej
       exact ⟨by rw [A7 ntD];exact htt,ntD⟩
   . rintro zs τ G ⟨g,hDG,⟨ts,rfl,htl,hts⟩,_⟩
     rw [List.length_map] at htl
     refine⟨D,ts,cK (zipK ks),rfl,hDG,(by rw [t7,Xi];exact htl),fun i t e2=>?_,fun E hE=>?_⟩
     . obtain⟨h2',_⟩:=hts i t e2
       have hi:i<ks.length:=by have:=(List.getElem?_eq_some_iff.mp e2).1;omega
       refine⟨(.inl (ks.getD i 0),.int i),?_,h2'⟩
       unfold cK
       rw [List.getElem?_map,Tm hi]
       rfl
     . refine kq E _ (g.free hE) (g.trans (Same.new hE)) ?_
       rw [Ad,Js _ [] (by rw [List.nil_append];exact X0.mpr (U2 hnd)),List.nil_append]
abbrev Bo:Stmt:=top 29
theorem Im:FnScope ["shape","places","wanted","place","face"] ["shape","places"] (Ag Bo):=⟨rfl,rfl,rfl,by decide +kernel,rfl,by decide +kernel,by decide +kernel⟩
theorem Da:(["shape","places","wanted","place","face"]:List Str).Nodup:=by decide +kernel
theorem Ir {f:Addr}{fd:FuncData} (F:Fun K "with_all_faces" "with_all_faces" Bo f fd) (T:Txt K mg Ai Aq Az A1 Au Av Ao Ay A6 Ac As Ap A0 A5 At Ar) :FnOk P w K mg base CX0 1 f fd ["shape","places"] (C3 K):=by
 refine F.ok Im (fun vs H Q E h=>?_) (fun Cf A outer s H vs Q E hr h=>?_)
 . obtain⟨a,b,ys,gs,rfl,hL,hS,hlow,hyl,hy4,hgr,hgl,k⟩:=h
   rfl
 . obtain⟨a,b,ys,gs,rfl,hL,hS,hlow,hyl,hy4,hgr,hgl,k⟩:=h
   have hu8:(A.deeper (PyProof.Rows.envOfC "with_all_faces" (Ag Bo) s.heap.objs.size f Cf)).units+8<cLine:=by have:=hr.units;omega
   refine⟨_,(Af (A3 (i:=2) Da (by rfl) (by first | exact Or.inl rfl | exact Or.inr rfl) (B8 (Mt (by rfl)) (by rfl) T.n_dict Mu (Aa (C9 (N':=["place"]) (cap:=[none]) (by rfl) (by kernel_rfl) (Bx (K:=K) (pv 1)) (fun _ _ _ _=>(Ba (i:=0) z0 (by rfl) (by first | exact Or.inl rfl | exact Or.inr rfl))) (fun _ _ _ _=>Cl) (fun _ _ _ _=>(B6 (Aa (pv 0) (Aa J5 Ae))))) Ae)))
    (Af (Ed PassesOwn.never rfl (Zi (by rfl) T.n_range (Aa (Bh Px (Ak (Al (K:=K)) (by rfl) T.n_len PySem.boot_len (Aa (pv 0) Ae)) Am) (Aa (Vn O8 Am) (Aa (Vn O8 Am) Ae)))) (Ba (i:=3) Da (by rfl) (by first | exact Or.inl rfl | exact Or.inr rfl)) (An (C2 (Bb (j2 (u1 hu8)) (pv 3) (pv 2) rfl) (An (Ed PassesOwn.never rfl (Sw (K:=K) (B4 (A8 (K:=K)) (pv 0) (pv 3) (fun _ _=>rfl))) (Ba (i:=4) Da (by rfl) (by first | exact Or.inl rfl | exact Or.inr rfl)) (An (Ze (u1 hu8) (pv 2) (pv 4) J5 (by rfl))))) Bk)))
    (An (Bj (Ak (Ri (by rfl)) (by rfl) T.n_sorted PyProof.Rows.boot_sorted (Aa (pv 2) Ae)))))),?_⟩
   refine Ax (fun σ' H'=>∃ (D:Addr) (Aw:List (Key × V)) (ks:List Int),σ'=[some (.ref a),some (.ref b),some (.ref D),none,none]/\Same H H'/\H D=none/\H' D=some (.dK Aw)/\KI Aw ks/\Way ys gs ks ys.length) ?_ fun key=>?_
   rotate_left
   . refine⟨_,rfl,b,rfl,⟨_,hS⟩,fun D hD=>?_⟩
     refine B2 (K:=K) (a:=b) (xs:=gs.map V.int) (fun i zs τ G=>Same H G/\G D=some (.lst zs)/\(∃ ts:List Addr,zs=ts.map V.ref/\ts.length=i/\∀ (j:Nat) t,ts[j]?=some t->G t=some (.tup [.int (gs.getD j 0),.bl true])/\t≠D)/\∃ o,τ=[o])
      ⟨Same.new hD,Ad,⟨[],rfl,rfl,fun j t z=>by simp at z⟩,none,rfl⟩ (fun i zs τ G _ ⟨g,_⟩=>g.seq hS) ?_ ?_
     . rintro i x zs τ G hx ⟨g,hDG,⟨ts,rfl,htl,hts⟩,o,rfl⟩
       obtain⟨hi,rfl⟩:=Hn hx
       have hgd:gs.getD i 0=gs[i]:=by rw [List.getD_eq_getElem?_getD,List.getElem?_eq_getElem hi];rfl
       refine⟨_,rfl,A4 (by simp),fun t ht=>?_⟩
       have gt:Same G (upd G t (.tup [.int gs[i],.bl true])):=Same.new ht
       have ntD:t≠D:=(Bm hDG ht).symm
       have hDt:=gt _ _ hDG
       have htt:(upd G t (.tup [.int gs[i],.bl true])) t=some (.tup [.int gs[i],.bl true]):=Ad
       generalize upd G t (.tup [.int gs[i],.bl true])=G2 at gt hDt htt
       refine⟨hDt,small (by rw [List.length_map];omega),(g.trans gt).turn hD,Ad,⟨ts++[t],by simp,by simp [htl],fun j t' e2=>?_⟩,_,rfl⟩
       rw [List.getElem?_append] at e2
       split at e2
       . obtain⟨h2',h3'⟩:=hts j t' e2
         exact ⟨by rw [A7 h3'];exact gt _ _ h2',h3'⟩
       . rename_i hj
         have hj0:j-ts.length=0:=by
          cases hz:j-ts.length with
          | zero=>rfl
          | succ m=>rw [hz] at e2;simp at e2
         rw [hj0] at e2
         have et:t=t':=by simpa using e2
         subst et
         have ej:j=i:=by omega
         subst ej
         exact ⟨by rw [A7 ntD,hgd];exact htt,ntD⟩
     . rintro zs τ G ⟨g,hDG,⟨ts,rfl,htl,hts⟩,_⟩
       rw [List.length_map] at htl
       refine⟨D,ts,gs.map (fun g=>((.inl g:Key),V.bl true)),rfl,hDG,(by rw [List.length_map];exact htl),fun i t e2=>?_,fun E hE=>?_⟩
       . obtain⟨h2',_⟩:=hts i t e2
         have hi:i<gs.length:=by have:=(List.getElem?_eq_some_iff.mp e2).1;omega
         refine⟨(.inl (gs.getD i 0),.bl true),?_,h2'⟩
         rw [List.getElem?_map,List.getElem?_eq_getElem hi,List.getD_eq_getElem?_getD,List.getElem?_eq_getElem hi]
         rfl
       . have gE:Same G (upd G E (.dK (mergeK [] (gs.map (fun g=>((.inl g:Key),V.bl true)))))):=Same.new hE
         exact key _ _ ⟨E,_,_,rfl,g.trans gE,g.free hE,Ad,KI.merge gs KI.nil,Way.start hgr⟩
   rintro _ H1 ⟨D,Aw,ks,rfl,s1,hD,hD1,hk,hw⟩
   obtain⟨xu,hxq,hxul⟩:=LT.len hL
   refine⟨_,rfl,a,xu,rfl,.inl (s1.seq hxq),_,_,rfl,rfl,_,rfl,_,rfl,ys.length,by rw [hxul],by omega,?_⟩
   refine Yc (hi:=(ys.length:Int)-1) (n:=ys.length) (fun j σ G=>∃ (Aw:List (Key × V)) (ks:List Int) (o3 o4:Option V),σ=[some (.ref a),some (.ref b),some (.ref D),o3,o4]/\Same H G/\G D=some (.dK Aw)/\KI Aw ks/\Way ys gs ks ((ys.length:Int)-j))
    ⟨Aw,ks,_,_,rfl,s1,hD1,hk,by simpa using hw⟩ ?_ ?_
   . rintro j σ G hj ⟨Aw,ks,o3,o4,rfl,g,hDG,hk,hw⟩
     generalize hp:(ys.length:Int)-1-(j:Int)=p
     have hp0:0<=p:=by omega
     have hp1:p<(ys.length:Int):=by omega
     have hw':Way ys gs ks (p+1):=by rw [show p+1=(ys.length:Int)-j by omega];exact hw
     have fin:∀ ks',Way ys gs ks' p->Way ys gs ks' ((ys.length:Int)-((j+1:Nat):Int)):=fun ks' h=>by rw [show (ys.length:Int)-((j+1:Nat):Int)=p by omega];exact h
     refine⟨_,rfl,_,rfl,D,Aw,.inl p,rfl,hDG,rfl,_,rfl,?_⟩
     rw [hk.val]
     refine ite2 (fun h1=>?_) (fun h1=>?_)
     . have hpk:p∈ks:=of_decide_eq_true h1
       obtain⟨xq,vx,hxq2,hvx,tvx⟩:=LT.get hL hp0 hp1
       obtain⟨ax,rfl,sqx⟩:=TI.sq tvx
       have hx4:=hy4 _ (Gs (d:=[]) (show p.toNat<ys.length by omega))
       refine⟨_,rfl,_,rfl,a,xq,_,_,rfl,rfl,g.seq hxq2,hvx,ax,rfl,⟨_,g.seqT sqx⟩,?_⟩
       refine Z2 (K:=K) (a:=ax) (xs:=(ys.getD p.toNat []).map V.int) (fun m σ G2=>∃ (Aw:List (Key × V)) (ks:List Int) (o4:Option V),σ=[some (.ref a),some (.ref b),some (.ref D),some (.int p),o4]/\Same H G2/\G2 D=some (.dK Aw)/\KI Aw ks/\U0 ys gs ks p m)
        ⟨Aw,ks,_,rfl,g,hDG,hk,hw',hpk,fun f hf=>by simp at hf⟩ (fun m σ G2 _ ⟨_,_,_,_,g2,_⟩=>g2.seqT sqx) ?_ ?_
       . rintro m y σ G2 hy ⟨kvs2,ks2,o4',rfl,g2,hDG2,hk2,hw2⟩
         obtain⟨hm,rfl⟩:=Hn hy
         have hlen:=hw2.toWay.len
         refine⟨_,rfl,_,rfl,D,_,rfl,DPut.k (k:=.inl (ys.getD p.toNat [])[m]) hDG2 (small (by rw [hk2.len];omega)),?_⟩
         exact ⟨_,_,_,rfl,g2.turn hD,Ad,hk2.put _ _,hw2.put hlow hm⟩
       . rintro σ G2 ⟨kvs2,ks2,o4',rfl,g2,hDG2,hk2,hw2⟩
         rw [List.length_map] at hw2
         exact ⟨kvs2,ks2,_,_,rfl,g2,hDG2,hk2,fin _ hw2.done⟩
     . exact ⟨Aw,ks,_,_,rfl,g,hDG,hk,fin _ (hw'.skip (fun z=>h1 (decide_eq_true z)))⟩
   . rintro σ G ⟨Aw,ks,o3,o4,rfl,g,hDG,hk,hw⟩
     have hw0:Way ys gs ks 0:=by simpa using hw
     have hlen:=hw0.len
     refine⟨_,rfl,D,ks,Aw,rfl,hDG,hk,by omega,fun ms hp hs E hE=>?_⟩
     have gE:Same G (upd G E (.lst (ms.map V.int))):=Same.new hE
     exact k E ms _ (g.free hE) (g.trans gE) Ad (hw0.kept hp hs)
abbrev C8:Stmt:=top 34
theorem Po:FnScope ["_law_script","_law_k"] ["_law_script","_law_k"] (Ag C8):=⟨rfl,rfl,rfl,by decide +kernel,rfl,by decide +kernel,by decide +kernel⟩
theorem P3 {f:Addr}{fd:FuncData} (F:Fun K "_law_cell_at" "_law_cell_at" C8 f fd) (T:Txt K mg Ai Aq Az A1 Au Av Ao Ay A6 Ac As Ap A0 A5 At Ar) :FnOk P w K mg base CX0 1 f fd ["_law_script","_law_k"] (E9 K):=by
 refine F.ok Po (fun vs H Q E h=>?_) (fun Cf A outer s H vs Q E hr h=>?_)
 . obtain⟨a,ns,k,rfl,hS,h0,hl,kq⟩:=h
   rfl
 . obtain⟨a,ns,k,rfl,hS,h0,hl,kq⟩:=h
   refine⟨_,(Af (C2 (Bb Vu (pv 1) (Ak (Al (K:=K)) (by rfl) T.n_len PySem.boot_len (Aa (pv 0) Ae)) (Bp _)) (An (Bj (B4 (A8 (K:=K)) (pv 0) (pv 1) (fun _ _=>rfl)))) Bk)
    (An (Bj Am))),?_⟩
   refine⟨_,rfl,_,rfl,a,_,rfl,.inl hS,_,_,rfl,rfl,_,rfl,?_⟩
   refine ite2 (fun h1=>?_) (fun h1=>?_)
   . have h2:k<(ns.length:Int):=by simpa using h1
     have e:atI (ns.map V.int) k=some (.int (Hw ns k)):=by
      obtain⟨j,rfl⟩:=Int.eq_ofNat_of_zero_le h0
      refine Bg ?_
      have hj:j<ns.length:=by omega
      rw [List.getElem?_map,List.getElem?_eq_getElem hj]
      simp [Hw,hj]
     exact ⟨_,rfl,_,rfl,a,_,k,_,rfl,rfl,hS,e,kq⟩
   . have h2:¬k<(ns.length:Int):=by simpa using h1
     have e:Hw ns k=0:=by
      unfold Hw
      have:ns.length<=k.toNat:=by omega
      simp [this]
     rw [e] at kq
     exact kq
abbrev Cr:Stmt:=top 35
theorem Nl:FnScope ["_law_word","_law_family","_law_size","_law_faces","_law_i"] ["_law_word","_law_family"] (Ag Cr):=⟨rfl,rfl,rfl,by decide +kernel,rfl,by decide +kernel,by decide +kernel⟩
theorem Er:(["_law_word","_law_family","_law_size","_law_faces","_law_i"]:List Str).Nodup:=by decide +kernel
theorem Ny {f:Addr}{fd:FuncData} (F:Fun K "_law_faces_by" "_law_faces_by" Cr f fd) (T:Txt K mg Ai Aq Az A1 Au Av Ao Ay A6 Ac As Ap A0 A5 At Ar) :FnOk P w K mg base CX0 1 f fd ["_law_word","_law_family"] (Dk K):=by
 refine F.ok Nl (fun vs H Q E h=>?_) (fun Cf A outer s H vs Q E hr h=>?_)
 . obtain⟨v,w,fam,rfl,hv,hw,k⟩:=h
   rfl
 . obtain⟨v,w,fam,rfl,hv,hw,k⟩:=h
   refine⟨_,(Af (A3 (i:=2) Er (by rfl) (by first | exact Or.inl rfl | exact Or.inr rfl) (Ak (Al (K:=K)) (by rfl) T.n_len PySem.boot_len (Aa (pv 0) Ae)))
    (Af (C2 (Bb Hi (pv 1) Am (Bp _)) (Af (C2 (Bb Vu (pv 2) Am (Bp _)) (An (Bj (Ch Ae))) Bk)
    (An (Bj (C9 (N':=["_law_i","_law_word"]) (cap:=[none,some 0]) (by rfl) (by kernel_rfl) (Dx (by rfl) T.n_range (Aa (pv 2) Ae)) (fun _ _ _ _=>(Ba (i:=0) l9 (by rfl) (by first | exact Or.inl rfl | exact Or.inr rfl))) (fun _ _ _ _=>Cl) (fun _ _ _ _=>(Bh (J7 (K:=K)) (Ci (Fr (K:=K)) (pv 1) D6 (Cv (pv 0))) (Ci (Fr (K:=K)) (pv 1) (Cv (Bh Ee (pv 0) Am)) D6))))))) Bk)
    (Af (C2 (Bb Hi (pv 2) Am (Bp _)) (An (Bj (Ch Ae))) Bk)
    (Af (C2 (Bb Vu (pv 1) Am (Bp _)) (Af (C2 (Bb Hi (pv 2) Am (Bp _)) (An (Bj (Ch (Aa (B6 Ae) (Aa (B6 Ae) Ae))))) Bk)
    (An (Bj (C9 (N':=["_law_letter"]) (cap:=[none]) (by rfl) (by kernel_rfl) (Sw (K:=K) (pv 0)) (fun _ _ _ _=>(Ba (i:=0) m3 (by rfl) (by first | exact Or.inl rfl | exact Or.inr rfl))) (fun _ _ _ _=>Cl) (fun _ _ _ _=>(B6 (Aa (pv 0) Ae))))))) Bk)
    (Af (A3 (i:=3) Er (by rfl) (by first | exact Or.inl rfl | exact Or.inr rfl) (Ch (Aa (Ci (Fr (K:=K)) (pv 0) (Cv Am) D6) Ae)))
    (Af (Ed PassesOwn.never rfl (Dx (by rfl) T.n_range (Aa (Bh Px (pv 2) Am) Ae)) (Ba (i:=4) Er (by rfl) (by first | exact Or.inl rfl | exact Or.inr rfl)) (An (Gj (Kq (K:=K) PySem.F.plainAttrs_list PySem.F.slot_list_append PySem.F.type_list_append Dy (pv 3) (Aa (Bh (J7 (K:=K)) (Bh (J7 (K:=K)) (Ci (Fr (K:=K)) (pv 0) D6 (Cv (pv 4))) (B6 (Aa (Bh Cs (Bh Ee (B4 (Ja (K:=K)) (pv 0) (pv 4) (fun _ _=>rfl)) (B4 (Ja (K:=K)) (pv 0) (Bh Ee (pv 4) Am) (fun _ _=>rfl))) (pv 1)) Ae))) (Ci (Fr (K:=K)) (pv 0) (Cv (Bh Ee (pv 4) Am)) D6)) Ae)))))
    (Af (Gj (Kq (K:=K) PySem.F.plainAttrs_list PySem.F.slot_list_append PySem.F.type_list_append Dy (pv 3) (Aa (Ci (Fr (K:=K)) (pv 0) D6 (Cv (Bh Px (pv 2) Am))) Ae)))
    (An (Bj (pv 3)))))))))),?_⟩
   obtain⟨aw,rfl,hq⟩:=hv.sq
   have hlen:(w.map V.int).length=w.length:=List.length_map ..
   have hl4:w.length<=4:=by rcases hw with z | z | z<;>omega
   refine⟨_,rfl,aw,_,rfl,.inr hq,?_⟩
   rw [hlen]
   refine⟨_,rfl,rfl,_,rfl,?_⟩
   refine ite2 (fun h1=>?_) (fun h1=>?_)
   . have hf:fam=0:=by simpa using h1
     subst hf
     refine⟨_,rfl,_,_,rfl,rfl,_,rfl,?_⟩
     refine ite2 (fun h2=>?_) (fun h2=>?_)
     . have h3:w.length<2:=by have:(w.length:Int)<2:=by simpa using h2
                              omega
       refine⟨Nat.zero_le _,fun p hp=>?_⟩
       refine k p [] _ hp (Same.new hp) Ad ?_
       have e:Ah w 0=[]:=by unfold Ah;rw [if_pos rfl,if_pos h3]
       rw [e]
       rfl
     . have h3:¬w.length<2:=by have:¬(w.length:Int)<2:=by simpa using h2
                               omega
       have e:Ah w 0=(List.range w.length).map fun i=>w.take i++w.drop (i+1):=by unfold Ah;rw [if_pos rfl,if_neg h3]
       rw [e] at k
       refine⟨_,rfl,_,rfl,by omega,by omega,fun D hD=>?_⟩
       refine Te (fun i ys τ H1=>i<=w.length/\Same H H1/\H1 D=some (.lst ys)/\Reps K H1 ys (((List.range i).map fun i=>w.take i++w.drop (i+1)).map tI)/\∃ o,τ=[o,some (.ref aw)])
        ⟨Nat.zero_le _,Same.new hD,Ad,rfl,none,rfl⟩ ?_ ?_
       . rintro i ys τ H1 hi ⟨hi1,s1,hD1,r1,o,rfl⟩
         have hi2:i<w.length:=by simpa using hi
         have hq1:SqT K H1 aw (w.map V.int):=s1.seqT hq
         refine⟨_,rfl,_,rfl,_,rfl,aw,_,rfl,hq1,?_,fun p1 H2 s2 q2=>?_⟩
         . rw [hlen];rintro ⟨_,z⟩
           rw [show ((0:Int)+(i:Int))=((i:Nat):Int) by omega,HT.sIx_nat] at z
           omega
         refine⟨_,rfl,_,rfl,_,_,rfl,rfl,_,rfl,aw,_,rfl,s2.seqT hq1,?_,fun p2 H3 s3 q3=>?_⟩
         . rw [hlen];rintro ⟨z,_⟩
           rw [show ((0:Int)+(i:Int)+1)=((i+1:Nat):Int) by omega,HT.sIx_nat] at z
           omega
         rw [show ((0:Int)+(i:Int))=((i:Nat):Int) by omega,Hu] at q2
         rw [show ((0:Int)+(i:Int)+1)=((i+1:Nat):Int) by omega,Hv] at q3
         refine⟨p1,p2,_,_,rfl,rfl,s3.seqT q2,q3,?_,fun p H4 s4 q4=>?_⟩
         . refine A4 ?_
           simp only [List.length_take,List.length_drop,List.length_map]
           omega
         have s14:Same H1 H4:=(s2.trans s3).trans s4
         have hD4:H4 D=some (.lst ys):=s14 _ _ hD1
         have t4:TI K H4 (.ref p) (w.take i++w.drop (i+1)):=by
          refine TI.mk ?_
          rw [List.map_append,List.map_take,List.map_drop]
          exact q4
         have r4:Reps K H4 ys (((List.range i).map fun i=>w.take i++w.drop (i+1)).map tI):=Reps.same s14 r1
         have hyl:ys.length=i:=by have:=r1.length;simpa using this
         refine⟨hD4,small (by omega),by omega,(s1.trans s14).turn hD,Ad,?_,_,rfl⟩
         rw [List.range_succ,List.map_append]
         exact D5 hD4 r4 t4
       . rintro ys τ H1 ⟨_,s1,hD1,r1,_⟩
         rw [show ((w.length:Int)).toNat=w.length by omega] at r1
         exact k D ys H1 hD s1 hD1 r1
   . have hf:¬fam=0:=by simpa using h1
     refine⟨_,rfl,rfl,_,rfl,?_⟩
     refine ite2 (fun h2=>?_) (fun h2=>?_)
     . have h3:w.length=0:=by simpa using h2
       refine⟨Nat.zero_le _,fun p hp=>?_⟩
       refine k p [] _ hp (Same.new hp) Ad ?_
       have e:Ah w fam=[]:=by unfold Ah;rw [if_neg hf,if_pos h3]
       rw [e]
       rfl
     have h3:¬w.length=0:=by simpa using h2
     refine⟨_,rfl,_,_,rfl,rfl,_,rfl,?_⟩
     refine ite2 (fun h4=>?_) (fun h4=>?_)
     . have h5:fam<0:=by simpa using h4
       refine⟨_,rfl,rfl,_,rfl,?_⟩
       refine ite2 (fun h6=>?_) (fun h6=>?_)
       . have h7:w.length=1:=by
          have:(w.length:Int)=1:=by simpa using h6
          omega
         have e:Ah w fam=[[],[]]:=by unfold Ah;rw [if_neg hf,if_neg h3,if_pos h5,if_pos h7]
         rw [e] at k
         refine⟨Nat.zero_le _,fun p1 hp1=>⟨Nat.zero_le _,fun p2 hp2=>⟨A4 (by simp),fun p hp=>?_⟩⟩⟩
         have s1:Same H (upd H p1 (.tup [])):=Same.new hp1
         have s2:Same (upd H p1 (.tup [])) (upd (upd H p1 (.tup [])) p2 (.tup [])):=Same.new hp2
         have s3:Same (upd (upd H p1 (.tup [])) p2 (.tup [])) (upd (upd (upd H p1 (.tup [])) p2 (.tup [])) p (.lst [.ref p1,.ref p2])):=Same.new hp
         have hp0:H p=none:=(s1.trans s2).free hp
         refine k p _ _ hp0 ((s1.trans s2).trans s3) Ad ?_
         have t1:TI K _ (.ref p1) []:=TI.mk (.of (s3 _ _ (s2 _ _ Ad)))
         have t2:TI K _ (.ref p2) []:=TI.mk (.of (s3 _ _ Ad))
         exact ⟨_,_,rfl,t1,_,_,rfl,t2,rfl⟩
       . have h7:¬w.length=1:=by
          have:¬(w.length:Int)=1:=by simpa using h6
          omega
         have e:Ah w fam=w.map fun l=>[l]:=by unfold Ah;rw [if_neg hf,if_neg h3,if_pos h5,if_neg h7]
         rw [e] at k
         refine⟨_,rfl,aw,rfl,⟨_,hq⟩,fun D hD=>?_⟩
         refine K5 (xs:=w.map V.int) (fun i ys τ H1=>i<=w.length/\Same H H1/\H1 D=some (.lst ys)/\Reps K H1 ys (((w.take i).map fun l=>[l]).map tI)/\∃ o,τ=[o])
          ⟨Nat.zero_le _,Same.new hD,Ad,rfl,none,rfl⟩ (fun i ys τ H1 _ ⟨_,s1,_⟩=>s1.seqT hq) ?_ ?_
         . rintro i x ys τ H1 hx ⟨hi1,s1,hD1,r1,o,rfl⟩
           have hi2:i<w.length:=by have:=(List.getElem?_eq_some_iff.mp hx).1;simpa using this
           have hx2:x=.int w[i]:=by
            rw [List.getElem?_map,List.getElem?_eq_getElem hi2] at hx
            simpa using hx.symm
           subst hx2
           refine⟨_,rfl,A4 (by simp),fun p hp=>?_⟩
           have s2:Same H1 (upd H1 p (.tup [.int w[i]])):=Same.new hp
           have hD4:=s2 _ _ hD1
           have t4:TI K (upd H1 p (.tup [.int w[i]])) (.ref p) [w[i]]:=TI.mk (.of Ad)
           have r4:=Reps.same s2 r1
           have hyl:ys.length=i:=by have:=r1.length;simp at this;omega
           refine⟨hD4,small (by omega),by omega,(s1.trans s2).turn hD,Ad,?_,_,rfl⟩
           have e2:(w.take (i+1)).map (fun l=>[l])=(w.take i).map (fun l=>[l])++[[w[i]]]:=by
            rw [List.take_succ,List.getElem?_eq_getElem hi2,List.map_append]
            rfl
           rw [e2]
           exact D5 hD4 r4 t4
         . rintro ys τ H1 ⟨_,s1,hD1,r1,_⟩
           rw [hlen,List.take_length] at r1
           exact k D ys H1 hD s1 hD1 r1
     have h5:¬fam<0:=by simpa using h4
     have hpos:0<fam:=by omega
     have e:Ah w fam=w.drop 1::((List.range (w.length-1)).map fun i=>w.take i++[(w.getD i 0+w.getD (i+1) 0)%fam]++w.drop (i+2))++[w.take (w.length-1)]:=by
      unfold Ah;rw [if_neg hf,if_neg h3,if_neg h5]
     rw [e] at k
     refine⟨_,rfl,_,rfl,aw,_,rfl,hq,?_,fun p1 H1 s1 q1=>⟨A4 (by simp),fun D hD=>?_⟩⟩
     . rw [hlen];rintro ⟨z,_⟩
       rw [show (1:Int)=((1:Nat):Int) by omega,HT.sIx_nat] at z
       omega
     rw [show (1:Int)=((1:Nat):Int) by omega,Hv] at q1
     have hD0:H D=none:=s1.free hD
     have s2:Same H1 (upd H1 D (.lst [.ref p1])):=Same.new hD
     have t1:TI K (upd H1 D (.lst [.ref p1])) (.ref p1) (w.drop 1):=by
      refine TI.mk ?_
      rw [List.map_drop]
      exact s2.seqT q1
     have hn:((w.length:Int)-1).toNat=w.length-1:=by omega
     refine⟨_,rfl,_,_,rfl,rfl,_,rfl,by omega,by omega,Dz (lo:=0) (n:=((w.length:Int)-1).toNat)
      (fun i σ H2=>∃ (ys:List V) (o:Option V),σ=[some (.ref aw),some (.int fam),some (.int w.length),some (.ref D),o]/\Same H H2/\H2 D=some (.lst ys) ∧
        Reps K H2 ys ((w.drop 1::((List.range i).map fun i=>w.take i++[(w.getD i 0+w.getD (i+1) 0)%fam]++w.drop (i+2))).map tI))
      ⟨_,none,rfl,s1.trans s2,Ad,⟨_,_,rfl,t1,rfl⟩⟩ ?_ ?_⟩
     . rintro i σ H2 hi ⟨ys,o,rfl,sH,hD2,r2⟩
       rw [hn] at hi
       have hq2:SqT K H2 aw (w.map V.int):=sH.seqT hq
       have c0:((0:Int)+(i:Int))=((i:Nat):Int):=by omega
       have c1:((0:Int)+(i:Int)+1)=((i+1:Nat):Int):=by omega
       have c2:((0:Int)+(i:Int)+2)=((i+2:Nat):Int):=by omega
       have at0:atI (w.map V.int) ((0:Int)+(i:Int))=some (.int (w.getD i 0)):=by
        rw [c0]
        refine Bg ?_
        rw [List.getElem?_map,List.getElem?_eq_getElem (by omega)]
        simp [show i<w.length by omega]
       have at1:atI (w.map V.int) ((0:Int)+(i:Int)+1)=some (.int (w.getD (i+1) 0)):=by
        rw [c1]
        refine Bg ?_
        rw [List.getElem?_map,List.getElem?_eq_getElem (by omega)]
        simp [show i+1<w.length by omega]
       refine⟨_,rfl,.inl ⟨rfl,_,SqL.of hD2⟩,?_⟩
       refine⟨_,rfl,_,rfl,_,rfl,aw,_,rfl,hq2,?_,fun pa Ha sa qa=>?_⟩
       . rw [hlen];rintro ⟨_,z⟩
         rw [c0,HT.sIx_nat] at z
         omega
       rw [c0,Hu] at qa
       refine⟨_,rfl,_,rfl,aw,_,_,_,rfl,rfl,sa.seqT hq2,at0,_,rfl,_,rfl,_,_,rfl,rfl,aw,_,_,_,rfl,rfl,sa.seqT hq2,at1,_,_,rfl,rfl,_,rfl,_,_,rfl,rfl,hpos,A4 (by simp),fun pb hb=>?_⟩
       have sb:Same Ha (upd Ha pb (.tup [.int ((w.getD i 0+w.getD (i+1) 0)%fam)])):=Same.new hb
       refine⟨pa,pb,_,_,rfl,rfl,sb.seqT qa,.of Ad,A4 (by simp;omega),fun pc Hc sc qc=>?_⟩
       have sac:=(sa.trans sb).trans sc
       refine⟨_,rfl,_,rfl,_,_,rfl,rfl,_,rfl,aw,_,rfl,sac.seqT hq2,?_,fun pd Hd sd qd=>?_⟩
       . rw [hlen];rintro ⟨z,_⟩
         rw [c2,HT.sIx_nat] at z
         omega
       rw [c2,Hv] at qd
       refine⟨pc,pd,_,_,rfl,rfl,sd.seqT qc,qd,A4 (by simp;omega),fun pe He se qe=>?_⟩
       have sall:=(sac.trans sd).trans se
       have hDe:=sall _ _ hD2
       have te:TI K He (.ref pe) (w.take i++[(w.getD i 0+w.getD (i+1) 0)%fam]++w.drop (i+2)):=by
        refine TI.mk ?_
        simp only [List.map_append,List.map_take,List.map_drop,List.map_cons,List.map_nil]
        exact qe
       have hyl:ys.length=i+1:=by have:=r2.length;simpa using this
       refine⟨D,_,_,rfl,rfl,hDe,small (by omega),?_⟩
       refine⟨_,_,rfl,(sH.trans sall).turn hD0,Ad,?_⟩
       have e3:(w.drop 1::((List.range (i+1)).map fun i=>w.take i++[(w.getD i 0+w.getD (i+1) 0)%fam]++w.drop (i+2))) =
        (w.drop 1::((List.range i).map fun i=>w.take i++[(w.getD i 0+w.getD (i+1) 0)%fam]++w.drop (i+2)))++[w.take i++[(w.getD i 0+w.getD (i+1) 0)%fam]++w.drop (i+2)]:=by
        rw [List.range_succ,List.map_append]
        rfl
       rw [e3]
       exact D5 hDe (Reps.same sall r2) te
     . rintro σ H2 ⟨ys,o,rfl,sH,hD2,r2⟩
       rw [hn] at r2
       have hq2:SqT K H2 aw (w.map V.int):=sH.seqT hq
       have c1:((w.length:Int)-1)=((w.length-1:Nat):Int):=by omega
       refine⟨_,rfl,.inl ⟨rfl,_,SqL.of hD2⟩,_,rfl,_,rfl,_,_,rfl,rfl,_,rfl,aw,_,rfl,hq2,?_,fun pa Ha sa qa=>?_⟩
       . rw [hlen];rintro ⟨_,z⟩
         rw [c1,HT.sIx_nat] at z
         omega
       rw [c1,Hu] at qa
       have hDa:=sa _ _ hD2
       have ta:TI K Ha (.ref pa) (w.take (w.length-1)):=by
        refine TI.mk ?_
        rw [List.map_take]
        exact qa
       have hyl:ys.length=w.length:=by have:=r2.length;simp at this;omega
       refine⟨D,_,_,rfl,rfl,hDa,small (by omega),?_⟩
       refine⟨_,rfl,?_⟩
       exact k D _ _ hD0 ((sH.trans sa).turn hD0) Ad (D5 hDa (Reps.same sa r2) ta)
abbrev C6:Stmt:=top 36
theorem Pm:FnScope ["_law_cell","_law_family","_law_letters","_law_size","_law_base","_law_word","_law_k"] ["_law_cell","_law_family","_law_letters"] (Ag C6):=⟨rfl,rfl,rfl,by decide +kernel,rfl,by decide +kernel,by decide +kernel⟩
theorem Bn:(["_law_cell","_law_family","_law_letters","_law_size","_law_base","_law_word","_law_k"]:List Str).Nodup:=by decide +kernel
theorem P1 {f:Addr}{fd:FuncData} (F:Fun K "_law_word_by" "_law_word_by" C6 f fd) (T:Txt K mg Ai Aq Az A1 Au Av Ao Ay A6 Ac As Ap A0 A5 At Ar) :FnOk P w K mg base CX0 1 f fd ["_law_cell","_law_family","_law_letters"] (E8 K):=by
 refine F.ok Pm (fun vs H Q E h=>?_) (fun Cf A outer s H vs Q E hr h=>?_)
 . obtain⟨c,fam,letters,rfl,hl0,hl1,hf,k⟩:=h
   rfl
 . obtain⟨c,fam,letters,rfl,hl0,hl1,hf,k⟩:=h
   refine⟨_,(Af (A3 (i:=0) Bn (by rfl) (by first | exact Or.inl rfl | exact Or.inr rfl) (Bh Cs (pv 0) Am))
    (Af (A3 (i:=3) Bn (by rfl) (by first | exact Or.inl rfl | exact Or.inr rfl) (Bh Cs (pv 0) Am))
    (Af (A3 (i:=4) Bn (by rfl) (by first | exact Or.inl rfl | exact Or.inr rfl) (pv 2))
    (Af (C2 (Bb Hi (pv 1) Am (Bp _)) (An (A3 (i:=3) Bn (by rfl) (by first | exact Or.inl rfl | exact Or.inr rfl) (Bh Ee (pv 3) Am))) Bk)
    (Af (C2 (PW.pt (Tp (Bb Vu (pv 1) Am (Bp _)) (Nm (Bb Zl (pv 3) Am (Bp _))))) (An (A3 (i:=3) Bn (by rfl) (by first | exact Or.inl rfl | exact Or.inr rfl) Am)) Bk)
    (Af (C2 (Bb Vv (pv 1) Am (Bp _)) (An (A3 (i:=4) Bn (by rfl) (by first | exact Or.inl rfl | exact Or.inr rfl) (pv 1))) Bk)
    (Af (A3 (i:=0) Bn (by rfl) (by first | exact Or.inl rfl | exact Or.inr rfl) (Bh D7 (pv 0) Am))
    (Af (A3 (i:=5) Bn (by rfl) (by first | exact Or.inl rfl | exact Or.inr rfl) (B6 Ae))
    (Af (Ed PassesOwn.never rfl (Dx (by rfl) T.n_range (Aa (pv 3) Ae)) (Ba (i:=6) Bn (by rfl) (by first | exact Or.inl rfl | exact Or.inr rfl)) (Af (A3 (i:=5) Bn (by rfl) (by first | exact Or.inl rfl | exact Or.inr rfl) (Bh (J7 (K:=K)) (pv 5) (B6 (Aa (Bh Cs (pv 0) (pv 4)) Ae))))
    (An (A3 (i:=0) Bn (by rfl) (by first | exact Or.inl rfl | exact Or.inr rfl) (Bh D7 (pv 0) (pv 4))))))
    (An (Bj (pv 5)))))))))))),?_⟩
   have m1:0<=c%1000000%4:=Int.emod_nonneg _ (by decide)
   have m2:c%1000000%4<4:=Int.emod_lt_of_pos _ (by decide)
   refine⟨_,rfl,_,_,rfl,rfl,(by show (0:Int)<1000000;decide),?_⟩
   refine⟨_,rfl,_,_,rfl,rfl,(by show (0:Int)<4;decide),?_⟩
   refine⟨_,rfl,?_⟩
   have fork:(fam=0)\/(fam<0/\c%1000000%4=1)\/(fam<0/\¬c%1000000%4=1)\/0<fam:=by omega
   have nofam:¬fam=0->¬(decide (V.int fam=V.int 0)=true):=fun z q=>z (by simpa using q)
   have isfam:fam=0->decide (V.int fam=V.int 0)=true:=fun z=>by simp [z]
   have hb0:0<letters:=hl0
   have hb1:letters<1073741824:=by omega
   rcases fork with hz|⟨hz,h1⟩|⟨hz,h1⟩ | hz
   . refine⟨_,rfl,rfl,_,rfl,?_⟩
     refine ifP (isfam hz) ?_
     refine⟨_,rfl,_,_,rfl,rfl,?_⟩
     refine⟨_,rfl,_,_,rfl,rfl,_,rfl,?_⟩
     refine ifN (by simp;omega) ?_
     refine ifN (by simp) ?_
     refine⟨_,rfl,_,_,rfl,rfl,_,rfl,?_⟩
     refine ifN (by simp;omega) ?_
     have hW:∀ w:List Int,w.length=(c%1000000%4+1).toNat->Word fam w:=fun w e=>.inl ⟨hz,by omega,by omega⟩
     refine⟨_,rfl,_,_,rfl,rfl,⟨by decide,by decide⟩,Nat.zero_le _,fun p0 hp0=>?_⟩
     refine⟨_,rfl,_,rfl,by omega,by omega,?_⟩
     refine Dz (lo:=0) (n:=(c%1000000%4+1:Int).toNat)
      (fun i σ H2=>∃ (c':Int) (v:V) (o:Option V) (w:List Int),σ=[some (.int c'),some (.int fam),some (.int letters),some (.int (c%1000000%4+1)),some (.int letters),some v,o]/\Same H H2/\TI K H2 v w/\w.length=i)
      ⟨_,_,none,[],rfl,Same.new hp0,TI.mk (.of Ad),rfl⟩ ?_ ?_
     . rintro i σ H2 hi ⟨c',v,o,w,rfl,s2,tv,hwl⟩
       obtain⟨a,rfl,hqa⟩:=tv.sq
       refine⟨_,rfl,_,rfl,_,rfl,_,_,rfl,rfl,hb0,A4 (by simp),fun pt hpt=>?_⟩
       have s3:Same H2 (upd H2 pt (.tup [.int (c'%letters)])):=Same.new hpt
       refine⟨a,pt,_,_,rfl,rfl,s3.seqT hqa,.of Ad,A4 (by simp;omega),fun p3 H3 s4 q3=>?_⟩
       refine⟨_,rfl,_,rfl,_,_,rfl,rfl,⟨hb0,hb1⟩,?_⟩
       refine⟨_,_,_,w++[c'%letters],rfl,(s2.trans s3).trans s4,TI.mk ?_,by simp [hwl]⟩
       rw [List.map_append]
       exact q3
     . rintro σ H2 ⟨c',v,o,w,rfl,s2,tv,hwl⟩
       exact ⟨_,rfl,k v H2 w s2 tv (hW w hwl)⟩
   . refine⟨_,rfl,rfl,_,rfl,?_⟩
     refine ifN (nofam (by omega)) ?_
     refine⟨_,rfl,_,_,rfl,rfl,_,rfl,?_⟩
     refine ifP (by simp;omega) ?_
     refine⟨_,rfl,rfl,_,rfl,?_⟩
     refine ifN (eqI h1) ?_
     refine⟨_,rfl,_,_,rfl,rfl,_,rfl,?_⟩
     refine ifN (by simp;omega) ?_
     have hW:∀ w:List Int,w.length=(c%1000000%4).toNat->Word fam w:=fun w e=>.inr (.inl ⟨hz,by omega⟩)
     refine⟨_,rfl,_,_,rfl,rfl,⟨by decide,by decide⟩,Nat.zero_le _,fun p0 hp0=>?_⟩
     refine⟨_,rfl,_,rfl,by omega,by omega,?_⟩
     refine Dz (lo:=0) (n:=(c%1000000%4:Int).toNat)
      (fun i σ H2=>∃ (c':Int) (v:V) (o:Option V) (w:List Int),σ=[some (.int c'),some (.int fam),some (.int letters),some (.int (c%1000000%4)),some (.int letters),some v,o]/\Same H H2/\TI K H2 v w/\w.length=i)
      ⟨_,_,none,[],rfl,Same.new hp0,TI.mk (.of Ad),rfl⟩ ?_ ?_
     . rintro i σ H2 hi ⟨c',v,o,w,rfl,s2,tv,hwl⟩
       obtain⟨a,rfl,hqa⟩:=tv.sq
       refine⟨_,rfl,_,rfl,_,rfl,_,_,rfl,rfl,hb0,A4 (by simp),fun pt hpt=>?_⟩
       have s3:Same H2 (upd H2 pt (.tup [.int (c'%letters)])):=Same.new hpt
       refine⟨a,pt,_,_,rfl,rfl,s3.seqT hqa,.of Ad,A4 (by simp;omega),fun p3 H3 s4 q3=>?_⟩
       refine⟨_,rfl,_,rfl,_,_,rfl,rfl,⟨hb0,hb1⟩,?_⟩
       refine⟨_,_,_,w++[c'%letters],rfl,(s2.trans s3).trans s4,TI.mk ?_,by simp [hwl]⟩
       rw [List.map_append]
       exact q3
     . rintro σ H2 ⟨c',v,o,w,rfl,s2,tv,hwl⟩
       exact ⟨_,rfl,k v H2 w s2 tv (hW w hwl)⟩
   . refine⟨_,rfl,rfl,_,rfl,?_⟩
     refine ifN (nofam (by omega)) ?_
     refine⟨_,rfl,_,_,rfl,rfl,_,rfl,?_⟩
     refine ifP (by simp;omega) ?_
     refine⟨_,rfl,rfl,_,rfl,?_⟩
     refine ifP (neI h1) ?_
     refine⟨_,rfl,_,_,rfl,rfl,_,rfl,?_⟩
     refine ifN (by simp;omega) ?_
     have hW:∀ w:List Int,w.length=(3:Int).toNat->Word fam w:=fun w e=>.inr (.inl ⟨hz,.inr (.inr e)⟩)
     refine⟨_,rfl,_,_,rfl,rfl,⟨by decide,by decide⟩,Nat.zero_le _,fun p0 hp0=>?_⟩
     refine⟨_,rfl,_,rfl,by omega,by omega,?_⟩
     refine Dz (lo:=0) (n:=(3:Int).toNat)
      (fun i σ H2=>∃ (c':Int) (v:V) (o:Option V) (w:List Int),σ=[some (.int c'),some (.int fam),some (.int letters),some (.int (3)),some (.int letters),some v,o]/\Same H H2/\TI K H2 v w/\w.length=i)
      ⟨_,_,none,[],rfl,Same.new hp0,TI.mk (.of Ad),rfl⟩ ?_ ?_
     . rintro i σ H2 hi ⟨c',v,o,w,rfl,s2,tv,hwl⟩
       obtain⟨a,rfl,hqa⟩:=tv.sq
       refine⟨_,rfl,_,rfl,_,rfl,_,_,rfl,rfl,hb0,A4 (by simp),fun pt hpt=>?_⟩
       have s3:Same H2 (upd H2 pt (.tup [.int (c'%letters)])):=Same.new hpt
       refine⟨a,pt,_,_,rfl,rfl,s3.seqT hqa,.of Ad,A4 (by simp;omega),fun p3 H3 s4 q3=>?_⟩
       refine⟨_,rfl,_,rfl,_,_,rfl,rfl,⟨hb0,hb1⟩,?_⟩
       refine⟨_,_,_,w++[c'%letters],rfl,(s2.trans s3).trans s4,TI.mk ?_,by simp [hwl]⟩
       rw [List.map_append]
       exact q3
     . rintro σ H2 ⟨c',v,o,w,rfl,s2,tv,hwl⟩
       exact ⟨_,rfl,k v H2 w s2 tv (hW w hwl)⟩
   . refine⟨_,rfl,rfl,_,rfl,?_⟩
     refine ifN (nofam (by omega)) ?_
     refine⟨_,rfl,_,_,rfl,rfl,_,rfl,?_⟩
     refine ifN (by simp;omega) ?_
     refine ifN (by simp) ?_
     refine⟨_,rfl,_,_,rfl,rfl,_,rfl,?_⟩
     refine ifP (by simp;omega) ?_
     refine⟨_,rfl,?_⟩
     have hW:∀ w:List Int,w.length=(c%1000000%4).toNat->Word fam w:=fun w e=>.inr (.inr ⟨hz,by omega⟩)
     have hb0:0<fam:=hz
     have hb1:fam<1073741824:=by omega
     refine⟨_,rfl,_,_,rfl,rfl,⟨by decide,by decide⟩,Nat.zero_le _,fun p0 hp0=>?_⟩
     refine⟨_,rfl,_,rfl,by omega,by omega,?_⟩
     refine Dz (lo:=0) (n:=(c%1000000%4:Int).toNat)
      (fun i σ H2=>∃ (c':Int) (v:V) (o:Option V) (w:List Int),σ=[some (.int c'),some (.int fam),some (.int letters),some (.int (c%1000000%4)),some (.int fam),some v,o]/\Same H H2/\TI K H2 v w/\w.length=i)
      ⟨_,_,none,[],rfl,Same.new hp0,TI.mk (.of Ad),rfl⟩ ?_ ?_
     . rintro i σ H2 hi ⟨c',v,o,w,rfl,s2,tv,hwl⟩
       obtain⟨a,rfl,hqa⟩:=tv.sq
       refine⟨_,rfl,_,rfl,_,rfl,_,_,rfl,rfl,hb0,A4 (by simp),fun pt hpt=>?_⟩
       have s3:Same H2 (upd H2 pt (.tup [.int (c'%fam)])):=Same.new hpt
       refine⟨a,pt,_,_,rfl,rfl,s3.seqT hqa,.of Ad,A4 (by simp;omega),fun p3 H3 s4 q3=>?_⟩
       refine⟨_,rfl,_,rfl,_,_,rfl,rfl,⟨hb0,hb1⟩,?_⟩
       refine⟨_,_,_,w++[c'%fam],rfl,(s2.trans s3).trans s4,TI.mk ?_,by simp [hwl]⟩
       rw [List.map_append]
       exact q3
     . rintro σ H2 ⟨c',v,o,w,rfl,s2,tv,hwl⟩
       exact ⟨_,rfl,k v H2 w s2 tv (hW w hwl)⟩
abbrev Cp:Stmt:=top 39
theorem Nj:FnScope ["_law_shape","_law_cells","_law_pairs","_law_cell","_law_one","_law_alike"] ["_law_shape","_law_cells"] (Ag Cp):=⟨rfl,rfl,rfl,by decide +kernel,rfl,by decide +kernel,by decide +kernel⟩
theorem Dl:(["_law_shape","_law_cells","_law_pairs","_law_cell","_law_one","_law_alike"]:List Str).Nodup:=by decide +kernel
theorem Nw {f:Addr}{fd:FuncData} (F:Fun K "_law_pairs_by" "_law_pairs_by" Cp f fd) (T:Txt K mg Ai Aq Az A1 Au Av Ao Ay A6 Ac As Ap A0 A5 At Ar) :FnOk P w K mg base CX0 1 f fd ["_law_shape","_law_cells"] (Em K):=by
 refine F.ok Nj (fun vs H Q E h=>?_) (fun Cf A outer s H vs Q E hr h=>?_)
 . obtain⟨a,c,ys,ns,rfl,hL,hS,hyl,hnl,k⟩:=h
   rfl
 . obtain⟨a,c,ys,ns,rfl,hL,hS,hyl,hnl,k⟩:=h
   refine⟨_,(Af (A3 (i:=2) Dl (by rfl) (by first | exact Or.inl rfl | exact Or.inr rfl) (Ch Ae))
    (Af (Ed PassesOwn.never rfl (Bx (K:=K) (pv 1)) (Ba (i:=3) Dl (by rfl) (by first | exact Or.inl rfl | exact Or.inr rfl)) (An (C2 (Bb Vv (Ak (Al (K:=K)) (by rfl) T.n_len PySem.boot_len (Aa (pv 0) Ae)) Am (Bp _)) (Af (A3 (i:=4) Dl (by rfl) (by first | exact Or.inl rfl | exact Or.inr rfl) (Bh Cs (pv 3) (Ak (Al (K:=K)) (by rfl) T.n_len PySem.boot_len (Aa (pv 0) Ae))))
    (Af (Nn (N':=["_law_spot","_law_shape","_law_one"]) (cap:=[none,some 0,some 4]) (i:=5) Dl (by rfl) (by first | exact Or.inl rfl | exact Or.inr rfl) (by rfl) (by kernel_rfl) (Dx (by rfl) T.n_range (Aa (Ak (Al (K:=K)) (by rfl) T.n_len PySem.boot_len (Aa (pv 0) Ae)) Ae)) (fun _ _ _ _=>(Ba (i:=0) l6 (by rfl) (by first | exact Or.inl rfl | exact Or.inr rfl))) (fun _ _ _ _=>(Sf (Bb Hi (Ak (Al (K:=K)) (by rfl) T.n_len PySem.boot_len (Aa (B4 (A8 (K:=K)) (pv 1) (pv 0) (fun _ _=>rfl)) Ae)) (Ak (Al (K:=K)) (by rfl) T.n_len PySem.boot_len (Aa (B4 (A8 (K:=K)) (pv 1) (pv 2) (fun _ _=>rfl)) Ae)) (Bp _)))) (fun _ _ _ _=>(pv 0)))
    (An (Gj (Kq (K:=K) PySem.F.plainAttrs_list PySem.F.slot_list_append PySem.F.type_list_append Dy (pv 2) (Aa (B6 (Aa (pv 4) (Aa (B4 (A8 (K:=K)) (pv 5) (Bh Cs (Bh D7 (pv 3) (Ak (Al (K:=K)) (by rfl) T.n_len PySem.boot_len (Aa (pv 0) Ae))) (Ak (Al (K:=K)) (by rfl) T.n_len PySem.boot_len (Aa (pv 5) Ae))) (fun _ _=>rfl)) Ae))) Ae)))))) Bk)))
    (An (Bj (pv 2))))),?_⟩
   obtain⟨xu,hxq,hxul⟩:=LT.len hL
   refine Ax (fun σ' H'=>∃ D,σ'=[some (.ref a),some (.ref c),some (.ref D),none,none,none]/\Same H H'/\H D=none/\H' D=some (.lst [])) ?_ fun key=>?_
   rotate_left
   . refine⟨A4 (by simp),fun D hD=>?_⟩
     exact key _ _ ⟨D,rfl,Same.new hD,hD,Ad⟩
   rintro _ H1 ⟨D,rfl,s1,hD,hD1⟩
   refine⟨_,rfl,c,rfl,⟨_,s1.seq hS⟩,?_⟩
   refine for_list (K:=K) (a:=c) (xs:=ns.map V.int) (fun m σ G=>∃ (us:List V) (ps:List (Int × Int)) (o3 o4 o5:Option V),σ=[some (.ref a),some (.ref c),some (.ref D),o3,o4,o5]/\Same H G/\G D=some (.lst us)/\Reps K G us ((ps.map pr).map tI)/\ps.length<=m/\O4 ys ps)
    ⟨[],[],_,_,_,rfl,s1,hD1,rfl,Nat.le_refl _,fun z hz=>by cases hz⟩ (fun m σ G _ ⟨_,_,_,_,_,_,g,_⟩=>g.seq hS) ?_ ?_
   . rintro m x σ G hx ⟨us,ps,o3,o4,o5,rfl,g,hDG,rU,hpl,hok⟩
     obtain⟨hm,rfl⟩:=Hn hx
     have hm':m<ns.length:=hm
     have usl:us.length=ps.length:=by have:=rU.length;simpa using this
     generalize ns[m]=cell
     refine⟨_,rfl,a,xu,rfl,.inl (g.seq hxq),_,_,rfl,rfl,_,rfl,?_⟩
     refine ite2 (fun h1=>?_) (fun h1=>⟨us,ps,_,_,_,rfl,g,hDG,rU,by omega,hok⟩)
     have hpos:(0:Int)<(ys.length:Int):=by rw [←hxul];simpa using h1
     refine Ax (fun σ' H'=>∃ one:Int,σ'=[some (.ref a),some (.ref c),some (.ref D),some (.int cell),some (.int one),o5]/\G=H'/\InR ys one) ?_ fun key=>?_
     rotate_left
     . refine⟨_,rfl,_,rfl,a,xu,rfl,.inl (g.seq hxq),_,_,rfl,rfl,(by rw [hxul];exact hpos),?_⟩
       refine key _ _ ⟨_,rfl,rfl,?_⟩
       rw [hxul]
       exact ⟨Int.emod_nonneg _ (by omega),Int.emod_lt_of_pos _ hpos⟩
     rintro _ _ ⟨one,rfl,rfl,h1r⟩
     refine Ax (fun σ' H'=>∃ (A:Addr) (ls:List Int),σ'=[some (.ref a),some (.ref c),some (.ref D),some (.int cell),some (.int one),some (.ref A)]/\Same G H'/\H' A=some (.lst (ls.map V.int))/\ls.length<=ys.length/\0<ls.length/\∀ l∈ls,InR ys l/\(fc ys l).length=(fc ys one).length) ?_ fun key=>?_
     rotate_left
     . refine⟨_,rfl,a,xu,rfl,.inl (g.seq hxq),_,rfl,by omega,by omega,fun E hE=>?_⟩
       rw [hxul]
       refine Jn (n:=ys.length) (fun i ws τ G2=>Same G G2/\G2 E=some (.lst ws)/\∃ ls:List Int,ws=ls.map V.int/\ls.length<=i/\i<=ys.length/\(one<(i:Int)->0<ls.length)/\(∀ l∈ls,InR ys l/\(fc ys l).length=(fc ys one).length)/\∃ o,τ=[o,some (.ref a),some (.int one)])
        ⟨Same.new hE,Ad,[],rfl,Nat.le_refl _,Nat.zero_le _,(fun z=>by have:=h1r.1;omega),(fun l hl=>by cases hl),none,rfl⟩ ?_ ?_
       . rintro i ws τ G2 hi ⟨g2,hEG,ls,rfl,hll,hil,hone,hls,o,rfl⟩
         rw [show (0:Int)+(i:Int)=(i:Int) by omega]
         have gg:=g.trans g2
         have ri:InR ys (i:Int):=⟨by omega,by omega⟩
         obtain⟨xq,vx,hxq2,hvx,tvx⟩:=LT.get hL ri.1 ri.2
         obtain⟨ax,rfl,sqx⟩:=TI.sq tvx
         obtain⟨xo,vo,hxo,hvo,tvo⟩:=LT.get hL h1r.1 h1r.2
         obtain⟨ao,rfl,sqo⟩:=TI.sq tvo
         have sqx':SqT K H ax ((fc ys (i:Int)).map V.int):=sqx
         have sqo':SqT K H ao ((fc ys one).map V.int):=sqo
         refine⟨_,rfl,_,rfl,a,xq,_,_,rfl,rfl,gg.seq hxq2,hvx,ax,_,rfl,.inr (gg.seqT sqx'),_,rfl,_,rfl,a,xo,_,_,rfl,rfl,gg.seq hxo,hvo,ao,_,rfl,.inr (gg.seqT sqo'),rfl,_,rfl,?_⟩
         rw [List.length_map,List.length_map]
         refine ite2 (fun h2=>?_) (fun h2=>?_)
         . have e2:(fc ys (i:Int)).length=(fc ys one).length:=by have:=of_decide_eq_true h2;injection this with this;simp only [List.length_map] at this;omega
           refine⟨_,rfl,hEG,small (by first | omega | (rw [List.length_map];omega)),g2.turn hE,Ad,ls++[(i:Int)],by rw [List.map_append];rfl,by simp;omega,by omega,fun _=>by simp,fun l hl=>?_,_,rfl⟩
           rcases List.mem_append.mp hl with w | w
           . exact hls l w
           . rw [List.mem_singleton.mp w];exact ⟨ri,e2⟩
         . refine⟨g2,hEG,ls,rfl,by omega,by omega,fun z=>?_,hls,_,rfl⟩
           by_cases e:one=(i:Int)
           . subst e
             exact absurd (by simp) h2
           . exact hone (by omega)
       . rintro ws τ G2 ⟨g2,hEG,ls,rfl,hll,hil,hone,hls,_⟩
         exact key _ _ ⟨E,ls,rfl,g2,hEG,hll,hone h1r.2,hls⟩
     rintro _ G2 ⟨A,ls,rfl,g2,hA,hll,hpos2,hls⟩
     have gg:=g.trans g2
     have ll:(ls.map V.int).length=ls.length:=List.length_map ..
     have q0:0<=cell / (xu.length:Int)%((ls.map V.int).length:Int):=Int.emod_nonneg _ (by omega)
     have q1:cell / (xu.length:Int)%((ls.map V.int).length:Int)<((ls.map V.int).length:Int):=Int.emod_lt_of_pos _ (by omega)
     have atq:atI (ls.map V.int) (cell / (xu.length:Int)%((ls.map V.int).length:Int))=some (.int (lb ls (cell / (xu.length:Int)%((ls.map V.int).length:Int)))):=W8 q0 (by omega)
     have hlq:=hls (lb ls (cell / (xu.length:Int)%((ls.map V.int).length:Int))) (Gs (by omega))
     refine⟨_,rfl,.inl ⟨rfl,_,.of (g2 _ _ hDG)⟩,_,rfl,_,rfl,_,rfl,_,rfl,a,xu,rfl,.inl (gg.seq hxq),_,_,rfl,rfl,⟨by omega,by omega⟩,_,rfl,A,_,rfl,.inl (.of hA),_,_,rfl,rfl,(by show (0:Int)<((ls.map V.int).length:Int);omega),A,_,_,_,rfl,rfl,.of hA,atq,A4 (by simp),fun T1 hT1=>?_⟩
     generalize lb ls (cell / (xu.length:Int)%((ls.map V.int).length:Int))=two at hlq hT1
     have g3:Same G2 (upd G2 T1 (.tup [.int one,.int two])):=Same.new hT1
     have tt:TI K (upd G2 T1 (.tup [.int one,.int two])) (.ref T1) (pr (one,two)):=TI.mk (.of Ad)
     generalize upd G2 T1 (.tup [.int one,.int two])=G3 at g3 tt
     refine⟨D,_,_,rfl,rfl,(g2.trans g3) _ _ hDG,small (by omega),?_⟩
     refine⟨us++[.ref T1],ps++[(one,two)],_,_,_,rfl,(gg.trans g3).turn hD,Ad,?_,by simp;omega,fun z hz=>?_⟩
     . rw [show (ps++[(one,two)]).map pr=ps.map pr++[pr (one,two)] by rw [List.map_append];rfl]
       exact D5 ((g2.trans g3) _ _ hDG) (Reps.same (g2.trans g3) rU) tt
     . rcases List.mem_append.mp hz with w | w
       . exact hok z w
       . rw [List.mem_singleton.mp w]
         exact ⟨h1r,hlq.1,hlq.2.symm⟩
   . rintro σ G ⟨us,ps,o3,o4,o5,rfl,g,hDG,rU,hpl,hok⟩
     rw [List.length_map] at hpl
     exact ⟨_,rfl,k D us ps G g hD hDG rU (by omega) hok⟩
abbrev B1:Stmt:=top 40
theorem Kf:FnScope ["_law_e","_law_marks"] ["_law_e"] (Ag B1):=⟨rfl,rfl,rfl,by decide +kernel,rfl,by decide +kernel,by decide +kernel⟩
theorem Cw:(["_law_e","_law_marks"]:List Str).Nodup:=by decide +kernel
theorem Kk {f:Addr}{fd:FuncData} (F:Fun K "_law_many_kinds" "_law_many_kinds" B1 f fd) (T:Txt K mg Ai Aq Az A1 Au Av Ao Ay A6 Ac As Ap A0 A5 At Ar) :b7 P w K mg base 1 f fd ["_law_e"] (Hf K Ac):=by
 refine F.okE Kf (fun xa vs H Q E h=>?_) (fun Cf A outer s H vs Q E xa hh hr h=>?_)
 . obtain⟨rfl,he,k⟩:=h
   rfl
 . obtain⟨rfl,he,k⟩:=h
   refine⟨_,(Af (A3 (i:=1) Cw (by rfl) (by first | exact Or.inl rfl | exact Or.inr rfl) (Ch (Aa (Ak (Bc (K:=K)) (by rfl) T.n_isinstance Aj (Aa (pv 0) (Aa (B7 (v:=.ref Aq) (by rfl) T.m_NoShape rfl) Ae))) (Aa (Ak (Bc (K:=K)) (by rfl) T.n_isinstance Aj (Aa (pv 0) (Aa (B7 (v:=.ref Az) (by rfl) T.m_NoText rfl) Ae))) (Aa (Ak (Bc (K:=K)) (by rfl) T.n_isinstance Aj (Aa (pv 0) (Aa (B7 (v:=.ref A1) (by rfl) T.m_NoName rfl) Ae))) (Aa (Ak (Bc (K:=K)) (by rfl) T.n_isinstance Aj (Aa (pv 0) (Aa (B7 (v:=.ref Au) (by rfl) T.m_NoLevel rfl) Ae))) Ae))))))
    (Af (A3 (i:=1) Cw (by rfl) (by first | exact Or.inl rfl | exact Or.inr rfl) (Bh (Df (K:=K)) (pv 1) (Ch (Aa (Ak (Bc (K:=K)) (by rfl) T.n_isinstance Aj (Aa (pv 0) (Aa (B7 (v:=.ref Av) (by rfl) T.m_NoChain rfl) Ae))) (Aa (Ak (Bc (K:=K)) (by rfl) T.n_isinstance Aj (Aa (pv 0) (Aa (B7 (v:=.ref Ao) (by rfl) T.m_NoTable rfl) Ae))) (Aa (Ak (Bc (K:=K)) (by rfl) T.n_isinstance Aj (Aa (pv 0) (Aa (B7 (v:=.ref Ay) (by rfl) T.m_NoTurn rfl) Ae))) (Aa (Ak (Bc (K:=K)) (by rfl) T.n_isinstance Aj (Aa (pv 0) (Aa (B7 (v:=.ref A6) (by rfl) T.m_NoMap rfl) Ae))) Ae)))))))
    (Af (A3 (i:=1) Cw (by rfl) (by first | exact Or.inl rfl | exact Or.inr rfl) (Bh (Df (K:=K)) (pv 1) (Ch (Aa (Ak (Bc (K:=K)) (by rfl) T.n_isinstance Aj (Aa (pv 0) (Aa (B7 (v:=.ref Ac) (by rfl) T.m_NoGlue rfl) Ae))) (Aa (Ak (Bc (K:=K)) (by rfl) T.n_isinstance Aj (Aa (pv 0) (Aa (B7 (v:=.ref As) (by rfl) T.m_NoPrime rfl) Ae))) (Aa (Ak (Bc (K:=K)) (by rfl) T.n_isinstance Aj (Aa (pv 0) (Aa (B7 (v:=.ref Ap) (by rfl) T.m_NoStage rfl) Ae))) (Aa (Ak (Bc (K:=K)) (by rfl) T.n_isinstance Aj (Aa (pv 0) (Aa (B7 (v:=.ref A0) (by rfl) T.m_NoPair rfl) Ae))) Ae)))))))
    (Af (A3 (i:=1) Cw (by rfl) (by first | exact Or.inl rfl | exact Or.inr rfl) (Bh (Df (K:=K)) (pv 1) (Ch (Aa (Ak (Bc (K:=K)) (by rfl) T.n_isinstance Aj (Aa (pv 0) (Aa (B7 (v:=.ref A5) (by rfl) T.m_NoRow rfl) Ae))) (Aa (Ak (Bc (K:=K)) (by rfl) T.n_isinstance Aj (Aa (pv 0) (Aa (B7 (v:=.ref At) (by rfl) T.m_NoPiece rfl) Ae))) (Aa (Ak (Bc (K:=K)) (by rfl) T.n_isinstance Aj (Aa (pv 0) (Aa (B7 (v:=.ref Ar) (by rfl) T.m_NoRound rfl) Ae))) Ae))))))
    (An (Bj (Ak (Ww (K:=K) (x:=xa) hh) (by rfl) T.n_sum W6 (Aa (Xu (N':=["_law_mark"]) (cap:=[none]) (hv:=some (.ref xa)) hh (by kernel_rfl) (Xs (K:=K) (x:=xa) (pv 1)) (fun _ _ _ _=>(Ba (i:=0) k9 (by rfl) (by first | exact Or.inl rfl | exact Or.inr rfl))) (fun _ _ _ _=>Cl) (fun _ _ _ _=>(B8 Wy (by rfl) T.n_int boot_intT (Aa (pv 0) Ae)))) Ae)))))))),?_⟩
   refine Ax (fun σ' H'=>∃ M:Addr,σ'=[some (.ref xa),some (.ref M)]/\Same H H'/\H' M=some (.lst [.bl false,.bl false,.bl false,.bl false])) ?_ fun key=>?_
   rotate_left
   . exact ⟨_,rfl,xa,Ac,_,_,_,rfl,rfl,Bs,he,T.x_NoGlue,T.i_NoGlue_NoShape,_,rfl,xa,Ac,_,_,_,rfl,rfl,Bs,he,T.x_NoGlue,T.i_NoGlue_NoText,_,rfl,xa,Ac,_,_,_,rfl,rfl,Bs,he,T.x_NoGlue,T.i_NoGlue_NoName,_,rfl,xa,Ac,_,_,_,rfl,rfl,Bs,he,T.x_NoGlue,T.i_NoGlue_NoLevel,A4 (by simp),fun M hM=>key _ _ ⟨M,rfl,Same.new hM,Ad⟩⟩
   rintro _ H1 ⟨M,rfl,s1,hM⟩
   refine Ax (fun σ' H'=>∃ M:Addr,σ'=[some (.ref xa),some (.ref M)]/\Same H H'/\H' M=some (.lst [.bl false,.bl false,.bl false,.bl false,.bl false,.bl false,.bl false,.bl false])) ?_ fun key=>?_
   rotate_left
   . refine⟨_,rfl,_,rfl,xa,Ac,_,_,_,rfl,rfl,Bs,(s1 _ _ he),T.x_NoGlue,T.i_NoGlue_NoChain,_,rfl,xa,Ac,_,_,_,rfl,rfl,Bs,(s1 _ _ he),T.x_NoGlue,T.i_NoGlue_NoTable,_,rfl,xa,Ac,_,_,_,rfl,rfl,Bs,(s1 _ _ he),T.x_NoGlue,T.i_NoGlue_NoTurn,_,rfl,xa,Ac,_,_,_,rfl,rfl,Bs,(s1 _ _ he),T.x_NoGlue,T.i_NoGlue_NoMap,A4 (by simp),fun N hN=>?_⟩
     have sG:Same H1 (upd H1 N (.lst [.bl false,.bl false,.bl false,.bl false])):=Same.new hN
     have eG:upd H1 N (.lst [.bl false,.bl false,.bl false,.bl false]) N=some (.lst [.bl false,.bl false,.bl false,.bl false]):=Ad
     generalize upd H1 N (.lst [.bl false,.bl false,.bl false,.bl false])=G1 at sG eG ⊢
     exact ⟨M,N,_,_,rfl,rfl,.of (sG _ _ hM),.of eG,A4 (by simp),fun M' hM'=>key _ _ ⟨M',rfl,(s1.trans sG).trans (Same.new hM'),Ad⟩⟩
   clear hM s1 M H1
   rintro _ H1 ⟨M,rfl,s1,hM⟩
   refine Ax (fun σ' H'=>∃ M:Addr,σ'=[some (.ref xa),some (.ref M)]/\Same H H'/\H' M=some (.lst [.bl false,.bl false,.bl false,.bl false,.bl false,.bl false,.bl false,.bl false,.bl true,.bl false,.bl false,.bl false])) ?_ fun key=>?_
   rotate_left
   . refine⟨_,rfl,_,rfl,xa,Ac,_,_,_,rfl,rfl,Bs,(s1 _ _ he),T.x_NoGlue,T.i_NoGlue_NoGlue,_,rfl,xa,Ac,_,_,_,rfl,rfl,Bs,(s1 _ _ he),T.x_NoGlue,T.i_NoGlue_NoPrime,_,rfl,xa,Ac,_,_,_,rfl,rfl,Bs,(s1 _ _ he),T.x_NoGlue,T.i_NoGlue_NoStage,_,rfl,xa,Ac,_,_,_,rfl,rfl,Bs,(s1 _ _ he),T.x_NoGlue,T.i_NoGlue_NoPair,A4 (by simp),fun N hN=>?_⟩
     have sG:Same H1 (upd H1 N (.lst [.bl true,.bl false,.bl false,.bl false])):=Same.new hN
     have eG:upd H1 N (.lst [.bl true,.bl false,.bl false,.bl false]) N=some (.lst [.bl true,.bl false,.bl false,.bl false]):=Ad
     generalize upd H1 N (.lst [.bl true,.bl false,.bl false,.bl false])=G1 at sG eG ⊢
     exact ⟨M,N,_,_,rfl,rfl,.of (sG _ _ hM),.of eG,A4 (by simp),fun M' hM'=>key _ _ ⟨M',rfl,(s1.trans sG).trans (Same.new hM'),Ad⟩⟩
   clear hM s1 M H1
   rintro _ H1 ⟨M,rfl,s1,hM⟩
   refine Ax (fun σ' H'=>∃ M:Addr,σ'=[some (.ref xa),some (.ref M)]/\Same H H'/\H' M=some (.lst [.bl false,.bl false,.bl false,.bl false,.bl false,.bl false,.bl false,.bl false,.bl true,.bl false,.bl false,.bl false,.bl false,.bl false,.bl false])) ?_ fun key=>?_
   rotate_left
   . refine⟨_,rfl,_,rfl,xa,Ac,_,_,_,rfl,rfl,Bs,(s1 _ _ he),T.x_NoGlue,T.i_NoGlue_NoRow,_,rfl,xa,Ac,_,_,_,rfl,rfl,Bs,(s1 _ _ he),T.x_NoGlue,T.i_NoGlue_NoPiece,_,rfl,xa,Ac,_,_,_,rfl,rfl,Bs,(s1 _ _ he),T.x_NoGlue,T.i_NoGlue_NoRound,A4 (by simp),fun N hN=>?_⟩
     have sG:Same H1 (upd H1 N (.lst [.bl false,.bl false,.bl false])):=Same.new hN
     have eG:upd H1 N (.lst [.bl false,.bl false,.bl false]) N=some (.lst [.bl false,.bl false,.bl false]):=Ad
     generalize upd H1 N (.lst [.bl false,.bl false,.bl false])=G1 at sG eG ⊢
     exact ⟨M,N,_,_,rfl,rfl,.of (sG _ _ hM),.of eG,A4 (by simp),fun M' hM'=>key _ _ ⟨M',rfl,(s1.trans sG).trans (Same.new hM'),Ad⟩⟩
   clear hM s1 M H1
   rintro _ H1 ⟨M,rfl,s1,hM⟩
   have he1:=s1 _ _ he
   refine⟨_,rfl,M,rfl,⟨_,.of hM⟩,fun D hD=>?_⟩
   have hMs:SqL K H1 M (([false,false,false,false,false,false,false,false,true,false,false,false,false,false,false]:List Bool).map V.bl):=.of hM
   refine⟨fun i m zs τ G=>m=15-i/\i<=15/\Same H1 G/\G D=some (.lst zs)/\zs=((([false,false,false,false,false,false,false,false,true,false,false,false,false,false,false]:List Bool).take i).map fun b=>if b=true then (1:Int) else 0).map V.int/\∃ o,τ=[o],⟨15,rfl,by decide,Same.new hD,Ad,rfl,none,rfl⟩,?_⟩
   rintro i m zs τ G ⟨rfl,hi,g,hDG,rfl,o,rfl⟩
   by_cases hlt:i<15
   . have hx:(([false,false,false,false,false,false,false,false,true,false,false,false,false,false,false]:List Bool).map V.bl)[i]?=some (.bl (([false,false,false,false,false,false,false,false,true,false,false,false,false,false,false]:List Bool)[i])):=by rw [List.getElem?_map,List.getElem?_eq_getElem hlt];rfl
     refine .inr ⟨⟨_,_,g.seq hMs,hx⟩,fun ys' τ' H'=>i+1<=15/\Same H1 H'/\H' D=some (.lst ys')/\ys'=((([false,false,false,false,false,false,false,false,true,false,false,false,false,false,false]:List Bool).take (i+1)).map fun b=>if b=true then (1:Int) else 0).map V.int/\∃ o,τ'=[o],fun ys' τ' H' p=>⟨15-(i+1),by omega,rfl,p⟩,?_⟩
     rintro x H' ⟨rfl,y⟩
     have y:=y _ (g.seq hMs)
     rw [hx] at y
     cases y
     refine⟨_,rfl,.inr ⟨_,rfl,?_⟩⟩
     refine⟨hDG,small (by simp;omega),hlt,g.turn hD,Ad,?_,_,rfl⟩
     rw [List.take_add_one,List.getElem?_eq_getElem hlt,List.map_append,List.map_append]
     rfl
   . have e:i=15:=by omega
     subst e
     refine .inl ⟨⟨⟨_,g.seq hMs,by simp⟩,Ac,none,g _ _ he1⟩,?_⟩
     refine⟨D,_,rfl,.of hDG,⟨Ac,none,g _ _ he1⟩,?_⟩
     exact k _ (s1.trans g)
abbrev Cq:Stmt:=top 43
theorem Nk:FnScope ["_law_shape","_law_cell","_law_many"] ["_law_shape","_law_cell"] (Ag Cq):=⟨rfl,rfl,rfl,by decide +kernel,rfl,by decide +kernel,by decide +kernel⟩
theorem N9:(["_law_shape","_law_cell","_law_many"]:List Str).Nodup:=by decide +kernel
theorem Nx {f:Addr}{fd:FuncData} (F:Fun K "_law_no_place" "_law_no_place" Cq f fd) (T:Txt K mg Ai Aq Az A1 Au Av Ao Ay A6 Ac As Ap A0 A5 At Ar) :FnOk P w K mg base CX0 1 f fd ["_law_shape","_law_cell"] (Ek K):=by
 refine F.ok Nk (fun vs H Q E h=>?_) (fun Cf A outer s H vs Q E hr h=>?_)
 . obtain⟨a,ys,c,rfl,hL,hyl,k⟩:=h
   rfl
 . obtain⟨a,ys,c,rfl,hL,hyl,k⟩:=h
   refine⟨_,(Af (A3 (i:=2) N9 (by rfl) (by first | exact Or.inl rfl | exact Or.inr rfl) (Ak (Al (K:=K)) (by rfl) T.n_len PySem.boot_len (Aa (pv 0) Ae)))
    (An (Bj (B4 (A8 (K:=K)) (Ch (Aa (pv 2) (Aa (Bh Ee (pv 2) Am) (Aa (Vn O8 Am) (Aa (Bh Px (Vn O8 Am) (pv 2)) (Aa J5 (Aa Mo (Aa Vo (Aa (Ch (Aa Am Ae)) (Aa (B6 (Aa Am Ae)) Ae)))))))))) (Bh Cs (pv 1) Am) (fun _ _=>rfl))))),?_⟩
   obtain⟨xu,hxq,hxul⟩:=LT.len hL
   refine Ax (fun σ' H'=>σ'=[some (.ref a),some (.int c),some (.int (xu.length:Int))]/\H=H') ?_ fun key=>?_
   rotate_left
   . exact ⟨_,rfl,a,xu,rfl,.inl hxq,key _ _ ⟨rfl,rfl⟩⟩
   rintro _ _ ⟨rfl,rfl⟩
   refine⟨_,rfl,_,rfl,_,_,rfl,rfl,_,rfl,_,rfl,_,rfl,_,_,rfl,rfl,A4 (by simp),fun b1 h1=>?_⟩
   have t1:Same H (upd H b1 (.lst [.int 0])):=Same.new h1
   have g1:upd H b1 (.lst [.int 0]) b1=some (.lst [.int 0]):=Ad
   generalize upd H b1 (.lst [.int 0])=G1 at t1 g1 ⊢
   refine⟨A4 (by simp),fun b2 h2=>?_⟩
   have t2:Same G1 (upd G1 b2 (.tup [.int 0])):=Same.new h2
   have g2:upd G1 b2 (.tup [.int 0]) b2=some (.tup [.int 0]):=Ad
   generalize upd G1 b2 (.tup [.int 0])=G2 at t2 g2 ⊢
   refine⟨A4 (by simp),fun b9 h9=>?_⟩
   have t9:Same G2 (upd G2 b9 (.lst [.int (xu.length:Int),.int ((xu.length:Int)+7),.int (-1),.int (-1-(xu.length:Int)),.bl true,.non,.str "0",.ref b1,.ref b2])):=Same.new h9
   have g9:upd G2 b9 (.lst [.int (xu.length:Int),.int ((xu.length:Int)+7),.int (-1),.int (-1-(xu.length:Int)),.bl true,.non,.str "0",.ref b1,.ref b2]) b9=some (.lst [.int (xu.length:Int),.int ((xu.length:Int)+7),.int (-1),.int (-1-(xu.length:Int)),.bl true,.non,.str "0",.ref b1,.ref b2]):=Ad
   generalize upd G2 b9 (.lst [.int (xu.length:Int),.int ((xu.length:Int)+7),.int (-1),.int (-1-(xu.length:Int)),.bl true,.non,.str "0",.ref b1,.ref b2])=G9 at t9 g9 ⊢
   have s:=(t1.trans t2).trans t9
   have g1':=t9 _ _ (t2 _ _ g1)
   have g2':=t9 _ _ g2
   have m0:=Int.emod_nonneg c (b:=9) (by decide)
   have m1:=Int.emod_lt_of_pos c (b:=9) (by decide)
   obtain⟨kk,ek⟩:=Int.eq_ofNat_of_zero_le m0
   refine⟨_,rfl,_,_,rfl,rfl,(by decide:(0:Int)<9),?_⟩
   have hk:kk<9:=by omega
   have nb:∀ i:Int,i<0\/(ys.length:Int)<=i->Ca (.int i) (ys.length:Int)=false:=fun i h=>by
    show (decide (0<=i)&&decide (i<(ys.length:Int)))=false
    rcases h with h | h
    . rw [decide_eq_false (by omega)];rfl
    . rw [decide_eq_false (p:=i<(ys.length:Int)) (by omega),Bool.and_false]
   match kk,hk,ek with
   | 0,_,ek=>exact ⟨b9,_,_,.int (xu.length:Int),rfl,rfl,.of g9,by show atI _ (c%9)=_;rw [ek];exact Bg (j:=0) rfl,k _ (.int (xu.length:Int)) _ s rfl (nb _ (by omega)) rfl (by simp [dep,deps])⟩
   | 1,_,ek=>exact ⟨b9,_,_,.int ((xu.length:Int)+7),rfl,rfl,.of g9,by show atI _ (c%9)=_;rw [ek];exact Bg (j:=1) rfl,k _ (.int ((xu.length:Int)+7)) _ s rfl (nb _ (by omega)) rfl (by simp [dep,deps])⟩
   | 2,_,ek=>exact ⟨b9,_,_,.int (-1),rfl,rfl,.of g9,by show atI _ (c%9)=_;rw [ek];exact Bg (j:=2) rfl,k _ (.int (-1)) _ s rfl (nb _ (by omega)) rfl (by simp [dep,deps])⟩
   | 3,_,ek=>exact ⟨b9,_,_,.int (-1-(xu.length:Int)),rfl,rfl,.of g9,by show atI _ (c%9)=_;rw [ek];exact Bg (j:=3) rfl,k _ (.int (-1-(xu.length:Int))) _ s rfl (nb _ (by omega)) rfl (by simp [dep,deps])⟩
   | 4,_,ek=>exact ⟨b9,_,_,.bl true,rfl,rfl,.of g9,by show atI _ (c%9)=_;rw [ek];exact Bg (j:=4) rfl,k _ (.bl true) _ s rfl rfl rfl (by simp [dep,deps])⟩
   | 5,_,ek=>exact ⟨b9,_,_,.non,rfl,rfl,.of g9,by show atI _ (c%9)=_;rw [ek];exact Bg (j:=5) rfl,k _ (.non) _ s rfl rfl rfl (by simp [dep,deps])⟩
   | 6,_,ek=>exact ⟨b9,_,_,.str "0",rfl,rfl,.of g9,by show atI _ (c%9)=_;rw [ek];exact Bg (j:=6) rfl,k _ (.str "0") _ s rfl rfl rfl (by simp [dep,deps])⟩
   | 7,_,ek=>exact ⟨b9,_,_,.ref b1,rfl,rfl,.of g9,by show atI _ (c%9)=_;rw [ek];exact Bg (j:=7) rfl,k _ (.lst [.int 0]) _ s ⟨b1,_,rfl,.of g1',⟨_,_,rfl,rfl,rfl⟩⟩ rfl rfl (by simp [dep,deps])⟩
   | 8,_,ek=>exact ⟨b9,_,_,.ref b2,rfl,rfl,.of g9,by show atI _ (c%9)=_;rw [ek];exact Bg (j:=8) rfl,k _ (.tup [.int 0]) _ s ⟨b2,_,rfl,.of g2',⟨_,_,rfl,rfl,rfl⟩⟩ rfl rfl (by simp [dep,deps])⟩
abbrev Br:Stmt:=top 19
theorem Io:FnScope ["thing","bound"] ["thing","bound"] (Ag Br):=⟨rfl,rfl,rfl,by decide +kernel,rfl,by decide +kernel,by decide +kernel⟩
theorem Is {f:Addr}{fd:FuncData} (F:Fun K "is_whole_below" "is_whole_below" Br f fd) (T:Txt K mg Ai Aq Az A1 Au Av Ao Ay A6 Ac As Ap A0 A5 At Ar) (Je:Has P w K mg base "is_whole" ["thing"] 1 (Gg K)):FnOk P w K mg base CX0 2 f fd ["thing","bound"] (By K):=by
 refine F.ok Io (fun vs H Q E h=>?_) (fun Cf A outer s H vs Q E hr h=>?_)
 . obtain⟨x,d,b,rfl,hx,k⟩:=h
   rfl
 . obtain⟨x,d,b,rfl,hx,k⟩:=h
   refine⟨_,(An (Bj (Vr (A2 Je hr (by rfl) (Aa (pv 0) Ae)) (Vp (Xv j1 Vu Am (pv 0) (pv 1)))))),?_⟩
   refine⟨_,rfl,x,d,rfl,hx,_,rfl,?_⟩
   refine ite2 (fun e=>?_) (fun e=>?_)
   . obtain⟨i,rfl⟩:=Uc e
     cases (show x=.int i from hx)
     refine⟨_,rfl,_,_,rfl,rfl,_,rfl,?_⟩
     refine ite2 (fun e1=>?_) (fun e1=>?_)
     . refine⟨_,rfl,_,_,rfl,rfl,?_⟩
       have e2:Ca (.int i) b=decide (i<b):=by show (decide (0<=i)&&decide (i<b))=_;rw [e1];rfl
       rw [e2] at k
       exact k
     . have e2:Ca (.int i) b=false:=by show (decide (0<=i)&&decide (i<b))=_;simp at e1;simp;omega
       rw [e2] at k
       exact k
   . have e2:Ca d b=false:=by
      cases d<;>first | rfl | (exfalso;exact e rfl)
     rw [e2] at k
     exact k
abbrev C4:Stmt:=top 25
theorem Pi:FnScope ["shape","kept","spots"] ["shape","kept"] (Ag C4):=⟨rfl,rfl,rfl,by decide +kernel,rfl,by decide +kernel,by decide +kernel⟩
theorem Qg:(["shape","kept","spots"]:List Str).Nodup:=by decide +kernel
theorem Py {f:Addr}{fd:FuncData} (F:Fun K "left_with" "left_with" C4 f fd) (T:Txt K mg Ai Aq Az A1 Au Av Ao Ay A6 Ac As Ap A0 A5 At Ar) (Jd:Has P w K mg base "spots_of" ["things"] 1 (Gf K)) (Db:Has P w K mg base "called_by" ["spots","piece"] 1 (Fp K)):FnOk P w K mg base CX0 2 f fd ["shape","kept"] (Ez K):=by
 refine F.ok Pi (fun vs H Q E h=>?_) (fun Cf A outer s H vs Q E hr h=>?_)
 . obtain⟨a,b,ys,ls,rfl,hL,hS,hnd,hrg,hcl,hll,h4,k⟩:=h
   rfl
 . obtain⟨a,b,ys,ls,rfl,hL,hS,hnd,hrg,hcl,hll,h4,k⟩:=h
   refine⟨_,(Af (A3 (i:=2) Qg (by rfl) (by first | exact Or.inl rfl | exact Or.inr rfl) (A2 Jd hr (by rfl) (Aa (pv 1) Ae)))
    (An (Bj (C9 (N':=["old","spots","shape"]) (cap:=[none,some 2,some 0]) (by rfl) (by kernel_rfl) (Bx (K:=K) (pv 1)) (fun _ _ _ _=>(Ba (i:=0) z8 (by rfl) (by first | exact Or.inl rfl | exact Or.inr rfl))) (fun _ _ _ _=>Cl) (fun _ _ _ _=>(A2 Db hr (by rfl) (Aa (pv 1) (Aa (B4 (A8 (K:=K)) (pv 2) (pv 0) (fun _ _=>rfl)) Ae)))))))),?_⟩
   refine Ax (fun σ' H'=>∃ S:Addr,σ'=[some (.ref a),some (.ref b),some (.ref S)]/\Same H H'/\H' S=some (.dK (cK (zipK ls)))) ?_ fun key=>?_
   rotate_left
   . refine⟨_,rfl,b,ls,rfl,hS,hnd,hll,fun S H' hS' s' hS1=>?_⟩
     exact key _ _ ⟨S,rfl,s',hS1⟩
   rintro _ H1 ⟨S,rfl,s1,hSd⟩
   refine⟨_,rfl,b,rfl,⟨_,s1.seq hS⟩,fun D hD=>?_⟩
   refine B2 (K:=K) (a:=b) (xs:=ls.map V.int) (fun i us τ G=>Same H1 G/\G D=some (.lst us)/\Reps K G us (((ls.take i).map fun l=>(ys.getD l.toNat []).map (ren ls)).map tI)/\∃ o,τ=[o,some (.ref S),some (.ref a)])
    ⟨Same.new hD,Ad,rfl,none,rfl⟩ (fun i us τ G _ ⟨g,_⟩=>(s1.trans g).seq hS) ?_ ?_
   . rintro i x us τ G hx ⟨g,hDG,rG,o,rfl⟩
     have hi:i<ls.length:=by have:=(List.getElem?_eq_some_iff.mp hx).1;simpa using this
     have hxv:x=.int ls[i]:=by
      rw [List.getElem?_map,List.getElem?_eq_getElem hi] at hx
      simpa using hx.symm
     subst hxv
     have hlm:=List.getElem_mem hi
     obtain⟨l0,l1⟩:=hrg _ hlm
     have hc:=hcl _ hlm
     have e5:(ls.take (i+1)).map (fun l=>(ys.getD l.toNat []).map (ren ls))=(ls.take i).map (fun l=>(ys.getD l.toNat []).map (ren ls))++[(ys.getD ls[i].toNat []).map (ren ls)]:=by
      rw [List.take_succ,List.getElem?_eq_getElem hi,List.map_append]
      rfl
     generalize ls[i]=l at l0 l1 hc e5
     obtain⟨yu,vy,hyq,hvy,tvy⟩:=LT.get (Rep.same (s1.trans g) hL) l0 l1
     have hl4:(ys.getD l.toNat []).length<=4:=h4 _ (Gs (by omega))
     have usl:us.length<=1000:=by have:=rG.length;rw [List.length_map,List.length_map,List.length_take] at this;omega
     refine⟨_,rfl,_,rfl,_,rfl,a,yu,_,vy,rfl,rfl,hyq,hvy,S,vy,rfl,.inl ⟨S,vy,zipK ls,ys.getD l.toNat [],ren ls,rfl,g _ _ hSd,tvy,by omega,fun f hf=>U3 hnd (hc f hf),fun w G2 g2 tw=>?_⟩⟩
     refine⟨g2 _ _ hDG,small (by omega),(g.trans g2).turn hD,Ad,?_,_,rfl⟩
     rw [e5]
     exact D5 (g2 _ _ hDG) (Reps.same g2 rG) tw
   . rintro us τ G ⟨g,hDG,rG,_⟩
     rw [List.length_map,List.take_length] at rG
     exact k D us G (s1.free hD) (s1.trans g) hDG rG
abbrev Bt:Stmt:=top 37
theorem Ke:FnScope ["_law_words","_law_word","_law_family","_law_layer","_law_rows","_law_k","_law_below","_law_one","_law_face","_law_more"] ["_law_words","_law_word","_law_family"] (Ag Bt):=⟨rfl,rfl,rfl,by decide +kernel,rfl,by decide +kernel,by decide +kernel⟩
theorem Bd:(["_law_words","_law_word","_law_family","_law_layer","_law_rows","_law_k","_law_below","_law_one","_law_face","_law_more"]:List Str).Nodup:=by decide +kernel
theorem Kj {f:Addr}{fd:FuncData} (F:Fun K "_law_words_with" "_law_words_with" Bt f fd) (T:Txt K mg Ai Aq Az A1 Au Av Ao Ay A6 Ac As Ap A0 A5 At Ar) (Cu:Has P w K mg base "_law_faces_by" ["_law_word","_law_family"] 1 (Dk K)):FnOk P w K mg base CX0 2 f fd ["_law_words","_law_word","_law_family"] (Dv K):=by
 refine F.ok Ke (fun vs H Q E h=>?_) (fun Cf A outer s H vs Q E hr h=>?_)
 . obtain⟨l,us,v,ws,w,fam,rfl,hl,hr0,hv,hw,hlen,k⟩:=h
   rfl
 . obtain⟨l,us,v,ws,w,fam,rfl,hl,hr0,hv,hw,hlen,k⟩:=h
   have hu8:(A.deeper (PyProof.Rows.envOfC "_law_words_with" (Ag Bt) s.heap.objs.size f Cf)).units+8<cLine:=by have:=hr.units;omega
   refine⟨_,(Af (A3 (i:=3) Bd (by rfl) (by first | exact Or.inl rfl | exact Or.inr rfl) (Ch (Aa (pv 1) Ae)))
    (Af (A3 (i:=4) Bd (by rfl) (by first | exact Or.inl rfl | exact Or.inr rfl) (Ch Ae))
    (Af (Ed PassesOwn.never rfl (Dx (by rfl) T.n_range (Aa Am Ae)) (Ba (i:=5) Bd (by rfl) (by first | exact Or.inl rfl | exact Or.inr rfl)) (Af (A3 (i:=4) Bd (by rfl) (by first | exact Or.inl rfl | exact Or.inr rfl) (Bh (Df (K:=K)) (pv 3) (pv 4)))
    (Af (A3 (i:=6) Bd (by rfl) (by first | exact Or.inl rfl | exact Or.inr rfl) (Ch Ae))
    (Af (Ed PassesOwn.never rfl (Bx (K:=K) (pv 3)) (Ba (i:=7) Bd (by rfl) (by first | exact Or.inl rfl | exact Or.inr rfl)) (An (Ed PassesOwn.never rfl (Bx (K:=K) (A2 Cu hr (by rfl) (Aa (pv 7) (Aa (pv 2) Ae)))) (Ba (i:=8) Bd (by rfl) (by first | exact Or.inl rfl | exact Or.inr rfl)) (An (C2 (PW.pt (Tp (Bb (Iz (K:=K) hu8) (pv 8) (pv 0) rfl) (Nm (Bb (Iz (K:=K) hu8) (pv 8) (pv 6) rfl)))) (An (Gj (Kq (K:=K) PySem.F.plainAttrs_list PySem.F.slot_list_append PySem.F.type_list_append Dy (pv 6) (Aa (pv 8) Ae)))) Bk)))))
    (An (A3 (i:=3) Bd (by rfl) (by first | exact Or.inl rfl | exact Or.inr rfl) (pv 6)))))))
    (Af (A3 (i:=9) Bd (by rfl) (by first | exact Or.inl rfl | exact Or.inr rfl) (B8 (Cd (K:=K)) (by rfl) T.n_list Dc (Aa (pv 0) Ae)))
    (Af (Ed PassesOwn.never rfl (Bx (K:=K) (pv 4)) (Ba (i:=7) Bd (by rfl) (by first | exact Or.inl rfl | exact Or.inr rfl)) (An (C2 (Bb (Iz (K:=K) hu8) (pv 7) (pv 9) rfl) (An (Gj (Kq (K:=K) PySem.F.plainAttrs_list PySem.F.slot_list_append PySem.F.type_list_append Dy (pv 9) (Aa (pv 7) Ae)))) Bk)))
    (An (Bj (pv 9)))))))),?_⟩
   have s0w:∀ u∈[w],Word fam u:=fun u hu=>by
    have e:u=w:=by simpa using hu
    subst e
    exact hw
   refine⟨_,rfl,A4 (by simp),fun L0 hL0=>?_⟩
   have s1:Same H (upd H L0 (.lst [v])):=Same.new hL0
   refine⟨Nat.zero_le _,fun R0 hR0=>?_⟩
   have s2:Same (upd H L0 (.lst [v])) (upd (upd H L0 (.lst [v])) R0 (.lst [])):=Same.new hR0
   refine⟨_,rfl,by decide,by decide,Dz (lo:=0) (n:=(4:Int).toNat)
    (fun i σ H2=>∃ (L R:Addr) (lu ru:List V) (layer rows:List (List Int)) (o5 o6 o7 o8 o9:Option V),σ=[some (.ref l),some v,some (.int fam),some (.ref L),some (.ref R),o5,o6,o7,o8,o9]/\Same H H2 ∧
      H2 L=some (.lst lu)/\Reps K H2 lu (layer.map tI)/\H2 R=some (.lst ru)/\Reps K H2 ru (rows.map tI)/\(∀ u∈layer,Word fam u)/\Hm ws fam (4-i) layer rows=Hm ws fam 4 [w] []/\layer.length<=4 ^ i/\rows.length<=1000*i)
    ⟨L0,R0,[v],[],[w],[],none,none,none,none,none,rfl,s1.trans s2,s2 _ _ Ad,Reps.one (TI.same (s1.trans s2) hv),Ad,rfl,s0w,rfl,by simp,by simp⟩ ?_ ?_⟩
   . rintro i σ H2 hi ⟨L,R,lu,ru,layer,rows,o5,o6,o7,o8,o9,rfl,sH,hL,rL,hR,rR,hWl,hlay,hll,hrl⟩
     have hi4:i<4:=by simpa using hi
     have h4i:4 ^ i<=64:=by
      have:i=0\/i=1\/i=2\/i=3:=by omega
      rcases this with rfl | rfl | rfl | rfl<;>decide
     have lul:lu.length=layer.length:=by have:=rL.length;simpa using this
     have rul:ru.length=rows.length:=by have:=rR.length;simpa using this
     refine⟨_,rfl,_,rfl,L,R,_,_,rfl,rfl,.of hL,.of hR,A4 (by omega),fun R1 hR1=>?_⟩
     have sa:Same H2 (upd H2 R1 (.lst (lu++ru))):=Same.new hR1
     have hR1a:(upd H2 R1 (.lst (lu++ru))) R1=some (.lst (lu++ru)):=Ad
     have rRa:Reps K (upd H2 R1 (.lst (lu++ru))) (lu++ru) ((layer++rows).map tI):=by
      rw [List.map_append]
      exact (Reps.same sa rL).append (Reps.same sa rR)
     have hLa:=sa _ _ hL
     have rLa:Reps K (upd H2 R1 (.lst (lu++ru))) lu (layer.map tI):=Reps.same sa rL
     have sHa:Same H (upd H2 R1 (.lst (lu++ru))):=sH.trans sa
     refine⟨Nat.zero_le _,fun B hB=>?_⟩
     have sb:Same (upd H2 R1 (.lst (lu++ru))) (upd (upd H2 R1 (.lst (lu++ru))) B (.lst [])):=Same.new hB
     have hBH:H B=none:=sHa.free hB
     refine⟨_,rfl,L,rfl,⟨_,.of (sb _ _ hLa)⟩,for_list (K:=K) (a:=L) (xs:=lu)
      (fun j σ H3=>∃ (bu:List V) (o7 o8:Option V),σ=[some (.ref l),some v,some (.int fam),some (.ref L),some (.ref R1),some (.int (0+i)),some (.ref B),o7,o8,o9]/\Same (upd H2 R1 (.lst (lu++ru))) H3/\H3 B=some (.lst bu) ∧
        Reps K H3 bu ((Dd ws fam [] (layer.take j)).map tI))
      ⟨[],_,_,rfl,sb,Ad,rfl⟩ (fun j σ H3 _ ⟨_,_,_,_,s3,_⟩=>.of (s3 _ _ hLa)) ?_ ?_⟩
     . rintro j x σ H3 hx ⟨bu,o7,o8,rfl,s3,hB3,rB⟩
       have hj:j<lu.length:=(List.getElem?_eq_some_iff.mp hx).1
       have hjl:j<layer.length:=by omega
       have hjx:(layer.map tI)[j]?=some (tI layer[j]):=by rw [List.getElem?_map,List.getElem?_eq_getElem hjl];rfl
       obtain⟨x',hx',tx⟩:=rLa.get hjx
       rw [hx] at hx'
       cases hx'
       have hwj:Word fam layer[j]:=hWl _ (List.getElem_mem _)
       refine⟨_,rfl,_,rfl,x,layer[j],fam,rfl,TI.same s3 tx,hwj,fun p fu H4 hp s4 hp4 r4=>?_⟩
       have fl:=Eg hwj
       have ful:fu.length=(Ah layer[j] fam).length:=by have:=r4.length;simpa using this
       have hpB:p≠B:=fun z=>by rw [z,hB3] at hp;cases hp
       have hB4:=s4 _ _ hB3
       refine⟨p,rfl,⟨_,.of hp4⟩,for_list (K:=K) (a:=p) (xs:=fu)
        (fun m σ H5=>∃ (bu:List V) (o8:Option V),σ=[some (.ref l),some v,some (.int fam),some (.ref L),some (.ref R1),some (.int (0+i)),some (.ref B),some x,o8,o9]/\Lg B H4 H5/\H5 B=some (.lst bu) ∧
          Reps K H5 bu ((Bz ws (Dd ws fam [] (layer.take j)) ((Ah layer[j] fam).take m)).map tI)/\(Bz ws (Dd ws fam [] (layer.take j)) ((Ah layer[j] fam).take m)).length<=1000)
        ⟨bu,_,rfl,Lg.refl _ _,hB4,(by simpa [Bz] using Reps.same s4 rB),?_⟩ (fun m σ H5 _ ⟨_,_,_,s5,_⟩=>.of (s5 _ _ hpB hp4)) ?_ ?_⟩
       . have:=Fo (ws:=ws) (fam:=fam) (layer.take j) [] (fun u hu=>hWl u (List.mem_of_mem_take hu))
         simp only [List.take_zero,Bz,List.length_nil,List.length_take] at this ⊢
         omega
       . rintro m y σ H5 hy ⟨bu5,o8',rfl,s5,hB5,rB5,hbl5⟩
         have hm:m<fu.length:=(List.getElem?_eq_some_iff.mp hy).1
         have hmf:m<(Ah layer[j] fam).length:=by omega
         have hmy:((Ah layer[j] fam).map tI)[m]?=some (tI (Ah layer[j] fam)[m]):=by rw [List.getElem?_map,List.getElem?_eq_getElem hmf];rfl
         obtain⟨y',hy',ty⟩:=r4.get hmy
         rw [hy] at hy'
         cases hy'
         generalize hf:(Ah layer[j] fam)[m]=fc at ty
         have ty5:TI K H5 y fc:=TI.t (s5.t hB4) ty
         have hl5:H5 l=some (.lst us):=by
          refine s5 l _ (fun z=>?_) (s4 _ _ (s3 _ _ (sHa _ _ hl)))
          rw [z] at hl
          rw [hl] at hBH
          cases hBH
         have rl5:Rep K H5 (.ref l) (.lst (ws.map tI)):=⟨l,us,rfl,.of hl5,Reps.t (s5.t hB4) (Oi ws) (Reps.same ((sHa.trans s3).trans s4) hr0)⟩
         have rb5:Rep K H5 (.ref B) (.lst ((Bz ws (Dd ws fam [] (layer.take j)) ((Ah layer[j] fam).take m)).map tI)):=⟨B,bu5,rfl,.of hB5,rB5⟩
         have e0:Bz ws (Dd ws fam [] (layer.take j)) ((Ah layer[j] fam).take (m+1))=(if fc ∉ ws/\fc ∉ Bz ws (Dd ws fam [] (layer.take j)) ((Ah layer[j] fam).take m) then Bz ws (Dd ws fam [] (layer.take j)) ((Ah layer[j] fam).take m)++[fc] else Bz ws (Dd ws fam [] (layer.take j)) ((Ah layer[j] fam).take m)):=by
          rw [List.take_succ,List.getElem?_eq_getElem hmf,hf]
          exact Le _ _ _ _
         have hbu5:bu5.length=(Bz ws (Dd ws fam [] (layer.take j)) ((Ah layer[j] fam).take m)).length:=by have:=rB5.length;simpa using this
         have hlen6:(Bz ws (Dd ws fam [] (layer.take j)) ((Ah layer[j] fam).take (m+1))).length<=1000:=by
          have h1:=Jr (ws:=ws) ((Ah layer[j] fam).take (m+1)) (Dd ws fam [] (layer.take j))
          have h2:=Fo (ws:=ws) (fam:=fam) (layer.take j) [] (fun u hu=>hWl u (List.mem_of_mem_take hu))
          simp only [List.length_nil,List.length_take] at h1 h2
          have h3:(Ah layer[j] fam).length<=4:=by have:=fl.1;have:=fl.2;split at*<;> omega
          omega
         generalize hacc:Bz ws (Dd ws fam [] (layer.take j)) ((Ah layer[j] fam).take m)=acc at rB5 rb5 e0 hbu5 hbl5
         refine⟨_,rfl,_,rfl,tI fc,ws.map tI,ty5,.inl rl5,(by have:=Hs ws;omega),_,rfl,?_⟩
         by_cases h1:fc∈ws
         . refine ifN (by rw [if_pos rfl,Lb];simp [h1]) ?_
           refine ifN (by simp) ?_
           refine⟨bu5,_,rfl,s5,hB5,?_,hlen6⟩
           rw [e0,if_neg (by simp [h1])]
           exact rB5
         . refine ifP (by rw [if_pos rfl,Lb];simp [h1]) ?_
           refine⟨_,rfl,_,rfl,tI fc,acc.map tI,ty5,.inl rb5,(by have:=Hs acc;omega),_,rfl,?_⟩
           by_cases h2:fc∈acc
           . refine ifN (by rw [if_pos rfl,Lb];simp [h2]) ?_
             refine⟨bu5,_,rfl,s5,hB5,?_,hlen6⟩
             rw [e0,if_neg (by simp [h2])]
             exact rB5
           . refine ifP (by rw [if_pos rfl,Lb];simp [h2]) ?_
             refine⟨_,rfl,.inl ⟨rfl,_,.of hB5⟩,_,rfl,B,_,_,rfl,rfl,hB5,small (by omega),?_⟩
             refine⟨_,_,rfl,s5.upd,Ad,?_,hlen6⟩
             rw [e0,if_pos ⟨h1,h2⟩]
             exact D5 hB5 rB5 ty5
       . rintro σ H5 ⟨bu5,o8',rfl,s5,hB5,rB5,_⟩
         refine⟨bu5,_,_,rfl,?_,hB5,?_⟩
         . exact s5.same (s3.trans s4) hB
         . rw [ful,List.take_length] at rB5
           rw [List.take_succ,List.getElem?_eq_getElem hjl]
           have e1:Dd ws fam [] (layer.take j++(some layer[j]).toList)=Bz ws (Dd ws fam [] (layer.take j)) (Ah layer[j] fam):=Mv _ _ _ _ _
           rw [e1]
           exact rB5
     . rintro σ H3 ⟨bu,o7,o8,rfl,s3,hB3,rB⟩
       rw [lul,List.take_length] at rB
       refine⟨_,rfl,?_⟩
       refine⟨B,R1,bu,lu++ru,Dd ws fam [] layer,layer++rows,_,_,_,_,_,rfl,sHa.trans s3,hB3,rB,s3 _ _ hR1a,Reps.same s3 rRa,?_,?_,?_,?_⟩
       . intro u hu
         rcases Ib _ _ hu with z|⟨t,ht,z⟩
         . exact nomatch z
         . exact (Ft (hWl t ht) z).1
       . rw [←hlay,show 4-i=(4-(i+1))+1 by omega]
         rfl
       . have:=Fo (ws:=ws) (fam:=fam) layer [] hWl
         simp only [List.length_nil] at this
         rw [Nat.pow_succ]
         omega
       . rw [List.length_append]
         omega
   . rintro σ H2 ⟨L,R,lu,ru,layer,rows,o5,o6,o7,o8,o9,rfl,sH,hL,rL,hR,rR,hWl,hlay,hll,hrl⟩
     have hrows:rows=Hm ws fam 4 [w] []:=hlay
     have hrl2:=Up (ws:=ws) hw
     rw [←hrows] at hrl2
     have rul:ru.length=rows.length:=by have:=rR.length;simpa using this
     refine⟨_,rfl,l,_,rfl,.inl (.of (sH _ _ hl)),fun M hM=>?_⟩
     have sm:Same H2 (upd H2 M (.lst us)):=Same.new hM
     have hMH:H M=none:=sH.free hM
     have usl:us.length=ws.length:=by have:=hr0.length;simpa using this
     refine⟨_,rfl,R,rfl,⟨_,.of (sm _ _ hR)⟩,for_list (K:=K) (a:=R) (xs:=ru)
      (fun j σ H3=>∃ (mu:List V) (o7:Option V),σ=[some (.ref l),some v,some (.int fam),some (.ref L),some (.ref R),o5,o6,o7,o8,some (.ref M)]/\Same H2 H3/\H3 M=some (.lst mu)/\Reps K H3 mu ((Cz ws (rows.take j)).map tI))
      ⟨us,_,rfl,sm,Ad,(by simpa [Cz] using Reps.same (sH.trans sm) hr0)⟩ (fun j σ H3 _ ⟨_,_,_,s3,_⟩=>.of (s3 _ _ hR)) ?_ ?_⟩
     . rintro j x σ H3 hx ⟨mu,o7',rfl,s3,hM3,rM⟩
       have hj:j<ru.length:=(List.getElem?_eq_some_iff.mp hx).1
       have hjl:j<rows.length:=by omega
       have hjx:(rows.map tI)[j]?=some (tI rows[j]):=by rw [List.getElem?_map,List.getElem?_eq_getElem hjl];rfl
       obtain⟨x',hx',tx⟩:=rR.get hjx
       rw [hx] at hx'
       cases hx'
       generalize hf:rows[j]=fc at tx
       have tx3:TI K H3 x fc:=TI.same s3 tx
       have e0:Cz ws (rows.take (j+1))=(if fc∈Cz ws (rows.take j) then Cz ws (rows.take j) else Cz ws (rows.take j)++[fc]):=by
        rw [List.take_succ,List.getElem?_eq_getElem hjl,hf]
        exact Lf _ _ _
       have hal:=M0 (rows.take j) ws
       rw [List.length_take] at hal
       have mul:mu.length=(Cz ws (rows.take j)).length:=by have:=rM.length;simpa using this
       generalize hacc:Cz ws (rows.take j)=acc at rM e0 hal mul
       have rm3:Rep K H3 (.ref M) (.lst (acc.map tI)):=⟨M,mu,rfl,.of hM3,rM⟩
       refine⟨_,rfl,_,rfl,tI fc,acc.map tI,tx3,.inl rm3,(by have:=Hs acc;omega),_,rfl,?_⟩
       by_cases h1:fc∈acc
       . refine ifN (by rw [if_pos rfl,Lb];simp [h1]) ?_
         refine⟨mu,_,rfl,s3,hM3,?_⟩
         rw [e0,if_pos h1]
         exact rM
       . refine ifP (by rw [if_pos rfl,Lb];simp [h1]) ?_
         refine⟨_,rfl,.inl ⟨rfl,_,.of hM3⟩,_,rfl,M,_,_,rfl,rfl,hM3,small (by omega),?_⟩
         refine⟨_,_,rfl,s3.turn hM,Ad,?_⟩
         rw [e0,if_neg h1]
         exact D5 hM3 rM tx3
     . rintro σ H3 ⟨mu,o7',rfl,s3,hM3,rM⟩
       rw [rul,List.take_length,hrows] at rM
       exact ⟨_,rfl,k M mu H3 hMH (sH.trans s3) hM3 rM⟩
abbrev C7:Stmt:=top 44
theorem Pn:FnScope ["_law_shape","_law_cell","_law_bad","_law_at","_law_unlike"] ["_law_shape","_law_cell"] (Ag C7):=⟨rfl,rfl,rfl,by decide +kernel,rfl,by decide +kernel,by decide +kernel⟩
theorem D4:(["_law_shape","_law_cell","_law_bad","_law_at","_law_unlike"]:List Str).Nodup:=by decide +kernel
theorem P2 {f:Addr}{fd:FuncData} (F:Fun K "_law_no_pair" "_law_no_pair" C7 f fd) (T:Txt K mg Ai Aq Az A1 Au Av Ao Ay A6 Ac As Ap A0 A5 At Ar) (Ct:Has P w K mg base "_law_no_place" ["_law_shape","_law_cell"] 1 (Ek K)):FnOk P w K mg base CX0 2 f fd ["_law_shape","_law_cell"] (Ii K):=by
 refine F.ok Pn (fun vs H Q E h=>?_) (fun Cf A outer s H vs Q E hr h=>?_)
 . obtain⟨a,ys,c,rfl,hL,ok,k⟩:=h
   rfl
 . obtain⟨a,ys,c,rfl,hL,ok,k⟩:=h
   refine⟨_,(Af (A3 (i:=2) D4 (by rfl) (by first | exact Or.inl rfl | exact Or.inr rfl) (A2 Ct hr (by rfl) (Aa (pv 0) (Aa (Bh D7 (pv 1) Am) Ae))))
    (Af (A3 (i:=3) D4 (by rfl) (by first | exact Or.inl rfl | exact Or.inr rfl) Am)
    (Af (C2 (Bb Vv (Ak (Al (K:=K)) (by rfl) T.n_len PySem.boot_len (Aa (pv 0) Ae)) Am (Bp _)) (An (A3 (i:=3) D4 (by rfl) (by first | exact Or.inl rfl | exact Or.inr rfl) (Bh Cs (Bh D7 (pv 1) Am) (Ak (Al (K:=K)) (by rfl) T.n_len PySem.boot_len (Aa (pv 0) Ae))))) Bk)
    (Af (Nn (N':=["_law_spot","_law_shape","_law_at"]) (cap:=[none,some 0,some 3]) (i:=4) D4 (by rfl) (by first | exact Or.inl rfl | exact Or.inr rfl) (by rfl) (by kernel_rfl) (Dx (by rfl) T.n_range (Aa (Ak (Al (K:=K)) (by rfl) T.n_len PySem.boot_len (Aa (pv 0) Ae)) Ae)) (fun _ _ _ _=>(Ba (i:=0) k6 (by rfl) (by first | exact Or.inl rfl | exact Or.inr rfl))) (fun _ _ _ _=>(Sf (Bb Zl (Ak (Al (K:=K)) (by rfl) T.n_len PySem.boot_len (Aa (B4 (A8 (K:=K)) (pv 1) (pv 0) (fun _ _=>rfl)) Ae)) (Ak (Al (K:=K)) (by rfl) T.n_len PySem.boot_len (Aa (B4 (A8 (K:=K)) (pv 1) (pv 2) (fun _ _=>rfl)) Ae)) (Bp _)))) (fun _ _ _ _=>(pv 0)))
    (Af (C2 (PW.pt (Tp (Bb Hi (Bh Cs (pv 1) Am) Am (Bp _)) (Nm (Bb Vv (Ak (Al (K:=K)) (by rfl) T.n_len PySem.boot_len (Aa (pv 4) Ae)) Am (Bp _))))) (An (Bj (B6 (Aa (pv 3) (Aa (B4 (A8 (K:=K)) (pv 4) (Bh Cs (Bh D7 (pv 1) Am) (Ak (Al (K:=K)) (by rfl) T.n_len PySem.boot_len (Aa (pv 4) Ae))) (fun _ _=>rfl)) Ae))))) Bk)
    (Af (C2 (PW.pt (Tp (Bb Hi (Bh Cs (pv 1) Am) Am (Bp _)) (Nm (Bb Vv (Ak (Al (K:=K)) (by rfl) T.n_len PySem.boot_len (Aa (pv 4) Ae)) Am (Bp _))))) (An (Bj (B6 (Aa (B4 (A8 (K:=K)) (pv 4) (Bh Cs (Bh D7 (pv 1) Am) (Ak (Al (K:=K)) (by rfl) T.n_len PySem.boot_len (Aa (pv 4) Ae))) (fun _ _=>rfl)) (Aa (pv 3) Ae))))) Bk)
    (An (Bj (B4 (A8 (K:=K)) (Ch (Aa (B6 (Aa (pv 3) (Aa (pv 2) Ae))) (Aa (B6 (Aa (pv 2) (Aa (pv 3) Ae))) (Aa (B6 (Aa (pv 3) (Aa (pv 3) (Aa (pv 3) Ae)))) (Aa (B6 (Aa (pv 3) Ae)) (Aa (Ch (Aa (pv 3) (Aa (pv 3) Ae))) (Aa (pv 2) (Aa Mo (Aa (B6 (Aa (pv 2) (Aa (pv 2) Ae))) Ae))))))))) (Bh Cs (pv 1) Am) (fun _ _=>rfl)))))))))),?_⟩
   obtain⟨xu,hxq,hxul⟩:=LT.len hL
   have hle40:=ok.le
   refine Ax (fun σ' H'=>∃ (vb:V) (db:L2.D),σ'=[some (.ref a),some (.int c),some vb,none,none]/\Same H H'/\Rep K H' vb db/\Ca db (ys.length:Int)=false/\gluD ys db=false/\dep db<=2) ?_ fun key=>?_
   rotate_left
   . exact ⟨_,rfl,_,rfl,_,_,rfl,rfl,⟨by decide,by decide⟩,a,ys,_,rfl,hL,ok.le,fun v d H' s r hb hg hd=>key _ _ ⟨v,d,rfl,s,r,hb,hg,hd⟩⟩
   rintro _ H1 ⟨vb,db,rfl,s1,rb,hb,f3,hdep⟩
   refine Ka (fun σ' H'=>σ'=[some (.ref a),some (.int c),some vb,some (.int 0),none]/\H1=H') ?_ fun key0=>key0 _ _ ⟨rfl,rfl⟩
   rintro _ _ ⟨rfl,rfl⟩
   refine Ax (fun σ' H'=>∃ p:Nat,σ'=[some (.ref a),some (.int c),some vb,some (.int (p:Int)),none]/\H1=H'/\(p<ys.length\/ys.length=0/\p=0)) ?_ fun key=>?_
   rotate_left
   . refine⟨_,rfl,a,xu,rfl,.inl (s1.seq hxq),_,_,rfl,rfl,_,rfl,?_⟩
     by_cases h0:ys.length=0
     . refine ifN (by intro z;have z:=of_decide_eq_true z;omega) ?_
       exact key _ _ ⟨0,rfl,rfl,.inr ⟨h0,rfl⟩⟩
     refine ifP (by apply decide_eq_true;omega) ?_
     refine⟨_,rfl,_,_,rfl,rfl,⟨by decide,by decide⟩,_,rfl,a,xu,rfl,.inl (s1.seq hxq),_,_,rfl,rfl,(by show (0:Int)<(xu.length:Int);omega),?_⟩
     have m0:=Int.emod_nonneg (c / 72) (b:=(xu.length:Int)) (by omega)
     have m1:=Int.emod_lt_of_pos (c / 72) (b:=(xu.length:Int)) (by omega)
     exact key _ _ ⟨(c / 72%(xu.length:Int)).toNat,by rw [Int.toNat_of_nonneg m0];rfl,rfl,.inl (by omega)⟩
   rintro _ _ ⟨p,rfl,rfl,hp⟩
   have bad:∀ (i:Int) (dx:L2.D),Ca dx (ys.length:Int)=false->De ys dx (levI (lenX ys (.int i)))=false:=fun i dx h=>by
    cases dx with
    | int j =>
      have h:(decide (0<=j)&&decide (j<(ys.length:Int)))=false:=h
      show (decide (0<=j)&&decide (j<(ys.length:Int))&&decide _)=false
      rw [h]
      rfl
    | _=>rfl
   refine Ax (fun σ' H'=>∃ (U:Addr) (gs:List Nat),σ'=[some (.ref a),some (.int c),some vb,some (.int (p:Int)),some (.ref U)]/\Same H1 H'/\H' U=some (.lst (gs.map fun (g:Nat)=>V.int (g:Int)))/\∀ g∈gs,g<ys.length/\p<ys.length/\(fc ys (g:Int)).length≠(fc ys (p:Int)).length) ?_ fun key=>?_
   rotate_left
   . refine⟨_,rfl,a,xu,rfl,.inl (s1.seq hxq),_,rfl,by omega,by omega,fun D hD=>?_⟩
     refine Jn (lo:=0) (n:=((xu.length:Nat):Int).toNat) (fun i zs τ G=>Same H1 G/\i<=xu.length/\∃ gs:List Nat,G D=some (.lst zs)/\zs=gs.map (fun (g:Nat)=>V.int (g:Int))/\gs.length<=i/\(∀ g∈gs,g<ys.length/\p<ys.length/\(fc ys (g:Int)).length≠(fc ys (p:Int)).length)/\∃ o,τ=[o,some (.ref a),some (.int (p:Int))])
      ⟨Same.new hD,Nat.zero_le _,[],Ad,rfl,Nat.le_refl _,(fun g hg=>by cases hg),none,rfl⟩ ?_ ?_
     . rintro i zs τ G hi ⟨g,hle,gs,hDG,rfl,hgl,hgs,o,rfl⟩
       have hil:i<ys.length:=by omega
       have hpl:p<ys.length:=by
        rcases hp with h|⟨h,_⟩
        . exact h
        . omega
       have e0:(0:Int)+(i:Int)=(i:Int):=by omega
       rw [e0]
       obtain⟨xq,vx,hxq2,hvx,tvx⟩:=LT.get hL (show (0:Int)<=(i:Int) by omega) (by omega)
       obtain⟨xq',vy,hxq3,hvy,tvy⟩:=LT.get hL (show (0:Int)<=(p:Int) by omega) (by omega)
       obtain⟨ax,rfl,sqx⟩:=TI.sq tvx
       obtain⟨ay,rfl,sqy⟩:=TI.sq tvy
       have sg:=s1.trans g
       refine⟨_,rfl,_,rfl,a,xq,_,_,rfl,rfl,sg.seq hxq2,hvx,ax,_,rfl,.inr (sg.seqT sqx),_,rfl,_,rfl,a,xq',_,_,rfl,rfl,sg.seq hxq3,hvy,ay,_,rfl,.inr (sg.seqT sqy),rfl,_,rfl,?_⟩
       have l1:(((fc ys (i:Int)).map V.int).length:Int)=((fc ys (i:Int)).length:Int):=by rw [List.length_map]
       have l2:(((fc ys (p:Int)).map V.int).length:Int)=((fc ys (p:Int)).length:Int):=by rw [List.length_map]
       refine ite2 (fun h1=>?_) (fun h1=>?_)
       . have ne:(fc ys (i:Int)).length≠(fc ys (p:Int)).length:=fun z=>by
          have h1:(!decide (V.int (((fc ys (i:Int)).map V.int).length:Int)=V.int (((fc ys (p:Int)).map V.int).length:Int)))=true:=h1
          rw [l1,l2,z] at h1
          simp at h1
         refine⟨_,rfl,hDG,small (by rw [List.length_map];omega),g.turn hD,by omega,gs++[i],Ad,by rw [List.map_append];rfl,by rw [List.length_append];simp;omega,fun x hx=>?_,_,rfl⟩
         rcases List.mem_append.mp hx with z | z
         . exact hgs x z
         . rw [List.mem_singleton.mp z];exact ⟨hil,hpl,ne⟩
       . exact ⟨g,by omega,gs,hDG,rfl,by omega,hgs,_,rfl⟩
     . rintro zs τ G ⟨g,_,gs,hDG,rfl,_,hgs,_⟩
       exact key _ _ ⟨D,gs,rfl,g,hDG,hgs⟩
   rintro _ H2 ⟨U,gs,rfl,s2,hU,hgs⟩
   have s12:=s1.trans s2
   have hUq:SqL K H2 U (gs.map fun (g:Nat)=>V.int (g:Int)):=.of hU
   have pick:0<gs.length->∃ g,g∈gs/\atI (gs.map fun (g:Nat)=>V.int (g:Int)) (c / 8%(((gs.map fun (g:Nat)=>V.int (g:Int))).length:Int))=some (.int (g:Int)):=fun h0=>by
    have el:(((gs.map fun (g:Nat)=>V.int (g:Int))).length:Int)=(gs.length:Int):=by rw [List.length_map]
    rw [el]
    have m0:=Int.emod_nonneg (c / 8) (b:=(gs.length:Int)) (by omega)
    have m1:=Int.emod_lt_of_pos (c / 8) (b:=(gs.length:Int)) (by omega)
    have hj:(c / 8%(gs.length:Int)).toNat<gs.length:=by omega
    refine⟨gs[(c / 8%(gs.length:Int)).toNat],List.getElem_mem hj,?_⟩
    have e:=Int.toNat_of_nonneg m0
    have:=Bg (xs:=gs.map fun (g:Nat)=>V.int (g:Int)) (j:=(c / 8%(gs.length:Int)).toNat) (v:=.int ((gs[(c / 8%(gs.length:Int)).toNat]:Nat):Int)) (by rw [List.getElem?_map,List.getElem?_eq_getElem hj];rfl)
    rw [e] at this
    exact this
   have unl:∀ x y:Nat,(fc ys (x:Int)).length≠(fc ys (y:Int)).length->gluD ys (.tup [.int (x:Int),.int (y:Int)])=false:=fun x y hne=>by
    cases h:gluD ys (.tup [.int (x:Int),.int (y:Int)]) with
    | false=>rfl
    | true =>
      obtain⟨z,e,_,_,e2⟩:=T0 (cnt_ne1 ok.shp) h
      injection e with e
      injection e with e3 e
      injection e with e4 _
      injection e3 with e3
      injection e4 with e4
      rw [←e3,←e4] at e2
      exact absurd e2 hne
   refine Ax (fun σ' H'=>σ'=[some (.ref a),some (.int c),some vb,some (.int (p:Int)),some (.ref U)]/\H2=H') ?_ fun key=>?_
   rotate_left
   . refine⟨_,rfl,_,_,rfl,rfl,(by decide:(0:Int)<8),rfl,_,rfl,?_⟩
     refine ite2 (fun h1=>?_) (fun h1=>?_)
     rotate_left
     . exact ifN (by decide) (key _ _ ⟨rfl,rfl⟩)
     refine⟨_,rfl,U,_,rfl,.inl hUq,_,_,rfl,rfl,_,rfl,?_⟩
     by_cases hg0:0<gs.length
     . refine ifP (by apply decide_eq_true;rw [List.length_map];omega) ?_
       obtain⟨g,hgm,hat⟩:=pick hg0
       obtain⟨q1,q2,q3⟩:=hgs g hgm
       refine⟨_,rfl,_,rfl,_,rfl,_,_,rfl,rfl,⟨by decide,by decide⟩,_,rfl,U,_,rfl,.inl hUq,_,_,rfl,rfl,(by show (0:Int)<(((gs.map fun (g:Nat)=>V.int (g:Int))).length:Int);rw [List.length_map];omega),U,_,_,_,rfl,rfl,hUq,hat,A4 (by simp),fun t ht=>?_⟩
       exact k _ (.tup [.int (p:Int),.int (g:Int)]) _ (s12.trans (Same.new ht)) ⟨t,_,rfl,.of Ad,⟨_,_,rfl,rfl,⟨_,_,rfl,rfl,rfl⟩⟩⟩ (unl p g (fun z=>q3 z.symm)) (by simp [dep,deps])
     . exact ifN (by intro z;have z:=of_decide_eq_true z;rw [List.length_map] at z;omega) (key _ _ ⟨rfl,rfl⟩)
   rintro _ _ ⟨rfl,rfl⟩
   refine Ax (fun σ' H'=>σ'=[some (.ref a),some (.int c),some vb,some (.int (p:Int)),some (.ref U)]/\H2=H') ?_ fun key=>?_
   rotate_left
   . refine⟨_,rfl,_,_,rfl,rfl,(by decide:(0:Int)<8),rfl,_,rfl,?_⟩
     refine ite2 (fun h1=>?_) (fun h1=>?_)
     rotate_left
     . exact ifN (by decide) (key _ _ ⟨rfl,rfl⟩)
     refine⟨_,rfl,U,_,rfl,.inl hUq,_,_,rfl,rfl,_,rfl,?_⟩
     by_cases hg0:0<gs.length
     . refine ifP (by apply decide_eq_true;rw [List.length_map];omega) ?_
       obtain⟨g,hgm,hat⟩:=pick hg0
       obtain⟨q1,q2,q3⟩:=hgs g hgm
       refine⟨_,rfl,_,rfl,_,_,rfl,rfl,⟨by decide,by decide⟩,_,rfl,U,_,rfl,.inl hUq,_,_,rfl,rfl,(by show (0:Int)<(((gs.map fun (g:Nat)=>V.int (g:Int))).length:Int);rw [List.length_map];omega),U,_,_,_,rfl,rfl,hUq,hat,_,rfl,A4 (by simp),fun t ht=>?_⟩
       exact k _ (.tup [.int (g:Int),.int (p:Int)]) _ (s12.trans (Same.new ht)) ⟨t,_,rfl,.of Ad,⟨_,_,rfl,rfl,⟨_,_,rfl,rfl,rfl⟩⟩⟩ (unl g p q3) (by simp [dep,deps])
     . exact ifN (by intro z;have z:=of_decide_eq_true z;rw [List.length_map] at z;omega) (key _ _ ⟨rfl,rfl⟩)
   rintro _ _ ⟨rfl,rfl⟩
   have rb2:=Rep.same s2 rb
   refine⟨_,rfl,_,rfl,A4 (by simp),fun b1 h1=>?_⟩
   have t1:Same H2 (upd H2 b1 (.tup [.int (p:Int),vb])):=Same.new h1
   have g1:upd H2 b1 (.tup [.int (p:Int),vb]) b1=some (.tup [.int (p:Int),vb]):=Ad
   generalize upd H2 b1 (.tup [.int (p:Int),vb])=G1 at t1 g1 ⊢
   refine⟨_,rfl,_,rfl,A4 (by simp),fun b2 h2=>?_⟩
   have t2:Same G1 (upd G1 b2 (.tup [vb,.int (p:Int)])):=Same.new h2
   have g2:upd G1 b2 (.tup [vb,.int (p:Int)]) b2=some (.tup [vb,.int (p:Int)]):=Ad
   generalize upd G1 b2 (.tup [vb,.int (p:Int)])=G2 at t2 g2 ⊢
   refine⟨_,rfl,_,rfl,_,rfl,A4 (by simp),fun b3 h3=>?_⟩
   have t3:Same G2 (upd G2 b3 (.tup [.int (p:Int),.int (p:Int),.int (p:Int)])):=Same.new h3
   have g3:upd G2 b3 (.tup [.int (p:Int),.int (p:Int),.int (p:Int)]) b3=some (.tup [.int (p:Int),.int (p:Int),.int (p:Int)]):=Ad
   generalize upd G2 b3 (.tup [.int (p:Int),.int (p:Int),.int (p:Int)])=G3 at t3 g3 ⊢
   refine⟨_,rfl,A4 (by simp),fun b4 h4=>?_⟩
   have t4:Same G3 (upd G3 b4 (.tup [.int (p:Int)])):=Same.new h4
   have g4:upd G3 b4 (.tup [.int (p:Int)]) b4=some (.tup [.int (p:Int)]):=Ad
   generalize upd G3 b4 (.tup [.int (p:Int)])=G4 at t4 g4 ⊢
   refine⟨_,rfl,_,rfl,A4 (by simp),fun b5 h5=>?_⟩
   have t5:Same G4 (upd G4 b5 (.lst [.int (p:Int),.int (p:Int)])):=Same.new h5
   have g5:upd G4 b5 (.lst [.int (p:Int),.int (p:Int)]) b5=some (.lst [.int (p:Int),.int (p:Int)]):=Ad
   generalize upd G4 b5 (.lst [.int (p:Int),.int (p:Int)])=G5 at t5 g5 ⊢
   refine⟨_,rfl,_,rfl,_,rfl,A4 (by simp),fun b8 h8=>?_⟩
   have t8:Same G5 (upd G5 b8 (.tup [vb,vb])):=Same.new h8
   have g8:upd G5 b8 (.tup [vb,vb]) b8=some (.tup [vb,vb]):=Ad
   generalize upd G5 b8 (.tup [vb,vb])=G8 at t8 g8 ⊢
   refine⟨A4 (by simp),fun b9 h9=>?_⟩
   have t9:Same G8 (upd G8 b9 (.lst [.ref b1,.ref b2,.ref b3,.ref b4,.ref b5,vb,.non,.ref b8])):=Same.new h9
   have g9:upd G8 b9 (.lst [.ref b1,.ref b2,.ref b3,.ref b4,.ref b5,vb,.non,.ref b8]) b9=some (.lst [.ref b1,.ref b2,.ref b3,.ref b4,.ref b5,vb,.non,.ref b8]):=Ad
   generalize upd G8 b9 (.lst [.ref b1,.ref b2,.ref b3,.ref b4,.ref b5,vb,.non,.ref b8])=G9 at t9 g9 ⊢
   have u8:=t9
   have u5:=t8.trans u8
   have u4:=t5.trans u5
   have u3:=t4.trans u4
   have u2:=t3.trans u3
   have u1:=t2.trans u2
   have u0:=t1.trans u1
   have s:=s12.trans u0
   have rv:=Rep.same u0 rb2
   have ri:Rep K G9 (.int (p:Int)) (.int (p:Int)):=rfl
   have m0:=Int.emod_nonneg c (b:=8) (by decide)
   have m1:=Int.emod_lt_of_pos c (b:=8) (by decide)
   obtain⟨kk,ek⟩:=Int.eq_ofNat_of_zero_le m0
   refine⟨_,rfl,_,_,rfl,rfl,(by decide:(0:Int)<8),?_⟩
   have hk:kk<8:=by omega
   have two:∀ (b:Addr) (x y:V) (dx dy:L2.D),G9 b=some (.tup [x,y])->Rep K G9 x dx->Rep K G9 y dy->Rep K G9 (.ref b) (.tup [dx,dy]):=fun b x y dx dy h hx hy=>⟨b,_,rfl,.of h,⟨_,_,rfl,hx,⟨_,_,rfl,hy,rfl⟩⟩⟩
   have f1:∀ dy,gluD ys (.tup [db,dy])=false:=fun dy=>by
    show (Ca db (ys.length:Int)&&_)=false
    rw [hb]
    rfl
   have f2:gluD ys (.tup [.int (p:Int),db])=false:=by
    show (Ca (.int (p:Int)) (ys.length:Int)&&De ys db (levI (lenX ys (.int (p:Int)))))=false
    rw [bad _ _ hb,Bool.and_false]
   match kk,hk,ek with
   | 0,_,ek=>exact ⟨b9,_,_,.ref b1,rfl,rfl,.of g9,by show atI _ (c%8)=_;rw [ek];exact Bg (j:=0) rfl,k _ _ _ s (two b1 _ _ _ _ (u1 _ _ g1) ri rv) f2 (by simp [dep,deps];omega)⟩
   | 1,_,ek=>exact ⟨b9,_,_,.ref b2,rfl,rfl,.of g9,by show atI _ (c%8)=_;rw [ek];exact Bg (j:=1) rfl,k _ _ _ s (two b2 _ _ _ _ (u2 _ _ g2) rv ri) (f1 _) (by simp [dep,deps];omega)⟩
   | 2,_,ek=>exact ⟨b9,_,_,.ref b3,rfl,rfl,.of g9,by show atI _ (c%8)=_;rw [ek];exact Bg (j:=2) rfl,k _ (.tup [.int (p:Int),.int (p:Int),.int (p:Int)]) _ s ⟨b3,_,rfl,.of (u3 _ _ g3),⟨_,_,rfl,ri,⟨_,_,rfl,ri,⟨_,_,rfl,ri,rfl⟩⟩⟩⟩ rfl (by simp [dep,deps])⟩
   | 3,_,ek=>exact ⟨b9,_,_,.ref b4,rfl,rfl,.of g9,by show atI _ (c%8)=_;rw [ek];exact Bg (j:=3) rfl,k _ (.tup [.int (p:Int)]) _ s ⟨b4,_,rfl,.of (u4 _ _ g4),⟨_,_,rfl,ri,rfl⟩⟩ rfl (by simp [dep,deps])⟩
   | 4,_,ek=>exact ⟨b9,_,_,.ref b5,rfl,rfl,.of g9,by show atI _ (c%8)=_;rw [ek];exact Bg (j:=4) rfl,k _ (.lst [.int (p:Int),.int (p:Int)]) _ s ⟨b5,_,rfl,.of (u5 _ _ g5),⟨_,_,rfl,ri,⟨_,_,rfl,ri,rfl⟩⟩⟩ rfl (by simp [dep,deps])⟩
   | 5,_,ek=>exact ⟨b9,_,_,vb,rfl,rfl,.of g9,by show atI _ (c%8)=_;rw [ek];exact Bg (j:=5) rfl,k _ _ _ s rv f3 (by omega)⟩
   | 6,_,ek=>exact ⟨b9,_,_,.non,rfl,rfl,.of g9,by show atI _ (c%8)=_;rw [ek];exact Bg (j:=6) rfl,k _ .non _ s rfl rfl (by simp [dep,deps])⟩
   | 7,_,ek=>exact ⟨b9,_,_,.ref b8,rfl,rfl,.of g9,by show atI _ (c%8)=_;rw [ek];exact Bg (j:=7) rfl,k _ _ _ s (two b8 _ _ _ _ (u8 _ _ g8) rv rv) (f1 _) (by simp [dep,deps];omega)⟩
abbrev Bl:Stmt:=top 22
theorem Fw:FnScope ["shape","thing","level"] ["shape","thing","level"] (Ag Bl):=⟨rfl,rfl,rfl,by decide +kernel,rfl,by decide +kernel,by decide +kernel⟩
theorem Fy {f:Addr}{fd:FuncData} (F:Fun K "is_place_of_level" "is_place_of_level" Bl f fd) (T:Txt K mg Ai Aq Az A1 Au Av Ao Ay A6 Ac As Ap A0 A5 At Ar) (Bf:Has P w K mg base "is_whole_below" ["thing","bound"] 2 (By K)) (Du:Has P w K mg base "level_of" ["piece"] 1 (Ej K)):FnOk P w K mg base CX0 3 f fd ["shape","thing","level"] (Ce K):=by
 refine F.ok Fw (fun vs H Q E h=>?_) (fun Cf A outer s H vs Q E hr h=>?_)
 . obtain⟨a,x,d,l,xs,rfl,hL,hx,k⟩:=h
   rfl
 . obtain⟨a,x,d,l,xs,rfl,hL,hx,k⟩:=h
   refine⟨_,(An (Bj (Vr (A2 Bf hr (by rfl) (Aa (pv 1) (Aa (Ak (Al (K:=K)) (by rfl) T.n_len PySem.boot_len (Aa (pv 0) Ae)) Ae))) (Vp (Vq Hi (A2 Du hr (by rfl) (Aa (B4 (A8 (K:=K)) (pv 0) (pv 1) (fun _ _=>rfl)) Ae)) (pv 2) (Bp _)))))),?_⟩
   obtain⟨us,hq,hul⟩:=LT.len hL
   refine⟨_,rfl,_,rfl,a,us,rfl,.inl hq,x,d,_,rfl,hx,_,rfl,?_⟩
   rw [hul]
   refine ite2 (fun e=>?_) (fun e=>?_)
   . obtain⟨i,rfl⟩:∃ i,d=.int i:=by cases d<;>first | exact ⟨_,rfl⟩ | (exfalso;simp [Ca] at e)
     cases (show x=.int i from hx)
     have e':(decide (0<=i)&&decide (i<(xs.length:Int)))=true:=e
     have h0:0<=i/\i<(xs.length:Int):=by simpa using e'
     obtain⟨us',v,hq',hv,tv⟩:=LT.get hL h0.1 h0.2
     refine⟨_,rfl,_,rfl,a,us',i,v,rfl,rfl,hq',hv,v,_,rfl,.inr tv,_,rfl,rfl,?_⟩
     have e2:De xs (.int i) l=decide (levI (nums (xs.getD i.toNat [])).length=l):=by
      show (decide (0<=i)&&decide (i<(xs.length:Int))&&decide (levI (xs.getD i.toNat []).length=l))=_
      rw [e']
      simp [nums]
     rw [e2] at k
     have e3:decide (V.int (levI (nums (xs.getD i.toNat [])).length)=V.int l)=decide (levI (nums (xs.getD i.toNat [])).length=l):=by
      by_cases z:levI (nums (xs.getD i.toNat [])).length=l
      . simp [z]
      . simp [z]
     rw [e3]
     exact k
   . have e2:De xs d l=false:=by
      cases d with
      | int i =>
        have e':¬(decide (0<=i)&&decide (i<(xs.length:Int)))=true:=e
        show (decide (0<=i)&&decide (i<(xs.length:Int))&&decide (levI (xs.getD i.toNat []).length=l))=false
        rw [Bool.eq_false_iff.mpr e']
        rfl
      | _=>rfl
     rw [e2] at k
     exact k
abbrev Mm:Stmt:=top 28
theorem Zb:FnScope ["shape","places","kept"] ["shape","places"] (Ag Mm):=⟨rfl,rfl,rfl,by decide +kernel,rfl,by decide +kernel,by decide +kernel⟩
theorem Zs:(["shape","places","kept"]:List Str).Nodup:=by decide +kernel
theorem Zo {f:Addr}{fd:FuncData} (F:Fun K "part" "part" Mm f fd) (T:Txt K mg Ai Aq Az A1 Au Av Ao Ay A6 Ac As Ap A0 A5 At Ar) (Dg:Has P w K mg base "with_all_faces" ["shape","places"] 1 (C3 K)) (Gn:Has P w K mg base "left_with" ["shape","kept"] 2 (Ez K)) (Bf:Has P w K mg base "is_whole_below" ["thing","bound"] 2 (By K)):FnOk P w K mg base (CX1 P w) 3 f fd ["shape","places"] (Na K Ac):=by
 refine F.okX Zb (fun vs H Q E h=>?_) (fun Cf A outer s H vs Q E hr h=>?_)
 . obtain⟨a,b,ys,ds,rfl,hL,hB,ok,hdl,k1,k2⟩:=h
   rfl
 . obtain⟨a,b,ys,ds,rfl,hL,hB,ok,hdl,k1,k2⟩:=h
   refine⟨_,(Af (C2 (Tr (Tq (Ak (Mq (K:=K) (by rfl)) (by rfl) T.n_all Rn (Aa (C9 (N':=["place","shape"]) (cap:=[none,some 0]) (by rfl) (by kernel_rfl) (Bx (K:=K) (pv 1)) (fun _ _ _ _=>(Ba (i:=0) z7 (by rfl) (by first | exact Or.inl rfl | exact Or.inr rfl))) (fun _ _ _ _=>Cl) (fun _ _ _ _=>(A2 Bf hr (by rfl) (Aa (pv 0) (Aa (Ak (Al (K:=K)) (by rfl) T.n_len PySem.boot_len (Aa (pv 1) Ae)) Ae))))) Ae)))) (An (Ts Qh (by rfl) (by rfl) T.m_NoGlue T.e_NoGlue (Aa Vo Ae))) Bk)
    (Af (A3 (i:=2) Zs (by rfl) (by first | exact Or.inl rfl | exact Or.inr rfl) (A2 Dg hr (by rfl) (Aa (pv 0) (Aa (pv 1) Ae))))
    (An (Bj (B6 (Aa (A2 Gn hr (by rfl) (Aa (pv 0) (Aa (pv 2) Ae))) (Aa (pv 2) Ae))))))),?_⟩
   obtain⟨xu,hxq,hxul⟩:=LT.len hL
   obtain⟨b',bu,eb,hbq,rB⟩:=hB
   cases eb
   have bul:bu.length=ds.length:=rB.length
   refine Ax (fun σ' H'=>σ'=[some (.ref a),some (.ref b),none]/\Same H H'/\C0 ys ds=true) ?_ fun key=>?_
   rotate_left
   . refine⟨_,rfl,b,rfl,⟨_,hbq⟩,fun D hD=>?_⟩
     refine B2 (K:=K) (a:=b) (xs:=bu) (fun i zs τ G=>Same H G/\G D=some (.lst zs)/\zs=((ds.take i).map (fun d=>Ca d (ys.length:Int))).map V.bl/\∃ o,τ=[o,some (.ref a)])
      ⟨Same.new hD,Ad,rfl,none,rfl⟩ (fun i zs τ G _ ⟨g,_⟩=>g.seq hbq) ?_ ?_
     . rintro i x zs τ G hx ⟨g,hDG,rfl,o,rfl⟩
       obtain⟨d,hd,rd⟩:=rB.getV hx
       have hi:=(List.getElem?_eq_some_iff.mp hd).1
       refine⟨_,rfl,_,rfl,a,xu,rfl,.inl (g.seq hxq),x,d,_,rfl,Rep.same g rd,?_⟩
       rw [hxul]
       refine⟨hDG,small (by simp;omega),g.turn hD,Ad,?_,_,rfl⟩
       rw [List.take_add_one,hd,List.map_append,List.map_append]
       rfl
     . rintro zs τ G ⟨g,hDG,rfl,_⟩
       rw [bul,List.take_length] at hDG
       refine⟨D,_,rfl,.of hDG,_,rfl,?_⟩
       rw [List.all_map]
       cases hg:C0 ys ds with
       | false =>
         refine ifP (by show (!(C0 ys ds))=true;rw [hg];rfl) ?_
         exact ⟨A4 (by simp),k2 hg G g⟩
       | true =>
         refine ifN (by show ¬(!(C0 ys ds))=true;rw [hg];decide) ?_
         exact key _ _ ⟨rfl,g,hg⟩
   rintro _ H1 ⟨rfl,s1,hg⟩
   have hyl:ys.length<=60:=by have:=ok.le;omega
   obtain⟨gs,rfl,hgr⟩:=Y1 hg
   obtain rfl:bu=gs.map V.int:=Dw.mp rB
   have hS:SqL K H b (gs.map V.int):=hbq
   have hlow:=Vf ok.shp
   have hy4:∀ y∈ys,y.length<=4:=fun y hy=>Yo ok.shp hy
   have hgl:gs.length<=1000:=by rw [←List.length_map (f:=V.int),bul];omega
   refine Ax (fun σ' H'=>∃ (P:Addr) (ms:List Int),σ'=[some (.ref a),some (.ref b),some (.ref P)]/\Same H1 H'/\H1 P=none/\H' P=some (.lst (ms.map V.int))/\Kept ys gs ms) ?_ fun key=>?_
   rotate_left
   . refine⟨_,rfl,_,rfl,a,b,ys,gs,rfl,Rep.same s1 hL,s1.seq hS,hlow,hyl,hy4,hgr,hgl,fun P ms H' hP s' hP' hk=>?_⟩
     exact key _ _ ⟨P,ms,rfl,s',hP,hP',hk⟩
   rintro _ H2 ⟨P,ms,rfl,s2,hP,hP2,hk⟩
   have s12:=s1.trans s2
   refine⟨_,rfl,_,rfl,a,P,ys,ms,rfl,Rep.same s12 hL,.of hP2,hk.nd,hk.rng,hk.clo,by have:=hk.len;omega,hy4,fun L us H3 hL2 s3 hL3 r3=>?_⟩
   refine⟨_,rfl,A4 (by simp),fun R hR=>?_⟩
   have s4:Same H3 (upd H3 R (.tup [.ref L,.ref P])):=Same.new hR
   exact k1 hg _ _ ((s12.trans s3).trans s4)
abbrev B5:Stmt:=top 38
theorem Ni:FnScope ["_law_kind","_law_cells","_law_most","_law_family","_law_words","_law_cell","_law_more"] ["_law_kind","_law_cells","_law_most"] (Ag B5):=⟨rfl,rfl,rfl,by decide +kernel,rfl,by decide +kernel,by decide +kernel⟩
theorem B0:(["_law_kind","_law_cells","_law_most","_law_family","_law_words","_law_cell","_law_more"]:List Str).Nodup:=by decide +kernel
theorem Nv {f:Addr}{fd:FuncData} (F:Fun K "_law_shape_by" "_law_shape_by" B5 f fd) (T:Txt K mg Ai Aq Az A1 Au Av Ao Ay A6 Ac As Ap A0 A5 At Ar) (Ea:Has P w K mg base "_law_words_with" ["_law_words","_law_word","_law_family"] 2 (Dv K)) (Gp:Has P w K mg base "_law_word_by" ["_law_cell","_law_family","_law_letters"] 1 (E8 K)) (Cu:Has P w K mg base "_law_faces_by" ["_law_word","_law_family"] 1 (Dk K)):FnOk P w K mg base CX0 3 f fd ["_law_kind","_law_cells","_law_most"] (El K):=by
 refine F.ok Ni (fun vs H Q E h=>?_) (fun Cf A outer s H vs Q E hr h=>?_)
 . obtain⟨a,ns,kind,most,rfl,hS,hl,hm0,hm1,k⟩:=h
   rfl
 . obtain⟨a,ns,kind,most,rfl,hS,hl,hm0,hm1,k⟩:=h
   have hu8:(A.deeper (PyProof.Rows.envOfC "_law_shape_by" (Ag B5) s.heap.objs.size f Cf)).units+8<cLine:=by have:=hr.units;omega
   refine⟨_,(Af (A3 (i:=3) B0 (by rfl) (by first | exact Or.inl rfl | exact Or.inr rfl) Am)
    (Af (C2 (Bb Hi (Bh Cs (pv 0) Am) Am (Bp _)) (An (A3 (i:=3) B0 (by rfl) (by first | exact Or.inl rfl | exact Or.inr rfl) (Vn O8 Am))) Bk)
    (Af (C2 (Bb Hi (Bh Cs (pv 0) Am) Am (Bp _)) (An (A3 (i:=3) B0 (by rfl) (by first | exact Or.inl rfl | exact Or.inr rfl) (Bh Ee Am (Bh Cs (Bh D7 (pv 0) Am) Am)))) Bk)
    (Af (A3 (i:=4) B0 (by rfl) (by first | exact Or.inl rfl | exact Or.inr rfl) (Ch Ae))
    (Af (Ed PassesOwn.never rfl (Bx (K:=K) (pv 1)) (Ba (i:=5) B0 (by rfl) (by first | exact Or.inl rfl | exact Or.inr rfl)) (Af (A3 (i:=6) B0 (by rfl) (by first | exact Or.inl rfl | exact Or.inr rfl) (A2 Ea hr (by rfl) (Aa (pv 4) (Aa (A2 Gp hr (by rfl) (Aa (pv 5) (Aa (pv 3) (Aa (Bh Ee Am (Bh Cs (Bh D7 (pv 0) Am) Am)) Ae)))) (Aa (pv 3) Ae)))))
    (An (C2 (Bb j1 (Ak (Al (K:=K)) (by rfl) T.n_len PySem.boot_len (Aa (pv 6) Ae)) (pv 2) (Bp _)) (An (A3 (i:=4) B0 (by rfl) (by first | exact Or.inl rfl | exact Or.inr rfl) (pv 6))) Bk))))
    (An (Bj (C9 (N':=["_law_word","_law_family","_law_words"]) (cap:=[none,some 3,some 4]) (by rfl) (by kernel_rfl) (Bx (K:=K) (pv 4)) (fun _ _ _ _=>(Ba (i:=0) l8 (by rfl) (by first | exact Or.inl rfl | exact Or.inr rfl))) (fun _ _ _ _=>Cl) (fun _ _ _ _=>(B8 (F9 (K:=K)) (by rfl) T.n_tuple G0 (Aa (C9 (N':=["_law_face","_law_words"]) (cap:=[none,some 2]) (by rfl) (by kernel_rfl) (Bx (K:=K) (A2 Cu hr (by rfl) (Aa (pv 0) (Aa (pv 1) Ae)))) (fun _ _ _ _=>(Ba (i:=0) l7 (by rfl) (by first | exact Or.inl rfl | exact Or.inr rfl))) (fun _ _ _ _=>Cl) (fun _ _ _ _=>(Kq (K:=K) PySem.F.plainAttrs_list PySem.F.slot_list_index PySem.F.type_list_index (Ql (K:=K) hu8) (pv 1) (Aa (pv 0) Ae)))) Ae))))))))))),?_⟩
   refine Ka (fun σ' H'=>σ'=[some (.int kind),some (.ref a),some (.int most),some (.int 0),none,none,none]/\H=H') ?_ fun key0=>key0 _ _ ⟨rfl,rfl⟩
   rintro _ _ ⟨rfl,rfl⟩
   refine Ax (fun σ' H'=>∃ fam:Int,σ'=[some (.int kind),some (.ref a),some (.int most),some (.int fam),none,none,none]/\H=H'/\fam<100) ?_ fun key1=>?_
   rotate_left
   . refine⟨_,rfl,_,_,rfl,rfl,(by show (0:Int)<3;decide),rfl,_,rfl,?_⟩
     refine ite2 (fun _=>?_) (fun _=>?_)
     . exact ⟨_,rfl,key1 _ _ ⟨-1,rfl,rfl,by decide⟩⟩
     . exact key1 _ _ ⟨0,rfl,rfl,by decide⟩
   rintro _ _ ⟨fam0,rfl,rfl,hf0⟩
   refine Ax (fun σ' H'=>∃ fam:Int,σ'=[some (.int kind),some (.ref a),some (.int most),some (.int fam),none,none,none]/\H=H'/\fam<100) ?_ fun key2=>?_
   rotate_left
   . refine⟨_,rfl,_,_,rfl,rfl,(by show (0:Int)<3;decide),rfl,_,rfl,?_⟩
     refine ite2 (fun _=>?_) (fun _=>?_)
     . refine⟨_,rfl,_,_,rfl,rfl,⟨by decide,by decide⟩,_,_,rfl,rfl,(by show (0:Int)<19;decide),_,_,rfl,rfl,key2 _ _ ⟨_,rfl,rfl,?_⟩⟩
       have:kind / 18%19<19:=Int.emod_lt_of_pos _ (by decide)
       omega
     . exact key2 _ _ ⟨fam0,rfl,rfl,hf0⟩
   rintro _ _ ⟨fam,rfl,rfl,hf⟩
   have l1:0<=kind / 3%6:=Int.emod_nonneg _ (by decide)
   have l2:kind / 3%6<6:=Int.emod_lt_of_pos _ (by decide)
   refine⟨Nat.zero_le _,fun W0 hW0=>?_⟩
   have s0:Same H (upd H W0 (.lst [])):=Same.new hW0
   refine⟨_,rfl,a,rfl,⟨_,s0.seq hS⟩,for_list (K:=K) (a:=a) (xs:=ns.map V.int)
    (fun j σ H2=>∃ (W:Addr) (wu:List V) (ws:List (List Int)) (o5 o6:Option V),σ=[some (.int kind),some (.ref a),some (.int most),some (.int fam),some (.ref W),o5,o6]/\Same H H2/\H W=none/\H2 W=some (.lst wu) ∧
      Reps K H2 wu (ws.map tI)/\Ord fam ws/\(ws.length:Int)<=most)
    ⟨W0,[],[],none,none,rfl,s0,hW0,Ad,rfl,Ord.nil,by simpa using hm0⟩ (fun j σ H2 _ ⟨_,_,_,_,_,_,s2,_⟩=>s2.seq hS) ?_ ?_⟩
   . rintro j x σ H2 hx ⟨W,wu,ws,o5,o6,rfl,s2,hW,hW2,rW,hO,hwl⟩
     have hjn:j<ns.length:=by have:=(List.getElem?_eq_some_iff.mp hx).1;simpa using this
     have hxv:x=.int ns[j]:=by
      rw [List.getElem?_map,List.getElem?_eq_getElem hjn] at hx
      simpa using hx.symm
     subst hxv
     refine⟨_,rfl,_,rfl,_,rfl,_,rfl,_,_,rfl,rfl,⟨by decide,by decide⟩,_,_,rfl,rfl,(by show (0:Int)<6;decide),_,_,rfl,rfl,?_⟩
     refine⟨_,_,_,rfl,by omega,by omega,by omega,fun v H3 w s3 tv hw=>?_⟩
     refine⟨_,rfl,?_⟩
     refine⟨W,wu,v,ws,w,fam,rfl,s3 _ _ hW2,Reps.same s3 rW,tv,hw,by omega,fun M mu H4 hM s4 hM4 rM=>?_⟩
     have s24:=s3.trans s4
     have hMH:H M=none:=(s2.trans s3).free hM
     have mul:mu.length=(G7 ws w fam).length:=by have:=rM.length;simpa using this
     refine⟨_,rfl,M,_,rfl,.inl (.of hM4),_,rfl,_,_,rfl,rfl,_,rfl,?_⟩
     refine ite2 (fun h1=>?_) (fun h1=>?_)
     . have h2:(mu.length:Int)<=most:=by simpa using h1
       exact ⟨_,rfl,M,mu,G7 ws w fam,_,_,rfl,s2.trans s24,hMH,hM4,rM,M4 hO hw,by omega⟩
     . exact ⟨W,wu,ws,_,_,rfl,s2.trans s24,hW,s24 _ _ hW2,Reps.same s24 rW,hO,hwl⟩
   . rintro σ H2 ⟨W,wu,ws,o5,o6,rfl,s2,hW,hW2,rW,hO,hwl⟩
     have wul:wu.length=ws.length:=by have:=rW.length;simpa using this
     refine⟨_,rfl,W,rfl,⟨_,.of hW2⟩,fun D hD=>?_⟩
     have hDH:H D=none:=s2.free hD
     refine B2 (K:=K) (a:=W) (xs:=wu) (fun i ys τ H1=>Same H2 H1/\H1 D=some (.lst ys)/\Reps K H1 ys (((ws.take i).map fun w=>(Ah w fam).map fun f=>(idx ws f:Int)).map tI)/\∃ o,τ=[o,some (.int fam),some (.ref W)])
      ⟨Same.new hD,Ad,rfl,none,rfl⟩ (fun i ys τ H1 _ ⟨s1,_⟩=>.of (s1 _ _ hW2)) ?_ ?_
     . rintro i x ys τ H1 hx ⟨s1,hD1,r1,o,rfl⟩
       have hi:i<wu.length:=(List.getElem?_eq_some_iff.mp hx).1
       have hil:i<ws.length:=by omega
       have hix:(ws.map tI)[i]?=some (tI ws[i]):=by rw [List.getElem?_map,List.getElem?_eq_getElem hil];rfl
       obtain⟨x',hx',tx⟩:=rW.get hix
       rw [hx] at hx'
       cases hx'
       obtain⟨hwi,hfi⟩:=hO.mem (List.getElem_mem hil)
       generalize hwe:ws[i]=w at tx hwi hfi
       refine⟨_,rfl,_,rfl,x,w,fam,rfl,TI.same s1 tx,hwi,fun p fu H3 hp s3 hp3 r3=>?_⟩
       have ful:fu.length=(Ah w fam).length:=by have:=r3.length;simpa using this
       have s13:=s1.trans s3
       refine⟨p,rfl,⟨_,.of hp3⟩,fun D2 hD2=>?_⟩
       refine B2 (K:=K) (a:=p) (xs:=fu) (fun m zs τ H4=>Same H3 H4/\H4 D2=some (.lst zs)/\zs=((Ah w fam).take m).map (fun f=>V.int (idx ws f:Int))/\∃ o,τ=[o,some (.ref W)])
        ⟨Same.new hD2,Ad,rfl,none,rfl⟩ (fun m zs τ H4 _ ⟨s4,_⟩=>.of (s4 _ _ hp3)) ?_ ?_
       . rintro m y zs τ H4 hy ⟨s4,hD4,hzs,o,rfl⟩
         have hm:m<fu.length:=(List.getElem?_eq_some_iff.mp hy).1
         have hmf:m<(Ah w fam).length:=by omega
         have hmy:((Ah w fam).map tI)[m]?=some (tI (Ah w fam)[m]):=by rw [List.getElem?_map,List.getElem?_eq_getElem hmf];rfl
         obtain⟨y',hy',ty⟩:=r3.get hmy
         rw [hy] at hy'
         cases hy'
         have hfm:(Ah w fam)[m]∈ws:=hfi _ (List.getElem_mem _)
         have s14:=s13.trans s4
         have rw4:Rep K H4 (.ref W) (.lst (ws.map tI)):=⟨W,wu,rfl,.of (s14 _ _ hW2),Reps.same s14 rW⟩
         have hfl:=(Eg hwi)
         have hzl:zs.length<=4:=by
          rw [hzs,List.length_map,List.length_take]
          have:=hfl.2
          have:=hfl.1
          split at this<;>omega
         refine⟨_,rfl,.inl ⟨rfl,_,.of (s14 _ _ hW2)⟩,_,rfl,ws.map tI,y,tI (Ah w fam)[m],idx ws (Ah w fam)[m],rfl,rw4,TI.same s4 ty,(by have:=Hs ws;omega),Uu hfm,?_⟩
         refine⟨hD4,small (by omega),s4.turn hD2,Ad,?_,_,rfl⟩
         rw [List.take_succ,List.getElem?_eq_getElem hmf,List.map_append,hzs]
         rfl
       . rintro zs τ H4 ⟨s4,hD4,hzs,_⟩
         rw [ful,List.take_length] at hzs
         have s14:=s13.trans s4
         refine⟨D2,_,rfl,.inl ⟨.of hD4,fun T hT=>?_⟩⟩
         have s5:Same H4 (upd H4 T (.tup zs)):=Same.new hT
         have hD5:=(s3.trans (s4.trans s5)) _ _ hD1
         have t5:TI K (upd H4 T (.tup zs)) (.ref T) ((Ah w fam).map fun f=>(idx ws f:Int)):=by
          refine TI.mk (.of ?_)
          rw [List.map_map,Ad,hzs]
          rfl
         have hyl:ys.length=i:=by have:=r1.length;simp at this;omega
         refine⟨hD5,small (by omega),(s14.trans s5).turn hD,Ad,?_,_,rfl⟩
         have e2:(ws.take (i+1)).map (fun w=>(Ah w fam).map fun f=>(idx ws f:Int))=(ws.take i).map (fun w=>(Ah w fam).map fun f=>(idx ws f:Int))++[(Ah w fam).map fun f=>(idx ws f:Int)]:=by
          rw [List.take_succ,List.getElem?_eq_getElem hil,hwe,List.map_append]
          rfl
         rw [e2]
         exact D5 hD5 (Reps.same (s3.trans (s4.trans s5)) r1) t5
     . rintro ys τ H1 ⟨s1,hD1,r1,_⟩
       rw [wul,List.take_length] at r1
       exact k D ys H1 (Gh ws fam) hDH (s2.trans s1) hD1 r1 (Nh hO) (by unfold Gh;rw [List.length_map];exact hwl)
abbrev C5:Stmt:=top 31
theorem Pk:FnScope ["shape","thing"] ["shape","thing"] (Ag C5):=⟨rfl,rfl,rfl,by decide +kernel,rfl,by decide +kernel,by decide +kernel⟩
theorem Pz {f:Addr}{fd:FuncData} (F:Fun K "is_gluing" "is_gluing" C5 f fd) (T:Txt K mg Ai Aq Az A1 Au Av Ao Ay A6 Ac As Ap A0 A5 At Ar) (Cn:Has P w K mg base "is_place_of_level" ["shape","thing","level"] 3 (Ce K)) (Du:Has P w K mg base "level_of" ["piece"] 1 (Ej K)) (Bf:Has P w K mg base "is_whole_below" ["thing","bound"] 2 (By K)):FnOk P w K mg base CX0 4 f fd ["shape","thing"] (Ij K):=by
 refine F.ok Pk (fun vs H Q E h=>?_) (fun Cf A outer s H vs Q E hr h=>?_)
 . obtain⟨a,v,ys,d,rfl,hL,hv,k⟩:=h
   rfl
 . obtain⟨a,v,ys,d,rfl,hL,hv,k⟩:=h
   refine⟨_,(Af (C2 (PW.pt (i5 (Tr (Tq (Ak (Ff (K:=K)) (by rfl) T.n_isinstance Aj (Aa (pv 1) (Aa (Ki (v:=.ty "tuple") rfl T.n_tuple G0 rfl) Ae))))) (i5 (Bb Zl (Ak (Al (K:=K)) (by rfl) T.n_len PySem.boot_len (Aa (pv 1) Ae)) Am (Bp _)) (g7 (Tr (Tq (A2 Bf hr (by rfl) (Aa (B4 (Ja (K:=K)) (pv 1) Am (fun _ _=>rfl)) (Aa (Ak (Al (K:=K)) (by rfl) T.n_len PySem.boot_len (Aa (pv 0) Ae)) Ae))))))))) (An (Bj J5)) Bk)
    (An (Bj (A2 Cn hr (by rfl) (Aa (pv 0) (Aa (B4 (Ja (K:=K)) (pv 1) Am (fun _ _=>rfl)) (Aa (A2 Du hr (by rfl) (Aa (B4 (A8 (K:=K)) (pv 0) (B4 (Ja (K:=K)) (pv 1) Am (fun _ _=>rfl)) (fun _ _=>rfl)) Ae)) Ae))))))),?_⟩
   obtain⟨xu,hxq,hxul⟩:=LT.len hL
   have no:gluD ys d=false->Q (.bl false) H:=fun e=>by rw [e] at k;exact k
   refine Ax (fun σ' H'=>∃ (t:Addr) (x y:V) (dx dy:L2.D),σ'=[some (.ref a),some v]/\H=H'/\v=.ref t/\SqT K H t [x,y]/\d=.tup [dx,dy]/\Rep K H x dx/\Rep K H y dy/\Ca dx (ys.length:Int)=true) ?_ fun key=>?_
   rotate_left
   . refine⟨_,rfl,v,"tuple",d,rfl,.inr (.inr (.inr (.inl rfl))),hv,_,rfl,?_⟩
     by_cases ht:isD "tuple" d=true
     rotate_left
     . refine ifP (by simpa using ht) ?_
       refine no ?_
       cases d<;>first | rfl | exact absurd rfl ht
     refine ifN (by rw [ht];decide) ?_
     obtain⟨ds,rfl⟩:∃ ds,d=.tup ds:=by cases d<;>first | exact ⟨_,rfl⟩ | exact absurd ht (by simp [isD])
     obtain⟨t,us,rfl,hq,r⟩:=id hv
     have hul:=r.length
     refine⟨_,rfl,t,us,rfl,.inr hq,rfl,_,rfl,?_⟩
     match ds,us,hul,r,hq,hv with
     | [],us,hul,r,hq,hv=>refine ifP (by rw [show us.length=0 from hul];decide) ?_;exact no rfl
     | [_],us,hul,r,hq,hv=>refine ifP (by rw [show us.length=1 from hul];decide) ?_;exact no rfl
     | _::_::_::ds,us,hul,r,hq,hv =>
       refine ifP (by simp [show us.length=ds.length+3 from hul];omega) ?_
       exact no rfl
     | [dx,dy],[x,y],hul,r,hq,hv =>
       refine ifN (by simp) ?_
       obtain⟨_,_,e0,rx,r1⟩:=r
       cases e0
       obtain⟨_,_,e1,ry,_⟩:=r1
       cases e1
       refine⟨_,rfl,t,_,_,_,rfl,rfl,hq,fst0 _ _,_,rfl,a,xu,rfl,.inl hxq,x,dx,_,rfl,rx,_,rfl,?_⟩
       rw [hxul]
       by_cases hb:Ca dx (ys.length:Int)=true
       . refine ifN (by rw [hb];decide) ?_
         exact key _ _ ⟨t,x,y,dx,dy,rfl,rfl,rfl,hq,rfl,rx,ry,hb⟩
       . refine ifP (by simpa using hb) ?_
         refine no ?_
         show (Ca dx (ys.length:Int)&&_)=false
         rw [Bool.eq_false_iff.mpr hb]
         rfl
   rintro _ _ ⟨t,x,y,dx,dy,rfl,rfl,rfl,hq,rfl,rx,ry,hb⟩
   obtain⟨i,rfl,h0,h1⟩:=La hb
   obtain rfl:x=.int i:=rx
   obtain⟨xq,vx,hxq2,hvx,tvx⟩:=LT.get hL h0 h1
   have el:(nums (fc ys i)).length=(fc ys i).length:=List.length_map ..
   refine⟨_,rfl,_,rfl,t,_,_,_,rfl,rfl,hq,snd1 _ _ _,_,rfl,_,rfl,t,_,_,_,rfl,rfl,hq,fst0 _ _,a,xq,_,vx,rfl,rfl,hxq2,hvx,vx,nums (fc ys i),rfl,.inr tvx,a,y,dy,_,ys,rfl,hL,ry,?_⟩
   rw [el]
   have e:gluD ys (.tup [.int i,dy])=De ys dy (levI (fc ys i).length):=by
    show (Ca (.int i) (ys.length:Int)&&De ys dy (levI (fc ys i).length))=_
    rw [hb,Bool.true_and]
   rw [e] at k
   exact k
abbrev Cb:Stmt:=top 41
theorem Lr:FnScope ["_law_shape","_law_spots","_law_marks","_law_e"] ["_law_shape","_law_spots"] (Ag Cb):=⟨rfl,rfl,rfl,by decide +kernel,rfl,by decide +kernel,by decide +kernel⟩
theorem D8:(["_law_shape","_law_spots","_law_marks","_law_e"]:List Str).Nodup:=by decide +kernel
theorem Lx {f:Addr}{fd:FuncData} (F:Fun K "_law_part_told" "_law_part_told" Cb f fd) (T:Txt K mg Ai Aq Az A1 Au Av Ao Ay A6 Ac As Ap A0 A5 At Ar) (S3:HasX P w K mg base "part" ["shape","places"] 3 (Na K Ac)) (hh_L_many_kinds:HasH P w K mg base "_law_many_kinds" ["_law_e"] 1 (Hf K Ac)):FnOk P w K mg base CX0 4 f fd ["_law_shape","_law_spots"] (E6 K):=by
 refine F.ok Lr (fun vs H Q E h=>?_) (fun Cf A outer s H vs Q E hr h=>?_)
 . obtain⟨a,b,ys,ds,rfl,hL,hB,ok,hdl,k1,k2⟩:=h
   rfl
 . obtain⟨a,b,ys,ds,rfl,hL,hB,ok,hdl,k1,k2⟩:=h
   refine⟨_,(Af (A3 (i:=2) D8 (by rfl) (by first | exact Or.inl rfl | exact Or.inr rfl) Mo)
    (Af (Yr (fun _ _=>(An (Gj (Tt Kx S3 hr (by rfl) (Aa (pv 0) (Aa (pv 1) Ae))))))
    (Yt (i:=3) D8 (by rfl) (by rfl) (by rfl) T.m_HoleError T.k_HoleError (fun _=>(An (A3 (i:=2) D8 (by rfl) (by first | exact Or.inl rfl | exact Or.inr rfl) (B6 (Aa (Ak (Bc (K:=K)) (by rfl) T.n_isinstance Aj (Aa (pv 3) (Aa (B7 (v:=.ref Ac) (by rfl) T.m_NoGlue rfl) Ae))) (Aa (Ak (Bc (K:=K)) (by rfl) T.n_isinstance Aj (Aa (pv 3) (Aa (Ki (v:=.ty "ValueError") rfl T.n_ValueError Ev rfl) Ae))) (Aa (Tu hh_L_many_kinds rfl hr.n (by rfl) (Aa (pv 3) Ae)) Ae)))))))
    Vm))
    (An (Bj (pv 2))))),?_⟩
   refine⟨_,rfl,_,rfl,a,b,ys,ds,rfl,hL,hB,ok,hdl,fun hg u H1 s1=>?_,fun hg H1 s1=>?_⟩
   . exact ⟨_,rfl,k1 hg H1 s1⟩
   . refine⟨Ac,true,rfl,T.s_NoGlue_HoleError,?_⟩
     refine ifP rfl fun x hx=>?_
     have s2:Same H1 (upd H1 x (excX x (.ref Ac) none)):=Same.new hx
     have hxx:upd H1 x (excX x (.ref Ac) none) x=some (excX x (.ref Ac) none):=Ad
     generalize upd H1 x (excX x (.ref Ac) none)=H2 at s2 hxx ⊢
     refine⟨_,rfl,x,Ac,_,_,_,rfl,rfl,Bs,hxx,T.x_NoGlue,T.i_NoGlue_NoGlue,_,rfl,x,Ac,_,_,_,rfl,rfl,U9,hxx,T.x_NoGlue,T.iv_NoGlue,_,rfl,rfl,hxx,fun H3 s3=>?_⟩
     refine⟨A4 (by simp),fun p hp=>?_⟩
     exact ⟨_,rfl,k2 hg p _ (((s1.trans s2).trans s3).trans (Same.new hp)) Ad⟩
abbrev En:Stmt:=top 32
theorem Pj:FnScope ["shape","firsts","one","other","low","high","told","face","other_face"] ["shape","firsts","one","other"] (Ag En):=⟨rfl,rfl,rfl,by decide +kernel,rfl,by decide +kernel,by decide +kernel⟩
theorem Ef:(["shape","firsts","one","other","low","high","told","face","other_face"]:List Str).Nodup:=by decide +kernel
theorem Um {f:Addr}{fd:FuncData} (F:Fun K "joined" "joined" En f fd):FnOk P w K mg base CX0 1 f fd ["shape","firsts","one","other"] (Cg K 0):=by
 refine F.ok Pj (fun vs H Q E h=>?_) (fun Cf A outer s H vs Q E hr h=>?_)
 . obtain⟨a,l,ys,fs,i,j,rfl,hL,hS,G,h4,hyl,hlab,hi,hj,he,hd,hcl,k⟩:=h
   omega
 . obtain⟨a,l,ys,fs,i,j,rfl,hL,hS,G,h4,hyl,hlab,hi,hj,he,hd,hcl,k⟩:=h
   omega
theorem Fa {r dd:Nat}{f:Addr}{fd:FuncData} (F:Fun K "joined" "joined" En f fd) (T:Txt K mg Ai Aq Az A1 Au Av Ao Ay A6 Ac As Ap A0 A5 At Ar)  (Ho:Has P w K mg base "joined" ["shape","firsts","one","other"] r (Cg K dd)):FnOk P w K mg base CX0 (r+1) f fd ["shape","firsts","one","other"] (Cg K (dd+1)):=by
 refine F.ok Pj (fun vs H Q E h=>?_) (fun Cf A outer s H vs Q E hr h=>?_)
 . obtain⟨a,l,ys,fs,i,j,rfl,hL,hS,G,h4,hyl,hlab,hi,hj,he,hd,hcl,k⟩:=h
   rfl
 . obtain⟨a,l,ys,fs,i,j,rfl,hL,hS,G,h4,hyl,hlab,hi,hj,he,hd,hcl,k⟩:=h
   refine⟨_,(Af (A3 (i:=4) Ef (by rfl) (by first | exact Or.inl rfl | exact Or.inr rfl) (Ak (Wx (by rfl)) (by rfl) T.n_min W7 (Aa (B4 (A8 (K:=K)) (pv 1) (pv 2) (fun _ _=>rfl)) (Aa (B4 (A8 (K:=K)) (pv 1) (pv 3) (fun _ _=>rfl)) Ae))))
    (Af (A3 (i:=5) Ef (by rfl) (by first | exact Or.inl rfl | exact Or.inr rfl) (Ak (Rj (by rfl)) (by rfl) T.n_max Rm (Aa (B4 (A8 (K:=K)) (pv 1) (pv 2) (fun _ _=>rfl)) (Aa (B4 (A8 (K:=K)) (pv 1) (pv 3) (fun _ _=>rfl)) Ae))))
    (Af (C2 (Bb Hi (pv 4) (pv 5) (Bp _)) (An (Bj (pv 1))) Bk)
    (Af (Nn (N':=["first","high","low"]) (cap:=[none,some 5,some 4]) (i:=6) Ef (by rfl) (by first | exact Or.inl rfl | exact Or.inr rfl) (by rfl) (by kernel_rfl) (Bx (K:=K) (pv 1)) (fun _ _ _ _=>(Ba (i:=0) y6 (by rfl) (by first | exact Or.inl rfl | exact Or.inr rfl))) (fun _ _ _ _=>Cl) (fun _ _ _ _=>(Xt (Bb Hi (pv 0) (pv 1) (Bp _)) (pv 2) (pv 0))))
    (Af (Ed PassesOwn.never rfl (Zg (K:=K) (by rfl) T.n_zip (Aa (B4 (A8 (K:=K)) (pv 0) (pv 2) (fun _ _=>rfl)) (Aa (B4 (A8 (K:=K)) (pv 0) (pv 3) (fun _ _=>rfl)) Ae))) (Ob (K:=K) (n:=2) (by rfl) (D3 (Ba (i:=7) Ef (by rfl) (by first | exact Or.inl rfl | exact Or.inr rfl)) (D3 (Ba (i:=8) Ef (by rfl) (by first | exact Or.inl rfl | exact Or.inr rfl)) Nu))) (An (A3 (i:=6) Ef (by rfl) (by first | exact Or.inl rfl | exact Or.inr rfl) (A2 (hk:=Nat.le_refl _) Ho hr (by rfl) (Aa (pv 0) (Aa (pv 6) (Aa (pv 7) (Aa (pv 8) Ae))))))))
    (An (Bj (pv 6)))))))),?_⟩
   have hlen:=hlab.len
   have ati:atI (fs.map V.int) i=some (.int (lb fs i)):=W8 hi.1 (by rw [hlen];exact hi.2)
   have atj:atI (fs.map V.int) j=some (.int (lb fs j)):=W8 hj.1 (by rw [hlen];exact hj.2)
   have emin:(if lb fs j<lb fs i then lb fs j else lb fs i)=min (lb fs i) (lb fs j):=by split<;>omega
   have emax:(if lb fs j > lb fs i then lb fs j else lb fs i)=max (lb fs i) (lb fs j):=by split<;>omega
   refine Ax (fun σ' H'=>σ'=[some (.ref a),some (.ref l),some (.int i),some (.int j),some (.int (min (lb fs i) (lb fs j))),none,none,none,none]/\H=H') ?_ fun key=>?_
   rotate_left
   . refine⟨_,rfl,_,rfl,l,_,_,_,rfl,rfl,hS,ati,_,rfl,_,rfl,l,_,_,_,rfl,rfl,hS,atj,_,_,rfl,?_⟩
     rw [emin]
     exact key _ _ ⟨rfl,rfl⟩
   rintro _ _ ⟨rfl,rfl⟩
   refine Ax (fun σ' H'=>σ'=[some (.ref a),some (.ref l),some (.int i),some (.int j),some (.int (min (lb fs i) (lb fs j))),some (.int (max (lb fs i) (lb fs j))),none,none,none]/\H=H') ?_ fun key=>?_
   rotate_left
   . refine⟨_,rfl,_,rfl,l,_,_,_,rfl,rfl,hS,ati,_,rfl,_,rfl,l,_,_,_,rfl,rfl,hS,atj,_,_,rfl,?_⟩
     rw [emax]
     exact key _ _ ⟨rfl,rfl⟩
   rintro _ _ ⟨rfl,rfl⟩
   refine Ax (fun σ' H'=>σ'=[some (.ref a),some (.ref l),some (.int i),some (.int j),some (.int (min (lb fs i) (lb fs j))),some (.int (max (lb fs i) (lb fs j))),none,none,none]/\H=H'/\¬lb fs i=lb fs j) ?_ fun key=>?_
   rotate_left
   . refine⟨_,rfl,_,rfl,rfl,_,rfl,?_⟩
     refine ite2 (fun h1=>?_) (fun h1=>?_)
     . have e0:=of_decide_eq_true h1
       injection e0 with e0
       have e:lb fs i=lb fs j:=by omega
       refine⟨_,rfl,k l H (Same.refl H) ?_⟩
       have ej:Ey (dd+1) ys fs i j=fs:=by unfold Ey;rw [if_pos e]
       rw [ej]
       exact hS
     . exact key _ _ ⟨rfl,rfl,fun e=>h1 (decide_eq_true (by rw [e];congr 1))⟩
   rintro _ _ ⟨rfl,rfl,hne⟩
   have ej:Ey (dd+1) ys fs i j=((fc ys i).zip (fc ys j)).foldl (fun t z=>Ey dd ys t z.1 z.2) (mrg fs (min (lb fs i) (lb fs j)) (max (lb fs i) (lb fs j))):=by
    conv=>lhs;unfold Ey
    rw [if_neg hne]
   have pre:=fun (m:Nat) (z:Int × Int) (hz:((fc ys i).zip (fc ys j))[m]?=some z)=>X7 G (d:=dd) hlab hi hj he hd hcl hne hz
   rw [ej] at k
   generalize min (lb fs i) (lb fs j)=lo at k pre
   generalize max (lb fs i) (lb fs j)=hi' at k pre
   refine Ax (fun σ' H'=>∃ (t:Addr),σ'=[some (.ref a),some (.ref l),some (.int i),some (.int j),some (.int lo),some (.int hi'),some (.ref t),none,none]/\Same H H'/\H' t=some (.lst ((mrg fs lo hi').map V.int))) ?_ fun key=>?_
   rotate_left
   . refine⟨_,rfl,l,rfl,⟨_,hS⟩,fun D hD=>?_⟩
     refine B2 (K:=K) (a:=l) (xs:=fs.map V.int) (fun m zs τ G2=>Same H G2/\G2 D=some (.lst zs)/\zs=((fs.take m).map fun x=>if x=hi' then lo else x).map V.int/\∃ o,τ=[o,some (.int hi'),some (.int lo)])
      ⟨Same.new hD,Ad,rfl,none,rfl⟩ (fun m zs τ G2 _ ⟨g,_⟩=>g.seq hS) ?_ ?_
     . rintro m x zs τ G2 hx ⟨g,hDG,hzs,o,rfl⟩
       obtain⟨hm,rfl⟩:=Hn hx
       have e5:(fs.take (m+1)).map (fun x=>if x=hi' then lo else x)=(fs.take m).map (fun x=>if x=hi' then lo else x)++[if fs[m]=hi' then lo else fs[m]]:=by
        rw [List.take_succ,List.getElem?_eq_getElem hm,List.map_append]
        rfl
       have hzl:zs.length<=63:=by rw [hzs,List.length_map,List.length_map,List.length_take];omega
       generalize fs[m]=x at e5
       refine⟨_,rfl,_,rfl,rfl,_,rfl,?_⟩
       refine ite2 (fun h1=>?_) (fun h1=>?_)
       . have e:x=hi':=by simpa using h1
         refine⟨_,rfl,hDG,small (by omega),g.turn hD,Ad,?_,_,rfl⟩
         rw [e5,if_pos e,List.map_append,hzs]
         rfl
       . have e:¬x=hi':=by simpa using h1
         refine⟨_,rfl,hDG,small (by omega),g.turn hD,Ad,?_,_,rfl⟩
         rw [e5,if_neg e,List.map_append,hzs]
         rfl
     . rintro zs τ G2 ⟨g,hDG,hzs,_⟩
       rw [List.length_map,List.take_length] at hzs
       exact key _ _ ⟨D,rfl,g,by rw [hDG,hzs];rfl⟩
   rintro _ H1 ⟨t,rfl,s1,ht⟩
   obtain⟨xi,vi,hxi,hvi,tvi⟩:=LT.get hL hi.1 hi.2
   obtain⟨ai,rfl,sqi⟩:=TI.sq tvi
   obtain⟨xj,vj,hxj,hvj,tvj⟩:=LT.get hL hj.1 hj.2
   obtain⟨aj,rfl,sqj⟩:=TI.sq tvj
   have sqi':SqT K H ai ((fc ys i).map V.int):=sqi
   have sqj':SqT K H aj ((fc ys j).map V.int):=sqj
   refine⟨_,rfl,_,rfl,a,xi,_,_,rfl,rfl,s1.seq hxi,hvi,_,rfl,_,rfl,a,xj,_,_,rfl,rfl,s1.seq hxj,hvj,ai,aj,rfl,⟨_,s1.seqT sqi'⟩,⟨_,s1.seqT sqj'⟩,?_⟩
   refine Yb (K:=K) (a:=ai) (b:=aj) (xs:=(fc ys i).map V.int) (ys:=(fc ys j).map V.int) (n:=(fc ys i).length) ⟨List.length_map ..,(List.length_map ..).trans he.symm⟩
    (fun m σ G2=>∃ (t:Addr) (o7 o8:Option V),σ=[some (.ref a),some (.ref l),some (.int i),some (.int j),some (.int lo),some (.int hi'),some (.ref t),o7,o8]/\Same H G2/\SqL K G2 t (((((fc ys i).zip (fc ys j)).take m).foldl (fun t z=>Ey dd ys t z.1 z.2) (mrg fs lo hi')).map V.int))
    ⟨t,_,_,rfl,s1,.of ht⟩ (fun m σ G2 _ ⟨_,_,_,_,g,_⟩=>⟨g.seqT sqi',g.seqT sqj'⟩) ?_ ?_
   . rintro m x y σ G2 p hx hy ⟨t,o7,o8,rfl,g,htt⟩ hp
     obtain⟨hm,rfl⟩:=Hn hx
     obtain⟨hm2,rfl⟩:=Hn hy
     have hz:((fc ys i).zip (fc ys j))[m]?=some ((fc ys i)[m],(fc ys j)[m]):=List.getElem?_zip_eq_some.mpr ⟨List.getElem?_eq_getElem hm,List.getElem?_eq_getElem hm2⟩
     obtain⟨pl,pc,pi,pj,pe,pd⟩:=pre m _ hz
     have etk:((fc ys i).zip (fc ys j)).take (m+1)=((fc ys i).zip (fc ys j)).take m++[((fc ys i)[m],(fc ys j)[m])]:=by rw [List.take_succ,hz];rfl
     generalize (fc ys i)[m]=f1 at hz pl pc pi pj pe pd etk
     generalize (fc ys j)[m]=f2 at hz pl pc pi pj pe pd etk
     have gp:Same G2 (upd G2 p (.tup [.int f1,.int f2])):=Same.new hp
     have hp1:(upd G2 p (.tup [.int f1,.int f2])) p=some (.tup [.int f1,.int f2]):=Ad
     generalize upd G2 p (.tup [.int f1,.int f2])=G3 at gp hp1
     refine⟨p,_,rfl,.of hp1,rfl,_,_,rfl,_,_,rfl,rfl,?_⟩
     refine⟨_,rfl,_,rfl,_,rfl,_,rfl,a,t,ys,_,f1,f2,rfl,Rep.same (g.trans gp) hL,gp.seq htt,G,h4,hyl,pl,pi,pj,pe,pd,pc,fun E H' s' hE=>?_⟩
     refine⟨E,_,_,rfl,(g.trans gp).trans s',?_⟩
     rw [etk,List.foldl_append]
     exact hE
   . rintro σ G2 ⟨t,o7,o8,rfl,g,htt⟩
     refine⟨_,rfl,k t G2 g ?_⟩
     rw [List.take_of_length_le (by rw [List.length_zip];omega)] at htt
     exact htt
abbrev Gi:Stmt:=top 30
theorem Xo:FnScope ["shape","pairs","firsts","one","other","kept","spots"] ["shape","pairs"] (Ag Gi):=⟨rfl,rfl,rfl,by decide +kernel,rfl,by decide +kernel,by decide +kernel⟩
theorem Fq:(["shape","pairs","firsts","one","other","kept","spots"]:List Str).Nodup:=by decide +kernel
theorem Xx {f:Addr}{fd:FuncData} (F:Fun K "glued" "glued" Gi f fd) (T:Txt K mg Ai Aq Az A1 Au Av Ao Ay A6 Ac As Ap A0 A5 At Ar) (Ho:Has P w K mg base "joined" ["shape","firsts","one","other"] 6 (Uh K)) (Db:Has P w K mg base "called_by" ["spots","piece"] 1 (Fp K)) (Go:Has P w K mg base "is_gluing" ["shape","thing"] 4 (Ij K)):FnOk P w K mg base (CX1 P w) 7 f fd ["shape","pairs"] (Kb K Ac):=by
 refine F.okX Xo (fun vs H Q E h=>?_) (fun Cf A outer s H vs Q E hr h=>?_)
 . obtain⟨a,b,ys,ds,rfl,hL,hB,ok,hdl,k1,k2⟩:=h
   rfl
 . obtain⟨a,b,ys,ds,rfl,hL,hB,ok,hdl,k1,k2⟩:=h
   have hu8:(A.deeper (PyProof.Rows.envOfC "glued" (Ag Gi) s.heap.objs.size f Cf)).units+8<cLine:=by have:=hr.units;omega
   refine⟨_,(Af (C2 (Tr (Tq (Ak (Mq (K:=K) (by rfl)) (by rfl) T.n_all Rn (Aa (C9 (N':=["pair","shape"]) (cap:=[none,some 0]) (by rfl) (by kernel_rfl) (Bx (K:=K) (pv 1)) (fun _ _ _ _=>(Ba (i:=0) y7 (by rfl) (by first | exact Or.inl rfl | exact Or.inr rfl))) (fun _ _ _ _=>Cl) (fun _ _ _ _=>(A2 Go hr (by rfl) (Aa (pv 1) (Aa (pv 0) Ae))))) Ae)))) (An (Ts Qh (by rfl) (by rfl) T.m_NoGlue T.e_NoGlue (Aa Vo Ae))) Bk)
    (Af (A3 (i:=2) Fq (by rfl) (by first | exact Or.inl rfl | exact Or.inr rfl) (Pw (by rfl) (by rfl) T.n_list (by rfl) T.n_range (Aa (Ak (Al (K:=K)) (by rfl) T.n_len PySem.boot_len (Aa (pv 0) Ae)) Ae)))
    (Af (Ed PassesOwn.leaving rfl (Bx (K:=K) (pv 1)) (Ob (K:=K) (n:=2) (by rfl) (D3 (Ba (i:=3) Fq (by rfl) (by first | exact Or.inl rfl | exact Or.inr rfl)) (D3 (Ba (i:=4) Fq (by rfl) (by first | exact Or.inl rfl | exact Or.inr rfl)) Nu))) (An (A3 (i:=2) Fq (by rfl) (by first | exact Or.inl rfl | exact Or.inr rfl) (A2 (hk:=Nat.le_refl _) Ho hr (by rfl) (Aa (pv 0) (Aa (pv 2) (Aa (pv 3) (Aa (pv 4) Ae))))))))
    (Af (A3 (i:=5) Fq (by rfl) (by first | exact Or.inl rfl | exact Or.inr rfl) (C9 (N':=["place","first"]) (cap:=[none,none]) (by rfl) (by kernel_rfl) (Vl (K:=K) (by rfl) T.n_enumerate (Aa (pv 2) Ae)) (fun _ _ _ _=>(Ob (K:=K) (n:=2) (by rfl) (D3 (Ba (i:=0) j7 (by rfl) (by first | exact Or.inl rfl | exact Or.inr rfl)) (D3 (Ba (i:=1) j7 (by rfl) (by first | exact Or.inl rfl | exact Or.inr rfl)) Nu)))) (fun _ _ _ _=>(Sf (Bb Hi (pv 0) (pv 1) (Bp _)))) (fun _ _ _ _=>(pv 0))))
    (Af (A3 (i:=6) Fq (by rfl) (by first | exact Or.inl rfl | exact Or.inr rfl) (C9 (N':=["first","kept"]) (cap:=[none,some 5]) (by rfl) (by kernel_rfl) (Bx (K:=K) (pv 2)) (fun _ _ _ _=>(Ba (i:=0) y8 (by rfl) (by first | exact Or.inl rfl | exact Or.inr rfl))) (fun _ _ _ _=>Cl) (fun _ _ _ _=>(Kq (K:=K) PySem.F.plainAttrs_list PySem.F.slot_list_index PySem.F.type_list_index (Ql (K:=K) hu8) (pv 1) (Aa (pv 0) Ae)))))
    (An (Bj (B6 (Aa (C9 (N':=["place","spots","shape"]) (cap:=[none,some 6,some 0]) (by rfl) (by kernel_rfl) (Bx (K:=K) (pv 5)) (fun _ _ _ _=>(Ba (i:=0) y9 (by rfl) (by first | exact Or.inl rfl | exact Or.inr rfl))) (fun _ _ _ _=>Cl) (fun _ _ _ _=>(A2 Db hr (by rfl) (Aa (pv 1) (Aa (B4 (A8 (K:=K)) (pv 2) (pv 0) (fun _ _=>rfl)) Ae))))) (Aa (pv 6) Ae)))))))))),?_⟩
   obtain⟨xu,hxq,hxul⟩:=LT.len hL
   obtain⟨b',bu,eb,hbq,rB⟩:=hB
   cases eb
   have bul:bu.length=ds.length:=rB.length
   refine Ax (fun σ' H'=>σ'=[some (.ref a),some (.ref b),none,none,none,none,none]/\Same H H'/\C1 ys ds=true) ?_ fun key=>?_
   rotate_left
   . refine⟨_,rfl,b,rfl,⟨_,hbq⟩,fun D hD=>?_⟩
     refine B2 (K:=K) (a:=b) (xs:=bu) (fun i zs τ G=>Same H G/\G D=some (.lst zs)/\zs=((ds.take i).map (gluD ys)).map V.bl/\∃ o,τ=[o,some (.ref a)])
      ⟨Same.new hD,Ad,rfl,none,rfl⟩ (fun i zs τ G _ ⟨g,_⟩=>g.seq hbq) ?_ ?_
     . rintro i x zs τ G hx ⟨g,hDG,rfl,o,rfl⟩
       obtain⟨d,hd,rd⟩:=rB.getV hx
       have hi:=(List.getElem?_eq_some_iff.mp hd).1
       refine⟨_,rfl,_,rfl,a,x,ys,d,rfl,Rep.same g hL,Rep.same g rd,?_⟩
       refine⟨hDG,small (by simp;omega),g.turn hD,Ad,?_,_,rfl⟩
       rw [List.take_add_one,hd,List.map_append,List.map_append]
       rfl
     . rintro zs τ G ⟨g,hDG,rfl,_⟩
       rw [bul,List.take_length] at hDG
       refine⟨D,_,rfl,.of hDG,_,rfl,?_⟩
       rw [List.all_map]
       cases hg:C1 ys ds with
       | false =>
         refine ifP (by show (!(C1 ys ds))=true;rw [hg];rfl) ?_
         exact ⟨A4 (by simp),k2 hg G g⟩
       | true =>
         refine ifN (by show ¬(!(C1 ys ds))=true;rw [hg];decide) ?_
         exact key _ _ ⟨rfl,g,hg⟩
   rintro _ H1 ⟨rfl,s1,hg⟩
   have hyl:ys.length<=60:=by have:=ok.le;omega
   obtain⟨ps,rfl,hok⟩:=Q0 (cnt_ne1 ok.shp) hg
   have pul:bu.length=ps.length:=by rw [bul];simp
   have hyl:ys.length<=63:=by omega
   have G:=Aa5 ok.shp
   have h4:∀ y∈ys,y.length<=4:=fun y hy=>Yo ok.shp hy
   have f4:=r6 h4
   have dn:∀ z:List Int,deps (nums z)+1<=8:=fun z=>by rw [Ht];decide
   refine Ax (fun σ' H'=>∃ (l:Addr),σ'=[some (.ref a),some (.ref b),some (.ref l),none,none,none,none]/\Same H H'/\H' l=some (.lst ((upN ys.length).map V.int))) ?_ fun key=>?_
   rotate_left
   . refine⟨_,rfl,a,xu,rfl,.inl (s1.seq hxq),xu.length,rfl,by omega,fun l hl=>?_⟩
     exact key _ _ ⟨l,rfl,s1.trans (Same.new hl),by rw [Ad,hxul]⟩
   rintro _ H2 ⟨l,rfl,s2,hl⟩
   refine Ax (fun σ' H'=>∃ (l:Addr) (fs:List Int) (o3 o4:Option V),σ'=[some (.ref a),some (.ref b),some (.ref l),o3,o4,none,none]/\Same H H'/\SqL K H' l (fs.map V.int)/\Mj ys ps ps fs) ?_ fun key=>?_
   rotate_left
   . refine⟨_,rfl,b,rfl,⟨_,s2.seq hbq⟩,?_⟩
     refine for_list (K:=K) (a:=b) (xs:=bu) (fun i σ G2=>∃ (l:Addr) (fs:List Int) (o3 o4:Option V),σ=[some (.ref a),some (.ref b),some (.ref l),o3,o4,none,none]/\Same H G2/\SqL K G2 l (fs.map V.int)/\Mj ys ps (ps.take i) fs)
      ⟨l,upN ys.length,_,_,rfl,s2,.of hl,Mj.start⟩ (fun i σ G2 _ ⟨_,_,_,_,_,g,_⟩=>g.seq hbq) ?_ ?_
     . rintro i x σ G2 hx ⟨l,fs,o3,o4,rfl,g,hlq,hsf⟩
       have hi:i<bu.length:=(List.getElem?_eq_some_iff.mp hx).1
       have hip:i<ps.length:=by omega
       have hix:((ps.map pr).map tI)[i]?=some (tI (pr ps[i])):=by rw [List.getElem?_map,List.getElem?_map,List.getElem?_eq_getElem hip];rfl
       obtain⟨x',hx',tx⟩:=rB.get hix
       rw [hx] at hx'
       cases hx'
       obtain⟨z1,z2,z3⟩:=hok _ (List.getElem_mem hip)
       obtain⟨ax,rfl,sqx⟩:=TI.sq tx
       have sq':SqT K H ax [.int ps[i].1,.int ps[i].2]:=sqx
       have etk:ps.take (i+1)=ps.take i++[ps[i]]:=by rw [List.take_succ,List.getElem?_eq_getElem hip];rfl
       have hin:ps[i]∈ps:=List.getElem_mem hip
       generalize ps[i]=z at z1 z2 z3 sq' etk hin
       have l4:=f4 z.1 z1
       refine⟨ax,_,rfl,g.seqT sq',rfl,_,_,rfl,_,_,rfl,rfl,?_⟩
       refine⟨_,rfl,_,rfl,_,rfl,_,rfl,a,l,ys,fs,z.1,z.2,rfl,Rep.same g hL,hlq,G,h4,hyl,hsf.lab,z1,z2,z3,by omega,(fun p q hp hq hl' w=>hsf.clo p q hp hq (by omega) w),fun E H' s' hE=>?_⟩
       refine⟨E,_,_,_,rfl,g.trans s',hE,?_⟩
       rw [etk]
       exact hsf.step G f4 z1 z2 z3 hin (fun y hy=>⟨(hok y (List.mem_of_mem_take hy)).1,(hok y (List.mem_of_mem_take hy)).2.1⟩)
     . rintro σ G2 ⟨l,fs,o3,o4,rfl,g,hlq,hsf⟩
       rw [pul,List.take_length] at hsf
       exact key _ _ ⟨l,fs,_,_,rfl,g,hlq,hsf⟩
   rintro _ H3 ⟨l,fs,o3,o4,rfl,s3,hlq,hsf⟩
   have hlab:=hsf.lab
   have hfl:=hlab.len
   have htl:a9 ys ps fs:=hsf.tells G f4 fun z hz=>⟨(hok z hz).1,(hok z hz).2.1⟩
   have hcl:=hsf.clo
   clear hsf
   refine Ax (fun σ' H'=>∃ (kp:Addr),σ'=[some (.ref a),some (.ref b),some (.ref l),o3,o4,some (.ref kp),none]/\Same H3 H'/\H' kp=some (.lst ((fixP fs).map V.int))) ?_ fun key=>?_
   rotate_left
   . refine⟨_,rfl,l,rfl,⟨_,hlq⟩,fun D hD=>?_⟩
     refine Rf (K:=K) (a:=l) (xs:=fs.map V.int) (fun i zs τ G2=>Same H3 G2/\G2 D=some (.lst zs)/\zs=(fixN fs i).map V.int/\i<=63/\∃ o1 o2,τ=[o1,o2])
      ⟨Same.new hD,Ad,rfl,by omega,none,none,rfl⟩ (fun i zs τ G2 _ ⟨g,_⟩=>g.seq hlq) ?_ ?_
     . rintro i x zs τ G2 p hx ⟨g,hDG,rfl,_,o1,o2,rfl⟩ hp
       obtain⟨hi,rfl⟩:=Hn hx
       have el:=m7 hi
       have eu:=Wb fs i
       have hlz:=T2 fs i
       rw [el] at eu
       generalize fs[i]=x at eu hp
       have gp:Same G2 (upd G2 p (.tup [.int i,.int x])):=Same.new hp
       have hp1:(upd G2 p (.tup [.int i,.int x])) p=some (.tup [.int i,.int x]):=Ad
       generalize upd G2 p (.tup [.int i,.int x])=G3 at gp hp1
       refine⟨p,_,rfl,.of hp1,rfl,_,_,rfl,_,_,rfl,rfl,?_⟩
       refine⟨_,rfl,_,rfl,rfl,_,rfl,?_⟩
       refine ite2 (fun h1=>?_) (fun h1=>?_)
       . have e:x=(i:Int):=by have:=of_decide_eq_true h1;injection this with this;exact this.symm
         refine⟨_,rfl,gp _ _ hDG,small (by rw [List.length_map];omega),(g.trans gp).turn hD,Ad,?_,by omega,_,_,rfl⟩
         rw [eu,if_pos e,List.map_append]
         rfl
       . have e:¬x=(i:Int):=fun z=>h1 (by rw [z];simp)
         refine⟨g.trans gp,gp _ _ hDG,?_,by omega,_,_,rfl⟩
         rw [eu,if_neg e,List.append_nil]
     . rintro zs τ G2 ⟨g,hDG,rfl,_,_⟩
       rw [List.length_map] at hDG
       exact key _ _ ⟨D,rfl,g,hDG⟩
   rintro _ H4 ⟨kp,rfl,s4,hkp⟩
   have hfx:(fixP fs).length<=fs.length:=T2 fs fs.length
   refine Ax (fun σ' H'=>∃ (P:Addr),σ'=[some (.ref a),some (.ref b),some (.ref l),o3,o4,some (.ref kp),some (.ref P)]/\Same H4 H'/\H4 P=none/\H' P=some (.lst ((gluP fs).map V.int))) ?_ fun key=>?_
   rotate_left
   . refine⟨_,rfl,l,rfl,⟨_,s4.seq hlq⟩,fun D hD=>?_⟩
     refine B2 (K:=K) (a:=l) (xs:=fs.map V.int) (fun i zs τ G2=>Same H4 G2/\G2 D=some (.lst zs)/\zs=((fs.take i).map (ren (fixP fs))).map V.int/\∃ o,τ=[o,some (.ref kp)])
      ⟨Same.new hD,Ad,rfl,none,rfl⟩ (fun i zs τ G2 _ ⟨g,_⟩=>(s4.trans g).seq hlq) ?_ ?_
     . rintro i x zs τ G2 hx ⟨g,hDG,hzs,o,rfl⟩
       obtain⟨hi,rfl⟩:=Hn hx
       have hmem:fs[i]∈fixP fs:=by rw [←m7 hi];exact Zu hlab ⟨by omega,by omega⟩
       have hzl:zs.length<=63:=by rw [hzs,List.length_map,List.length_map,List.length_take];omega
       refine⟨_,rfl,.inl ⟨rfl,_,.of (g _ _ hkp)⟩,_,rfl,nums (fixP fs),_,.int fs[i],(fixP fs).findIdx (·==fs[i]),rfl,⟨kp,_,rfl,.of (g _ _ hkp),Dw.mpr rfl⟩,rfl,dn _,Ky _ hmem,?_⟩
       refine⟨hDG,small (by omega),g.turn hD,Ad,?_,_,rfl⟩
       rw [List.take_succ,List.getElem?_eq_getElem hi,List.map_append,List.map_append,hzs]
       rfl
     . rintro zs τ G2 ⟨g,hDG,hzs,_⟩
       rw [List.length_map,List.take_length] at hzs
       exact key _ _ ⟨D,rfl,g,hD,by rw [hDG,hzs];rfl⟩
   rintro _ H5 ⟨P,rfl,s5,hP,hP5⟩
   have s35:=s3.trans (s4.trans s5)
   have gpl:=X9 fs
   refine⟨_,rfl,kp,rfl,⟨_,.of (s5 _ _ hkp)⟩,fun D hD=>?_⟩
   refine B2 (K:=K) (a:=kp) (xs:=(fixP fs).map V.int) (fun i ws τ G2=>Same H5 G2/\G2 D=some (.lst ws)/\Reps K G2 ws ((((fixP fs).take i).map fun p=>(fc ys p).map (lb (gluP fs))).map tI)/\∃ o,τ=[o,some (.ref P),some (.ref a)])
    ⟨Same.new hD,Ad,rfl,none,rfl⟩ (fun i ws τ G2 _ ⟨g,_⟩=>.of ((s5.trans g) _ _ hkp)) ?_ ?_
   . rintro i x ws τ G2 hx ⟨g,hDG,rG,o,rfl⟩
     obtain⟨hi,rfl⟩:=Hn hx
     have sg:=s35.trans g
     have wsl:ws.length<=i:=by have:=rG.length;rw [this,List.length_map,List.length_map,List.length_take];omega
     have hkm:=List.getElem_mem hi
     have e5:((fixP fs).take (i+1)).map (fun p=>(fc ys p).map (lb (gluP fs)))=((fixP fs).take i).map (fun p=>(fc ys p).map (lb (gluP fs)))++[(fc ys (fixP fs)[i]).map (lb (gluP fs))]:=by
      rw [List.take_succ,List.getElem?_eq_getElem hi,List.map_append]
      rfl
     generalize (fixP fs)[i]=kk at hkm e5
     have rk:InR ys kk:=by
      have hq:=(Tw.mp (show kk∈fixN fs fs.length from hkm)).1
      exact ⟨hq.1,by omega⟩
     obtain⟨xq,vx,hxq2,hvx,tvx⟩:=LT.get hL rk.1 rk.2
     have tvx':TI K H vx (fc ys kk):=tvx
     have l4:=f4 kk rk
     refine⟨_,rfl,_,rfl,_,rfl,a,xq,_,vx,rfl,rfl,sg.seq hxq2,hvx,P,vx,rfl,.inr ⟨P,vx,gluP fs,fc ys kk,rfl,.of (g _ _ hP5),TI.same sg tvx',(fun f hf=>by have:=G.rng rk hf;exact ⟨this.1,by have:=this.2;omega⟩),by omega,fun v H' s' tv=>?_⟩⟩
     refine⟨s' _ _ hDG,small (by omega),(g.trans s').turn hD,Ad,?_,_,rfl⟩
     rw [e5]
     exact D5 (s' _ _ hDG) (Reps.same s' rG) tv
   . rintro ws τ G2 ⟨g,hDG,rG,_⟩
     rw [List.length_map,List.take_length] at rG
     refine⟨_,rfl,A4 (by simp),fun R hR=>?_⟩
     have s6:Same G2 (upd G2 R (.tup [.ref D,.ref P])):=Same.new hR
     exact k1 hg _ _ ((s35.trans g).trans s6)
abbrev Cc:Stmt:=top 42
theorem Ls:FnScope ["_law_shape","_law_pairs","_law_marks","_law_e"] ["_law_shape","_law_pairs"] (Ag Cc):=⟨rfl,rfl,rfl,by decide +kernel,rfl,by decide +kernel,by decide +kernel⟩
theorem D9:(["_law_shape","_law_pairs","_law_marks","_law_e"]:List Str).Nodup:=by decide +kernel
theorem Ly {f:Addr}{fd:FuncData} (F:Fun K "_law_glue_told" "_law_glue_told" Cc f fd) (T:Txt K mg Ai Aq Az A1 Au Av Ao Ay A6 Ac As Ap A0 A5 At Ar) (Oj:HasX P w K mg base "glued" ["shape","pairs"] 7 (Kb K Ac)) (hh_L_many_kinds:HasH P w K mg base "_law_many_kinds" ["_law_e"] 1 (Hf K Ac)):FnOk P w K mg base CX0 8 f fd ["_law_shape","_law_pairs"] (E7 K):=by
 refine F.ok Ls (fun vs H Q E h=>?_) (fun Cf A outer s H vs Q E hr h=>?_)
 . obtain⟨a,b,ys,ds,rfl,hL,hB,ok,hdl,k1,k2⟩:=h
   rfl
 . obtain⟨a,b,ys,ds,rfl,hL,hB,ok,hdl,k1,k2⟩:=h
   refine⟨_,(Af (A3 (i:=2) D9 (by rfl) (by first | exact Or.inl rfl | exact Or.inr rfl) Mo)
    (Af (Yr (fun _ _=>(An (Gj (Tt Kx Oj hr (by rfl) (Aa (pv 0) (Aa (pv 1) Ae))))))
    (Yt (i:=3) D9 (by rfl) (by rfl) (by rfl) T.m_NoGlue T.k_NoGlue (fun _=>(An (A3 (i:=2) D9 (by rfl) (by first | exact Or.inl rfl | exact Or.inr rfl) (B6 (Aa (Ak (Bc (K:=K)) (by rfl) T.n_isinstance Aj (Aa (pv 3) (Aa (B7 (v:=.ref Ai) (by rfl) T.m_HoleError rfl) Ae))) (Aa (Ak (Bc (K:=K)) (by rfl) T.n_isinstance Aj (Aa (pv 3) (Aa (Ki (v:=.ty "ValueError") rfl T.n_ValueError Ev rfl) Ae))) (Aa (Tu hh_L_many_kinds rfl hr.n (by rfl) (Aa (pv 3) Ae)) Ae)))))))
    Vm))
    (An (Bj (pv 2))))),?_⟩
   refine⟨_,rfl,_,rfl,a,b,ys,ds,rfl,hL,hB,ok,hdl,fun hg u H1 s1=>?_,fun hg H1 s1=>?_⟩
   . exact ⟨_,rfl,k1 hg H1 s1⟩
   . refine⟨Ac,true,rfl,T.s_NoGlue_NoGlue,?_⟩
     refine ifP rfl fun x hx=>?_
     have s2:Same H1 (upd H1 x (excX x (.ref Ac) none)):=Same.new hx
     have hxx:upd H1 x (excX x (.ref Ac) none) x=some (excX x (.ref Ac) none):=Ad
     generalize upd H1 x (excX x (.ref Ac) none)=H2 at s2 hxx ⊢
     refine⟨_,rfl,x,Ac,_,_,_,rfl,rfl,Bs,hxx,T.x_NoGlue,T.i_NoGlue_HoleError,_,rfl,x,Ac,_,_,_,rfl,rfl,U9,hxx,T.x_NoGlue,T.iv_NoGlue,_,rfl,rfl,hxx,fun H3 s3=>?_⟩
     refine⟨A4 (by simp),fun p hp=>?_⟩
     exact ⟨_,rfl,k2 hg p _ (((s1.trans s2).trans s3).trans (Same.new hp)) Ad⟩
abbrev Lu:Stmt:=top 45
theorem d8:FnScope ["_law_script","_law_many","_law_most","_law_shape","_law_pairs","_law_spots","_law_cut","_law_bad_pairs","_law_bad_spots","_law_handed","_law_turn"] ["_law_script"] (Ag Lu):=⟨rfl,rfl,rfl,by decide +kernel,rfl,by decide +kernel,by decide +kernel⟩
theorem Fc:(["_law_script","_law_many","_law_most","_law_shape","_law_pairs","_law_spots","_law_cut","_law_bad_pairs","_law_bad_spots","_law_handed","_law_turn"]:List Str).Nodup:=by decide +kernel
theorem j4 {f:Addr}{fd:FuncData} (F:Fun K "law" "law" Lu f fd) (T:Txt K mg Ai Aq Az A1 Au Av Ao Ay A6 Ac As Ap A0 A5 At Ar) (Fg:Has P w K mg base "_law_shape_by" ["_law_kind","_law_cells","_law_most"] 3 (El K)) (Fh:Has P w K mg base "_law_pairs_by" ["_law_shape","_law_cells"] 1 (Em K)) (B9:Has P w K mg base "_law_cell_at" ["_law_script","_law_k"] 1 (E9 K)) (Dm:Has P w K mg base "_law_part_told" ["_law_shape","_law_spots"] 4 (E6 K)) (Dn:Has P w K mg base "_law_glue_told" ["_law_shape","_law_pairs"] 8 (E7 K)) (Gq:Has P w K mg base "_law_no_pair" ["_law_shape","_law_cell"] 2 (Ii K)) (Ct:Has P w K mg base "_law_no_place" ["_law_shape","_law_cell"] 1 (Ek K)):FnOk P w K mg base CX0 9 f fd ["_law_script"] (Tn K):=by
 refine F.ok d8 (fun vs H Q E h=>?_) (fun Cf A outer s H vs Q E hr h=>?_)
 . obtain⟨a,ns,rfl,hS,hl,k⟩:=h
   rfl
 . obtain⟨a,ns,rfl,hS,hl,k⟩:=h
   have hu8:(A.deeper (PyProof.Rows.envOfC "law" (Ag Lu) s.heap.objs.size f Cf)).units+8<cLine:=by have:=hr.units;omega
   refine⟨_,(Af (A3 (i:=1) Fc (by rfl) (by first | exact Or.inl rfl | exact Or.inr rfl) (Bh Ee Am (Bh Cs (A2 B9 hr (by rfl) (Aa (pv 0) (Aa Am Ae))) Am)))
    (Af (A3 (i:=2) Fc (by rfl) (by first | exact Or.inl rfl | exact Or.inr rfl) Am)
    (Af (C2 (Bb Hi (Bh Cs (Bh D7 (A2 B9 hr (by rfl) (Aa (pv 0) (Aa Am Ae))) Am) Am) Am (Bp _)) (An (A3 (i:=2) Fc (by rfl) (by first | exact Or.inl rfl | exact Or.inr rfl) Am)) Bk)
    (Af (A3 (i:=3) Fc (by rfl) (by first | exact Or.inl rfl | exact Or.inr rfl) (A2 Fg hr (by rfl) (Aa (A2 B9 hr (by rfl) (Aa (pv 0) (Aa Am Ae))) (Aa (Ci (Fs (K:=K)) (pv 0) (Cv Am) (Cv (Bh Ee Am (pv 1)))) (Aa (pv 2) Ae)))))
    (Af (A3 (i:=4) Fc (by rfl) (by first | exact Or.inl rfl | exact Or.inr rfl) (A2 Fh hr (by rfl) (Aa (pv 3) (Aa (Ci (Fs (K:=K)) (pv 0) (Cv (Bh Ee Am (pv 1))) (Cv (Bh Ee Am (pv 1)))) Ae))))
    (Af (Nn (N':=["_law_pair"]) (cap:=[none]) (i:=5) Fc (by rfl) (by first | exact Or.inl rfl | exact Or.inr rfl) (by rfl) (by kernel_rfl) (Bx (K:=K) (pv 4)) (fun _ _ _ _=>(Ba (i:=0) j9 (by rfl) (by first | exact Or.inl rfl | exact Or.inr rfl))) (fun _ _ _ _=>Cl) (fun _ _ _ _=>(B4 (Ja (K:=K)) (pv 0) Am (fun _ _=>rfl))))
    (Af (A3 (i:=6) Fc (by rfl) (by first | exact Or.inl rfl | exact Or.inr rfl) (Bh Cs (A2 B9 hr (by rfl) (Aa (pv 0) (Aa Am Ae))) (Bh Ee (Ak (Al (K:=K)) (by rfl) T.n_len PySem.boot_len (Aa (pv 4) Ae)) Am)))
    (Af (A3 (i:=7) Fc (by rfl) (by first | exact Or.inl rfl | exact Or.inr rfl) (Bh (Df (K:=K)) (Bh (Df (K:=K)) (Ci (Fs (K:=K)) (pv 4) D6 (Cv (pv 6))) (Ch (Aa (A2 Gq hr (by rfl) (Aa (pv 3) (Aa (A2 B9 hr (by rfl) (Aa (pv 0) (Aa Am Ae))) Ae))) Ae))) (Ci (Fs (K:=K)) (pv 4) (Cv (pv 6)) D6)))
    (Af (A3 (i:=8) Fc (by rfl) (by first | exact Or.inl rfl | exact Or.inr rfl) (Bh (Df (K:=K)) (Bh (Df (K:=K)) (Ci (Fs (K:=K)) (pv 5) D6 (Cv (pv 6))) (Ch (Aa (A2 Ct hr (by rfl) (Aa (pv 3) (Aa (A2 B9 hr (by rfl) (Aa (pv 0) (Aa Am Ae))) Ae))) Ae))) (Ci (Fs (K:=K)) (pv 5) (Cv (pv 6)) D6)))
    (Af (A3 (i:=9) Fc (by rfl) (by first | exact Or.inl rfl | exact Or.inr rfl) (Ch (Aa (B8 (Cd (K:=K)) (by rfl) T.n_list Dc (Aa (pv 3) Ae)) (Aa (B8 (Cd (K:=K)) (by rfl) T.n_list Dc (Aa (pv 4) Ae)) (Aa (B8 (Cd (K:=K)) (by rfl) T.n_list Dc (Aa (pv 5) Ae)) (Aa (B8 (Cd (K:=K)) (by rfl) T.n_list Dc (Aa (pv 7) Ae)) (Aa (B8 (Cd (K:=K)) (by rfl) T.n_list Dc (Aa (pv 8) Ae)) Ae)))))))
    (Af (Ed PassesOwn.never rfl (Dx (by rfl) T.n_range (Aa Am Ae)) (Ba (i:=10) Fc (by rfl) (by first | exact Or.inl rfl | exact Or.inr rfl)) (Af (C2 (Bb Vs (A2 Dm hr (by rfl) (Aa (B4 (A8 (K:=K)) (pv 9) Am (fun _ _=>rfl)) (Aa (B4 (A8 (K:=K)) (pv 9) Am (fun _ _=>rfl)) Ae))) Mo (Bp _)) (An (Bj J5)) Bk)
    (Af (C2 (Bb Vs (A2 Dn hr (by rfl) (Aa (B4 (A8 (K:=K)) (pv 9) Am (fun _ _=>rfl)) (Aa (B4 (A8 (K:=K)) (pv 9) Am (fun _ _=>rfl)) Ae))) Mo (Bp _)) (An (Bj J5)) Bk)
    (Af (C2 (Bb (V2 (K:=K) hu8) (A2 Dm hr (by rfl) (Aa (B4 (A8 (K:=K)) (pv 9) Am (fun _ _=>rfl)) (Aa (B4 (A8 (K:=K)) (pv 9) Am (fun _ _=>rfl)) Ae))) (B6 (Aa J5 (Aa J5 (Aa Am Ae)))) (Bp _)) (An (Bj J5)) Bk)
    (An (C2 (Bb (V2 (K:=K) hu8) (A2 Dn hr (by rfl) (Aa (B4 (A8 (K:=K)) (pv 9) Am (fun _ _=>rfl)) (Aa (B4 (A8 (K:=K)) (pv 9) Am (fun _ _=>rfl)) Ae))) (B6 (Aa J5 (Aa J5 (Aa Am Ae)))) (Bp _)) (An (Bj J5)) Bk))))))
    (An (Bj (Vq (Zv (K:=K) hu8) (pv 9) (Ch (Aa (pv 3) (Aa (pv 4) (Aa (pv 5) (Aa (pv 7) (Aa (pv 8) Ae)))))) (Bp _))))))))))))))),?_⟩
   refine Ax (fun σ' H'=>∃ many:Int,σ'=[some (.ref a),some (.int many),none,none,none,none,none,none,none,none,none]/\H=H'/\0<=many/\many<=40) ?_ fun key=>?_
   rotate_left
   . refine⟨_,rfl,a,ns,1,rfl,hS,by decide,hl,_,_,rfl,rfl,(by show (0:Int)<20;decide),_,_,rfl,rfl,?_⟩
     have q0:0<=Hw ns 1%20:=Int.emod_nonneg _ (by decide)
     have q1:Hw ns 1%20<20:=Int.emod_lt_of_pos _ (by decide)
     exact key _ _ ⟨_,rfl,rfl,by omega,by omega⟩
   rintro _ _ ⟨many,rfl,rfl,hmn0,hmn1⟩
   refine Ka (fun σ' H'=>σ'=[some (.ref a),some (.int many),some (.int 14),none,none,none,none,none,none,none,none]/\H=H') ?_ fun key0=>key0 _ _ ⟨rfl,rfl⟩
   rintro _ _ ⟨rfl,rfl⟩
   refine Ax (fun σ' H'=>∃ most:Int,σ'=[some (.ref a),some (.int many),some (.int most),none,none,none,none,none,none,none,none]/\H=H'/\0<=most/\most<=40) ?_ fun key=>?_
   rotate_left
   . refine⟨_,rfl,a,ns,1,rfl,hS,by decide,hl,_,_,rfl,rfl,⟨by decide,by decide⟩,_,_,rfl,rfl,(by show (0:Int)<4;decide),rfl,_,rfl,?_⟩
     exact ite2 (fun _=>key _ _ ⟨40,rfl,rfl,by decide,by decide⟩) (fun _=>key _ _ ⟨14,rfl,rfl,by decide,by decide⟩)
   rintro _ _ ⟨most,rfl,rfl,hm0,hm1⟩
   refine Ax (fun σ' H'=>∃ (p:Addr) (us:List V) (ys:List (List Int)),σ'=[some (.ref a),some (.int many),some (.int most),some (.ref p),none,none,none,none,none,none,none]/\Same H H'/\H' p=some (.lst us)/\Reps K H' us (ys.map tI)/\ShOk ys) ?_ fun key=>?_
   rotate_left
   . refine⟨_,rfl,a,ns,0,rfl,hS,by decide,hl,_,rfl,_,rfl,_,rfl,_,_,rfl,rfl,_,rfl,a,_,rfl,hS,fun C hC=>?_⟩
     have sC:Same H (upd H C (.lst (cutV (ns.map V.int) (some 4) (some (4+many))))):=Same.new hC
     have hcl:=T6 ns (some 4) (some (4+many))
     refine⟨_,rfl,C,cutS ns (some 4) (some (4+many)),_,most,rfl,?_,by omega,hm0,by omega,fun p us H' xs hp s' hp' r' hsh hxl=>?_⟩
     . rw [←T5]
       exact .of Ad
     . exact key _ _ ⟨p,us,xs,rfl,sC.trans s',hp',r',hsh,by omega⟩
   rintro _ H1 ⟨p,us,ys,rfl,s1,h1p,r1,ok⟩
   have hle40:=ok.le
   have l1:LT K H1 (.ref p) ys:=⟨p,us,rfl,.of h1p,r1⟩
   refine Ax (fun σ' H'=>∃ (l:Addr) (pu:List V) (ps:List (Int × Int)),σ'=[some (.ref a),some (.int many),some (.int most),some (.ref p),some (.ref l),none,none,none,none,none,none]/\Same H1 H'/\H' l=some (.lst pu)/\Reps K H' pu ((ps.map pr).map tI)/\ps.length<=63/\O4 ys ps) ?_ fun key=>?_
   rotate_left
   . refine⟨_,rfl,_,rfl,_,rfl,_,_,rfl,rfl,_,rfl,_,rfl,_,_,rfl,rfl,_,rfl,a,_,rfl,s1.seq hS,fun C hC=>?_⟩
     have sC:Same H1 (upd H1 C (.lst (cutV (ns.map V.int) (some (4+many)) (some (8+many))))):=Same.new hC
     have hcl:=T6 ns (some (4+many)) (some (8+many))
     refine⟨p,C,ys,cutS ns (some (4+many)) (some (8+many)),rfl,Rep.same sC l1,?_,by omega,by omega,fun D pu ps H' s' hD h' r' hle hok=>?_⟩
     . rw [←T5]
       exact .of Ad
     . exact key _ _ ⟨D,pu,ps,rfl,sC.trans s',h',r',hle,hok⟩
   rintro _ H2 ⟨l,pu,ps,rfl,s2,h2l,r2,hps,hok⟩
   have pul:pu.length=ps.length:=by have:=r2.length;simpa using this
   refine Ax (fun σ' H'=>∃ (q:Addr),σ'=[some (.ref a),some (.int many),some (.int most),some (.ref p),some (.ref l),some (.ref q),none,none,none,none,none]/\Same H2 H'/\H' q=some (.lst ((ps.map (·.1)).map V.int))) ?_ fun key=>?_
   rotate_left
   . refine⟨_,rfl,l,rfl,⟨_,.of h2l⟩,fun D hD=>?_⟩
     refine B2 (K:=K) (a:=l) (xs:=pu) (fun i zs τ G=>Same H2 G/\G D=some (.lst zs)/\zs=(((ps.take i).map (·.1)).map V.int)/\∃ o,τ=[o])
      ⟨Same.new hD,Ad,rfl,none,rfl⟩ (fun i zs τ G _ ⟨g,_⟩=>.of (g _ _ h2l)) ?_ ?_
     . rintro i x zs τ G hx ⟨g,hDG,rfl,o,rfl⟩
       have hi:i<pu.length:=(List.getElem?_eq_some_iff.mp hx).1
       have hip:i<ps.length:=by omega
       have hix:((ps.map pr).map tI)[i]?=some (tI (pr ps[i])):=by rw [List.getElem?_map,List.getElem?_map,List.getElem?_eq_getElem hip];rfl
       obtain⟨x',hx',tx⟩:=r2.get hix
       rw [hx] at hx'
       cases hx'
       obtain⟨ax,rfl,sqx⟩:=TI.sq tx
       have sq':SqT K H2 ax [.int ps[i].1,.int ps[i].2]:=sqx
       refine⟨_,rfl,ax,_,_,_,rfl,rfl,g.seqT sq',fst0 _ _,hDG,small (by simp;omega),g.turn hD,Ad,?_,_,rfl⟩
       rw [List.take_add_one,List.getElem?_eq_getElem hip,List.map_append,List.map_append]
       rfl
     . rintro zs τ G ⟨g,hDG,rfl,_⟩
       rw [pul,List.take_length] at hDG
       exact key _ _ ⟨D,rfl,g,hDG⟩
   rintro _ H3 ⟨q,rfl,s3,h3q⟩
   have s13:=s2.trans s3
   have s03:=s1.trans s13
   refine Ax (fun σ' H'=>∃ (kc:Nat),σ'=[some (.ref a),some (.int many),some (.int most),some (.ref p),some (.ref l),some (.ref q),some (.int (kc:Int)),none,none,none,none]/\H3=H') ?_ fun key=>?_
   rotate_left
   . refine⟨_,rfl,a,ns,3,rfl,s03.seq hS,by decide,hl,_,rfl,l,pu,rfl,.inl (.of (s3 _ _ h2l)),_,_,rfl,rfl,_,_,rfl,rfl,(by show (0:Int)<(pu.length:Int)+1;omega),?_⟩
     have m0:=Int.emod_nonneg (Hw ns 3) (b:=(pu.length:Int)+1) (by omega)
     exact key _ _ ⟨(Hw ns 3%((pu.length:Int)+1)).toNat,by rw [Int.toNat_of_nonneg m0];rfl,rfl⟩
   rintro _ _ ⟨kc,rfl,rfl⟩
   have good1:C0 ys (nums (ps.map (·.1)))=true:=by
    unfold C0 nums
    rw [List.map_map,List.all_map,List.all_eq_true]
    intro z hz
    obtain⟨z1,_,_⟩:=hok z hz
    show (decide (0<=z.1)&&decide (z.1<(ys.length:Int)))=true
    simp [z1.1,z1.2]
   have good2:C1 ys ((ps.map pr).map tI)=true:=by
    unfold C1
    rw [List.map_map,List.all_map,List.all_eq_true]
    intro z hz
    obtain⟨z1,z2,z3⟩:=hok z hz
    exact p9 z1 z2 z3
   have rP3:Reps K H3 pu ((ps.map pr).map tI):=Reps.same s3 r2
   have pl3:=s3 _ _ h2l
   have dpl:((ps.map pr).map tI).length=ps.length:=by simp
   refine Ax (fun σ' H'=>∃ (bp:Addr) (bu:List V) (d:L2.D),σ'=[some (.ref a),some (.int many),some (.int most),some (.ref p),some (.ref l),some (.ref q),some (.int (kc:Int)),some (.ref bp),none,none,none]/\Same H3 H'/\H' bp=some (.lst bu)/\Reps K H' bu (((ps.map pr).map tI).take kc++[d]++((ps.map pr).map tI).drop kc)/\gluD ys d=false/\dep d<=4) ?_ fun key=>?_
   rotate_left
   . refine⟨_,rfl,_,rfl,_,rfl,l,pu,rfl,.of pl3,fun b1 h1=>?_⟩
     rw [Hu]
     have t1:Same H3 (upd H3 b1 (.lst (pu.take kc))):=Same.new h1
     have g1:upd H3 b1 (.lst (pu.take kc)) b1=some (.lst (pu.take kc)):=Ad
     generalize upd H3 b1 (.lst (pu.take kc))=G1 at t1 g1 ⊢
     have c1:=s03.trans t1
     refine⟨_,rfl,_,rfl,a,ns,2,rfl,c1.seq hS,by decide,hl,p,ys,_,rfl,Rep.same (s13.trans t1) l1,ok,fun v d G2 t2 rv hg hd=>?_⟩
     refine⟨A4 (by simp),fun b2 h2=>?_⟩
     have t3:Same G2 (upd G2 b2 (.lst [v])):=Same.new h2
     have g3:upd G2 b2 (.lst [v]) b2=some (.lst [v]):=Ad
     generalize upd G2 b2 (.lst [v])=G3 at t3 g3 ⊢
     refine⟨b1,b2,_,_,rfl,rfl,.of (t3 _ _ (t2 _ _ g1)),.of g3,A4 (by rw [List.length_take];simp;omega),fun b3 h3=>?_⟩
     have t4:Same G3 (upd G3 b3 (.lst (pu.take kc++[v]))):=Same.new h3
     have g4:upd G3 b3 (.lst (pu.take kc++[v])) b3=some (.lst (pu.take kc++[v])):=Ad
     generalize upd G3 b3 (.lst (pu.take kc++[v]))=G4 at t4 g4 ⊢
     have w4:=((t1.trans t2).trans t3).trans t4
     refine⟨_,rfl,_,rfl,_,rfl,l,pu,rfl,.of (w4 _ _ pl3),fun b4 h4=>?_⟩
     rw [Hv]
     have t5:Same G4 (upd G4 b4 (.lst (pu.drop kc))):=Same.new h4
     have g5:upd G4 b4 (.lst (pu.drop kc)) b4=some (.lst (pu.drop kc)):=Ad
     generalize upd G4 b4 (.lst (pu.drop kc))=G5 at t5 g5 ⊢
     refine⟨b3,b4,_,_,rfl,rfl,.of (t5 _ _ g4),.of g5,A4 (by rw [List.length_append,List.length_take,List.length_drop];simp;omega),fun b5 h5=>?_⟩
     have t6:Same G5 (upd G5 b5 (.lst (pu.take kc++[v]++pu.drop kc))):=Same.new h5
     have w6:=(w4.trans t5).trans t6
     refine key _ _ ⟨b5,_,d,rfl,w6,Ad,?_,hg,hd⟩
     have w2:=((t3.trans t4).trans t5).trans t6
     exact Reps.app (Reps.app ((Reps.same w6 rP3).take kc) ⟨v,[],rfl,Rep.same w2 rv,rfl⟩) (Reps.dropN kc (Reps.same w6 rP3))
   rintro _ H4 ⟨bp,bpu,d,rfl,s4,h4b,r4,hgd,hdd⟩
   have s34:=s03.trans s4
   have s14:=s13.trans s4
   have q4:=s4 _ _ h3q
   have qr:∀{G:Hp},Reps K G ((ps.map (·.1)).map V.int) (nums (ps.map (·.1))):=fun {G}=>Dw.mpr rfl
   refine Ax (fun σ' H'=>∃ (bs:Addr) (bu:List V) (d':L2.D),σ'=[some (.ref a),some (.int many),some (.int most),some (.ref p),some (.ref l),some (.ref q),some (.int (kc:Int)),some (.ref bp),some (.ref bs),none,none]/\Same H4 H'/\H' bs=some (.lst bu)/\Reps K H' bu ((nums (ps.map (·.1))).take kc++[d']++(nums (ps.map (·.1))).drop kc)/\Ca d' (ys.length:Int)=false/\dep d'<=2) ?_ fun key=>?_
   rotate_left
   . refine⟨_,rfl,_,rfl,_,rfl,q,_,rfl,.of q4,fun b1 h1=>?_⟩
     rw [Hu]
     generalize hpu:(ps.map (·.1)).map V.int=pu at q4 h1 qr ⊢
     have pll:pu.length=ps.length:=by rw [←hpu];simp
     have t1:Same H4 (upd H4 b1 (.lst (pu.take kc))):=Same.new h1
     have g1:upd H4 b1 (.lst (pu.take kc)) b1=some (.lst (pu.take kc)):=Ad
     generalize upd H4 b1 (.lst (pu.take kc))=G1 at t1 g1 ⊢
     refine⟨_,rfl,_,rfl,a,ns,2,rfl,(s34.trans t1).seq hS,by decide,hl,p,ys,_,rfl,Rep.same (s14.trans t1) l1,hle40,fun v d G2 t2 rv hb hg hd=>?_⟩
     refine⟨A4 (by simp),fun b2 h2=>?_⟩
     have t3:Same G2 (upd G2 b2 (.lst [v])):=Same.new h2
     have g3:upd G2 b2 (.lst [v]) b2=some (.lst [v]):=Ad
     generalize upd G2 b2 (.lst [v])=G3 at t3 g3 ⊢
     refine⟨b1,b2,_,_,rfl,rfl,.of (t3 _ _ (t2 _ _ g1)),.of g3,A4 (by rw [List.length_take];simp;omega),fun b3 h3=>?_⟩
     have t4:Same G3 (upd G3 b3 (.lst (pu.take kc++[v]))):=Same.new h3
     have g4:upd G3 b3 (.lst (pu.take kc++[v])) b3=some (.lst (pu.take kc++[v])):=Ad
     generalize upd G3 b3 (.lst (pu.take kc++[v]))=G4 at t4 g4 ⊢
     have w4:=((t1.trans t2).trans t3).trans t4
     refine⟨_,rfl,_,rfl,_,rfl,q,pu,rfl,.of (w4 _ _ q4),fun b4 h4=>?_⟩
     rw [Hv]
     have t5:Same G4 (upd G4 b4 (.lst (pu.drop kc))):=Same.new h4
     have g5:upd G4 b4 (.lst (pu.drop kc)) b4=some (.lst (pu.drop kc)):=Ad
     generalize upd G4 b4 (.lst (pu.drop kc))=G5 at t5 g5 ⊢
     refine⟨b3,b4,_,_,rfl,rfl,.of (t5 _ _ g4),.of g5,A4 (by rw [List.length_append,List.length_take,List.length_drop];simp;omega),fun b5 h5=>?_⟩
     have t6:Same G5 (upd G5 b5 (.lst (pu.take kc++[v]++pu.drop kc))):=Same.new h5
     have w6:=(w4.trans t5).trans t6
     refine key _ _ ⟨b5,_,d,rfl,w6,Ad,?_,hb,hd⟩
     have w2:=((t3.trans t4).trans t5).trans t6
     exact Reps.app (Reps.app (qr.take kc) ⟨v,[],rfl,Rep.same w2 rv,rfl⟩) (Reps.dropN kc qr)
   rintro _ H5 ⟨bs,bsu,d',rfl,s5,h5b,r5,hbd,hdd'⟩
   have bad1:C0 ys ((nums (ps.map (·.1))).take kc++[d']++(nums (ps.map (·.1))).drop kc)=false:=Xc hbd
   have bad2:C1 ys (((ps.map pr).map tI).take kc++[d]++((ps.map pr).map tI).drop kc)=false:=Xc hgd
   have nl1:(nums (ps.map (·.1))).length=ps.length:=by simp [nums]
   have bl1:((nums (ps.map (·.1))).take kc++[d']++(nums (ps.map (·.1))).drop kc).length<=70:=by
    rw [List.length_append,List.length_append,List.length_take,List.length_drop,nl1]
    simp
    omega
   have bl2:(((ps.map pr).map tI).take kc++[d]++((ps.map pr).map tI).drop kc).length<=70:=by
    rw [List.length_append,List.length_append,List.length_take,List.length_drop,dpl]
    simp
    omega
   have e1:dep (.lst (ys.map tI))<=5:=Nat.le_trans (Ji (n:=2) fun x hx=>by obtain⟨z,_,rfl⟩:=List.mem_map.mp hx;exact T4 z) (by decide)
   have e2:dep (.lst ((ps.map pr).map tI))<=5:=Nat.le_trans (Ji (n:=2) fun x hx=>by obtain⟨z,_,rfl⟩:=List.mem_map.mp hx;exact T4 z) (by decide)
   have e3:dep (.lst (nums (ps.map (·.1))))<=5:=Nat.le_trans (Ji (n:=2) fun x hx=>by obtain⟨z,_,rfl⟩:=List.mem_map.mp hx;simp [dep]) (by decide)
   have e4:dep (.lst (((ps.map pr).map tI).take kc++[d]++((ps.map pr).map tI).drop kc))<=5:=Ji (n:=4) fun x hx=>by
    rcases List.mem_append.mp hx with z | z
    . rcases List.mem_append.mp z with z | z
      . obtain⟨y,_,rfl⟩:=List.mem_map.mp (List.mem_of_mem_take z)
        exact Nat.le_trans (T4 y) (by decide)
      . rw [List.mem_singleton.mp z];exact hdd
    . obtain⟨y,_,rfl⟩:=List.mem_map.mp (List.mem_of_mem_drop z)
      exact Nat.le_trans (T4 y) (by decide)
   have e5:dep (.lst ((nums (ps.map (·.1))).take kc++[d']++(nums (ps.map (·.1))).drop kc))<=5:=Ji (n:=4) fun x hx=>by
    rcases List.mem_append.mp hx with z | z
    . rcases List.mem_append.mp z with z | z
      . obtain⟨y,_,rfl⟩:=List.mem_map.mp (List.mem_of_mem_take z)
        simp [dep]
      . rw [List.mem_singleton.mp z];omega
    . obtain⟨y,_,rfl⟩:=List.mem_map.mp (List.mem_of_mem_drop z)
      simp [dep]
   have p5:=(s14.trans s5) _ _ h1p
   have l5:=(s4.trans s5) _ _ pl3
   have q5:=s5 _ _ q4
   have b5:=s5 _ _ h4b
   have R1:Reps K H5 us (ys.map tI):=Reps.same (s14.trans s5) r1
   have R2:Reps K H5 pu ((ps.map pr).map tI):=Reps.same (s4.trans s5) rP3
   have R4:Reps K H5 bpu (((ps.map pr).map tI).take kc++[d]++((ps.map pr).map tI).drop kc):=Reps.same s5 r4
   clear rP3 r1 r2 r4 h1p h2l h3q h4b pl3 q4
   generalize hE1:ys.map tI=E1 at R1 e1
   generalize hE2:(ps.map pr).map tI=E2 at R2 R4 good2 bad2 bl2 e2 e4 dpl
   generalize hE3:nums (ps.map (·.1))=E3 at r5 good1 bad1 bl1 e3 e5 qr nl1
   generalize hE4:E2.take kc++[d]++E2.drop kc=E4 at R4 bad2 bl2 e4
   generalize hE5:E3.take kc++[d']++E3.drop kc=E5 at r5 bad1 bl1 e5
   generalize hqu:(ps.map (·.1)).map V.int=qu at q5 qr
   refine Ax (fun σ' H'=>∃ (hd c1 c2 c3 c4 c5:Addr),σ'=[some (.ref a),some (.int many),some (.int most),some (.ref p),some (.ref l),some (.ref q),some (.int (kc:Int)),some (.ref bp),some (.ref bs),some (.ref hd),none]/\Same H5 H'/\H' hd=some (.lst [.ref c1,.ref c2,.ref c3,.ref c4,.ref c5])/\H' c1=some (.lst us)/\H' c2=some (.lst pu)/\H' c3=some (.lst qu)/\H' c4=some (.lst bpu)/\H' c5=some (.lst bsu)) ?_ fun key=>?_
   rotate_left
   . refine⟨_,rfl,p,us,rfl,.inl (.of p5),fun c1 hc1=>?_⟩
     have t1:Same H5 (upd H5 c1 (.lst us)):=Same.new hc1
     have g1:upd H5 c1 (.lst us) c1=some (.lst us):=Ad
     generalize upd H5 c1 (.lst us)=G1 at t1 g1 ⊢
     refine⟨_,rfl,l,pu,rfl,.inl (.of (t1 _ _ l5)),fun c2 hc2=>?_⟩
     have t2:Same G1 (upd G1 c2 (.lst pu)):=Same.new hc2
     have g2:upd G1 c2 (.lst pu) c2=some (.lst pu):=Ad
     generalize upd G1 c2 (.lst pu)=G2 at t2 g2 ⊢
     refine⟨_,rfl,q,qu,rfl,.inl (.of (t2 _ _ (t1 _ _ q5))),fun c3 hc3=>?_⟩
     have t3:Same G2 (upd G2 c3 (.lst qu)):=Same.new hc3
     have g3:upd G2 c3 (.lst qu) c3=some (.lst qu):=Ad
     generalize upd G2 c3 (.lst qu)=G3 at t3 g3 ⊢
     refine⟨_,rfl,bp,bpu,rfl,.inl (.of (t3 _ _ (t2 _ _ (t1 _ _ b5)))),fun c4 hc4=>?_⟩
     have t4:Same G3 (upd G3 c4 (.lst bpu)):=Same.new hc4
     have g4:upd G3 c4 (.lst bpu) c4=some (.lst bpu):=Ad
     generalize upd G3 c4 (.lst bpu)=G4 at t4 g4 ⊢
     refine⟨_,rfl,bs,bsu,rfl,.inl (.of (t4 _ _ (t3 _ _ (t2 _ _ (t1 _ _ h5b))))),fun c5 hc5=>?_⟩
     have t5:Same G4 (upd G4 c5 (.lst bsu)):=Same.new hc5
     have g5:upd G4 c5 (.lst bsu) c5=some (.lst bsu):=Ad
     generalize upd G4 c5 (.lst bsu)=G5 at t5 g5 ⊢
     refine⟨A4 (by simp),fun hd hhd=>?_⟩
     have t6:Same G5 (upd G5 hd (.lst [.ref c1,.ref c2,.ref c3,.ref c4,.ref c5])):=Same.new hhd
     have v4:=t5.trans t6
     have v3:=t4.trans v4
     have v2:=t3.trans v3
     have v1:=t2.trans v2
     exact key _ _ ⟨hd,c1,c2,c3,c4,c5,rfl,t1.trans v1,Ad,v1 _ _ g1,v2 _ _ g2,v3 _ _ g3,v4 _ _ g4,t6 _ _ g5⟩
   rintro _ H6 ⟨hd,c1,c2,c3,c4,c5,rfl,s6,hh,k1,k2,k3,k4,k5⟩
   have at_:∀{G:Hp},Same H6 G->SqL K G hd [.ref c1,.ref c2,.ref c3,.ref c4,.ref c5]:=fun {G} s=>.of (s _ _ hh)
   have L1:∀{G:Hp},Same H6 G->LT K G (.ref c1) ys:=fun {G} s=>⟨c1,us,rfl,.of (s _ _ k1),by rw [hE1];exact Reps.same (s6.trans s) R1⟩
   have W1:∀{G:Hp},Same H6 G->Rep K G (.ref c1) (.lst E1):=fun {G} s=>⟨c1,us,rfl,.of (s _ _ k1),Reps.same (s6.trans s) R1⟩
   have W2:∀{G:Hp},Same H6 G->Rep K G (.ref c2) (.lst E2):=fun {G} s=>⟨c2,pu,rfl,.of (s _ _ k2),Reps.same (s6.trans s) R2⟩
   have W3:∀{G:Hp},Same H6 G->Rep K G (.ref c3) (.lst E3):=fun {G} s=>⟨c3,qu,rfl,.of (s _ _ k3),qr⟩
   have W4:∀{G:Hp},Same H6 G->Rep K G (.ref c4) (.lst E4):=fun {G} s=>⟨c4,bpu,rfl,.of (s _ _ k4),Reps.same (s6.trans s) R4⟩
   have W5:∀{G:Hp},Same H6 G->Rep K G (.ref c5) (.lst E5):=fun {G} s=>⟨c5,bsu,rfl,.of (s _ _ k5),Reps.same (s6.trans s) r5⟩
   have i0:atI ([.ref c1,.ref c2,.ref c3,.ref c4,.ref c5]:List V) 0=some (.ref c1):=Bg (j:=0) rfl
   have i1:atI ([.ref c1,.ref c2,.ref c3,.ref c4,.ref c5]:List V) 1=some (.ref c2):=Bg (j:=1) rfl
   have i2:atI ([.ref c1,.ref c2,.ref c3,.ref c4,.ref c5]:List V) 2=some (.ref c3):=Bg (j:=2) rfl
   have i3:atI ([.ref c1,.ref c2,.ref c3,.ref c4,.ref c5]:List V) 3=some (.ref c4):=Bg (j:=3) rfl
   have i4:atI ([.ref c1,.ref c2,.ref c3,.ref c4,.ref c5]:List V) 4=some (.ref c5):=Bg (j:=4) rfl
   have yes:∀{G:Hp}{t:Addr},G t=some (.tup [.bl true,.bl true,.int 1])->Rep K G (.ref t) (.tup [.bl true,.bl true,.int 1]):=fun {G t} h=>⟨t,_,rfl,.of h,⟨_,_,rfl,rfl,⟨_,_,rfl,rfl,⟨_,_,rfl,rfl,rfl⟩⟩⟩⟩
   refine Ax (fun σ' H'=>∃ o,σ'=[some (.ref a),some (.int many),some (.int most),some (.ref p),some (.ref l),some (.ref q),some (.int (kc:Int)),some (.ref bp),some (.ref bs),some (.ref hd),o]/\Same H6 H') ?_ fun key=>?_
   rotate_left
   . refine⟨2,rfl,by decide,by decide,?_⟩
     refine Dz (lo:=0) (n:=((2:Int)).toNat) (fun i σ G=>∃ o,σ=[some (.ref a),some (.int many),some (.int most),some (.ref p),some (.ref l),some (.ref q),some (.int (kc:Int)),some (.ref bp),some (.ref bs),some (.ref hd),o]/\Same H6 G) ⟨none,rfl,Same.refl H6⟩ ?_ ?_
     . rintro i σ G hi ⟨o,rfl,g⟩
       refine Ax (fun σ' H'=>σ'=[some (.ref a),some (.int many),some (.int most),some (.ref p),some (.ref l),some (.ref q),some (.int (kc:Int)),some (.ref bp),some (.ref bs),some (.ref hd),some (.int (0+(i:Int)))]/\Same H6 H') ?_ fun key2=>?_
       rotate_left
       . refine⟨_,rfl,hd,_,_,_,rfl,rfl,at_ g,i0,_,rfl,hd,_,_,_,rfl,rfl,at_ g,i2,c1,c3,ys,E3,rfl,L1 g,W3 g,ok,by omega,fun _ G1 g1=>?_,fun z=>by rw [good1] at z;cases z⟩
         refine⟨rfl,_,rfl,?_⟩
         exact ifN (by decide) (key2 _ _ ⟨rfl,g.trans g1⟩)
       rintro _ G1 ⟨rfl,g1⟩
       refine Ax (fun σ' H'=>σ'=[some (.ref a),some (.int many),some (.int most),some (.ref p),some (.ref l),some (.ref q),some (.int (kc:Int)),some (.ref bp),some (.ref bs),some (.ref hd),some (.int (0+(i:Int)))]/\Same H6 H') ?_ fun key2=>?_
       rotate_left
       . refine⟨_,rfl,hd,_,_,_,rfl,rfl,at_ g1,i0,_,rfl,hd,_,_,_,rfl,rfl,at_ g1,i1,c1,c2,ys,E2,rfl,L1 g1,W2 g1,ok,by omega,fun _ G2 g2=>?_,fun z=>by rw [good2] at z;cases z⟩
         refine⟨rfl,_,rfl,?_⟩
         exact ifN (by decide) (key2 _ _ ⟨rfl,g1.trans g2⟩)
       rintro _ G2 ⟨rfl,g2⟩
       refine Ax (fun σ' H'=>σ'=[some (.ref a),some (.int many),some (.int most),some (.ref p),some (.ref l),some (.ref q),some (.int (kc:Int)),some (.ref bp),some (.ref bs),some (.ref hd),some (.int (0+(i:Int)))]/\Same H6 H') ?_ fun key2=>?_
       rotate_left
       . refine⟨_,rfl,hd,_,_,_,rfl,rfl,at_ g2,i0,_,rfl,hd,_,_,_,rfl,rfl,at_ g2,i4,c1,c5,ys,E5,rfl,L1 g2,W5 g2,ok,bl1,(fun z=>by rw [bad1] at z;cases z),fun _ t G3 g3 ht=>?_⟩
         refine⟨A4 (by simp),fun t2 ht2=>?_⟩
         have g4:Same G3 (upd G3 t2 (.tup [.bl true,.bl true,.int 1])):=Same.new ht2
         refine⟨.tup [.bl true,.bl true,.int 1],.tup [.bl true,.bl true,.int 1],yes (g4 _ _ ht),yes Ad,by simp [dep,deps],_,rfl,?_⟩
         rw [Fu]
         exact ifN (by decide) (key2 _ _ ⟨rfl,(g2.trans g3).trans g4⟩)
       rintro _ G3 ⟨rfl,g3⟩
       refine⟨_,rfl,hd,_,_,_,rfl,rfl,at_ g3,i0,_,rfl,hd,_,_,_,rfl,rfl,at_ g3,i3,c1,c4,ys,E4,rfl,L1 g3,W4 g3,ok,bl2,(fun z=>by rw [bad2] at z;cases z),fun _ t G4 g4 ht=>?_⟩
       refine⟨A4 (by simp),fun t2 ht2=>?_⟩
       have g5:Same G4 (upd G4 t2 (.tup [.bl true,.bl true,.int 1])):=Same.new ht2
       refine⟨.tup [.bl true,.bl true,.int 1],.tup [.bl true,.bl true,.int 1],yes (g5 _ _ ht),yes Ad,by simp [dep,deps],_,rfl,?_⟩
       rw [Fu]
       exact ifN (by decide) ⟨_,rfl,(g3.trans g4).trans g5⟩
     . rintro σ G ⟨o,rfl,g⟩
       exact key _ _ ⟨o,rfl,g⟩
   rintro _ H7 ⟨o,rfl,s7⟩
   have s67:=s6.trans s7
   refine⟨_,rfl,_,rfl,_,rfl,_,rfl,_,rfl,_,rfl,A4 (by simp),fun z hz=>?_⟩
   have s8:Same H7 (upd H7 z (.lst [.ref p,.ref l,.ref q,.ref bp,.ref bs])):=Same.new hz
   have hz8:upd H7 z (.lst [.ref p,.ref l,.ref q,.ref bp,.ref bs]) z=some (.lst [.ref p,.ref l,.ref q,.ref bp,.ref bs]):=Ad
   generalize upd H7 z (.lst [.ref p,.ref l,.ref q,.ref bp,.ref bs])=H8 at s8 hz8 ⊢
   have s78:=s7.trans s8
   have s68:=s67.trans s8
   have dl:dep (.lst [.lst E1,.lst E2,.lst E3,.lst E4,.lst E5])<=6:=Ji (n:=5) fun x hx=>by
    simp only [List.mem_cons,List.not_mem_nil,or_false] at hx
    rcases hx with rfl | rfl | rfl | rfl | rfl<;>assumption
   refine⟨.lst [.lst E1,.lst E2,.lst E3,.lst E4,.lst E5],.lst [.lst E1,.lst E2,.lst E3,.lst E4,.lst E5],⟨hd,_,rfl,at_ s78,⟨_,_,rfl,W1 s78,⟨_,_,rfl,W2 s78,⟨_,_,rfl,W3 s78,⟨_,_,rfl,W4 s78,⟨_,_,rfl,W5 s78,rfl⟩⟩⟩⟩⟩⟩,
    ⟨z,_,rfl,.of hz8,⟨_,_,rfl,⟨p,us,rfl,.of (s68 _ _ p5),Reps.same s68 R1⟩,⟨_,_,rfl,⟨l,pu,rfl,.of (s68 _ _ l5),Reps.same s68 R2⟩,⟨_,_,rfl,⟨q,qu,rfl,.of (s68 _ _ q5),qr⟩,⟨_,_,rfl,⟨bp,bpu,rfl,.of (s68 _ _ b5),Reps.same s68 R4⟩,⟨_,_,rfl,⟨bs,bsu,rfl,.of (s68 _ _ h5b),Reps.same s68 r5⟩,rfl⟩⟩⟩⟩⟩⟩,by omega,?_⟩
   rw [Fu]
   exact k _
end
end Hb
namespace Hb
open PySem L2
theorem Ye {α:Type}{P:List α->Prop} (h:∀ a0,P [a0]) (us:List α) (hl:us.length=1):P us:=by
 cases us with
 | nil=>exact nomatch hl
 | cons a0 u0 =>
   cases u0 with
   | nil=>exact h a0
   | cons _ _=>simp at hl
theorem Hr {α:Type}{P:List α->Prop} (h:∀ a0 a1,P [a0,a1]) (us:List α) (hl:us.length=2):P us:=by
 cases us with
 | nil=>exact nomatch hl
 | cons a0 u0 =>
   cases u0 with
   | nil=>exact nomatch hl
   | cons a1 u1 =>
     cases u1 with
     | nil=>exact h a0 a1
     | cons _ _=>simp at hl
theorem Yd {α:Type}{P:List α->Prop} (h:∀ a0 a1 a2,P [a0,a1,a2]) (us:List α) (hl:us.length=3):P us:=by
 cases us with
 | nil=>exact nomatch hl
 | cons a0 u0 =>
   cases u0 with
   | nil=>exact nomatch hl
   | cons a1 u1 =>
     cases u1 with
     | nil=>exact nomatch hl
     | cons a2 u2 =>
       cases u2 with
       | nil=>exact h a0 a1 a2
       | cons _ _=>simp at hl
theorem Uv {α:Type}{P:List α->Prop} (h:∀ a0 a1 a2 a3,P [a0,a1,a2,a3]) (us:List α) (hl:us.length=4):P us:=by
 cases us with
 | nil=>exact nomatch hl
 | cons a0 u0 =>
   cases u0 with
   | nil=>exact nomatch hl
   | cons a1 u1 =>
     cases u1 with
     | nil=>exact nomatch hl
     | cons a2 u2 =>
       cases u2 with
       | nil=>exact nomatch hl
       | cons a3 u3 =>
         cases u3 with
         | nil=>exact h a0 a1 a2 a3
         | cons _ _=>simp at hl
set_option maxHeartbeats 4000000 in
theorem all_mk {l:PySem.W.OpenLaw}{w:World}{K:W.Frag}{h:Heap}{mg:Str->Option Value}{fa:Addr}{Ai:Addr}
 {Aq:Addr}
 {Az:Addr}
 {A1:Addr}
 {Au:Addr}
 {Av:Addr}
 {Ao:Addr}
 {Ay:Addr}
 {A6:Addr}
 {Ac:Addr}
 {As:Addr}
 {Ap:Addr}
 {A0:Addr}
 {A5:Addr}
 {At:Addr}
 {Ar:Addr}
 {Jh:Addr}{So Tk:Option Addr}{Sa:Array (Option Value)}{Ss S2 Ta Si K8 Td:Value}
 {Jg:Addr}{Sn Tj:Option Addr}{R9:Array (Option Value)}{Sr S1 S9 Sh K7 Tc:Value}
 {Gw:Addr}{P6 Rv:Option Addr}{Pe:Array (Option Value)}{Qc Qs Q4 Pr Jw Ra:Value}
 {Jf:Addr}{Sm Ti:Option Addr}{R8:Array (Option Value)}{Sq S0 S8 Sg K6 Tb:Value}
 {Dh:Addr}{Iu Jp:Option Addr}{Ik:Array (Option Value)}{Iw Jb Jj Ip Eh Jl:Value}
 {Gz:Addr}{P9 Ry:Option Addr}{Ph:Array (Option Value)}{Qf Qv Q7 Pu Jz Re:Value}
 {Fl:Addr}{N2 O2:Option Addr}{Ng:Array (Option Value)}{N6 Og Os Nr Ia Ow:Value}
 {Gx:Addr}{P7 Rw:Option Addr}{Pf:Array (Option Value)}{Qd Qt Q5 Ps Jx Rb:Value}
 {Fj:Addr}{N0 O0:Option Addr}{Nd:Array (Option Value)}{N4 Oe Op Np Hy Ou:Value}
 {Ec:Addr}{Km Ld:Option Addr}{Kd:Array (Option Value)}{Ko Kt K1 Kh Fn K4:Value}
 {Fk:Addr}{N1 O1:Option Addr}{Nf:Array (Option Value)}{N5 Of Oq Nq Hz Ov:Value}
 {Di:Addr}{Iv Jq:Option Addr}{Il:Array (Option Value)}{Ix Jc Jk Iq Ei Jm:Value}
 {Gu:Addr}{P4 Rt:Option Addr}{Pc:Array (Option Value)}{Qa Qq Q2 Pp Ju Q8:Value}
 {Eb:Addr}{Kl Lc:Option Addr}{Kc:Array (Option Value)}{Kn Ks K0 Kg Fm K3:Value}
 {Gy:Addr}{P8 Rx:Option Addr}{Pg:Array (Option Value)}{Qe Qu Q6 Pt Jy Rc:Value}
 {Co:Addr}{Fz F4:Option Addr}{Fv:Array (Option Value)}{F0 F1 F2 Fx Dj F3:Value}
 {Wc:Addr}{Zq Z9:Option Addr}{Y9:Array (Option Value)}{Zr Zw Z5 Zf Wt Z6:Value}
 {Fi:Addr}{Nz Oz:Option Addr}{Nc:Array (Option Value)}{N3 Od Oo No Hx Ot:Value}
 {Gv:Addr}{P5 Ru:Option Addr}{Pd:Array (Option Value)}{Qb Qr Q3 Pq Jv Q9:Value}
 {Es:Addr}{Lz Mh:Option Addr}{Lp:Array (Option Value)}{L4 Mb Md Lv Ga Mf:Value}
 {Ol:Addr}{Vx Xb:Option Addr}{Ve:Array (Option Value)}{Vy V7 Wl Vk Rh Wp:Value}
 {S7:Addr}{Xy Yk:Option Addr}{Xn:Array (Option Value)}{Xz X6 Yh Xq T9 Yi:Value}
 {Et:Addr}{L3 Mi:Option Addr}{Lq:Array (Option Value)}{L5 Mc Me Lw Gb Mg:Value}
 {Z3:Addr}{j5 Y3:Option Addr}{d7:Array (Option Value)}{j6 Yu Yz Ys Wu Y0:Value}
 (X:K.In h) (G:h.Ns mainGlobals mg) (hfa:mg "law"=some (.ref fa))
 (ac_HoleError:PySem.W.nsIn K mainGlobals "HoleError"=some (some (.ref Ai)))
 (ac_NoShape:PySem.W.nsIn K mainGlobals "NoShape"=some (some (.ref Aq)))
 (ac_NoText:PySem.W.nsIn K mainGlobals "NoText"=some (some (.ref Az)))
 (ac_NoName:PySem.W.nsIn K mainGlobals "NoName"=some (some (.ref A1)))
 (ac_NoLevel:PySem.W.nsIn K mainGlobals "NoLevel"=some (some (.ref Au)))
 (ac_NoChain:PySem.W.nsIn K mainGlobals "NoChain"=some (some (.ref Av)))
 (ac_NoTable:PySem.W.nsIn K mainGlobals "NoTable"=some (some (.ref Ao)))
 (ac_NoTurn:PySem.W.nsIn K mainGlobals "NoTurn"=some (some (.ref Ay)))
 (ac_NoMap:PySem.W.nsIn K mainGlobals "NoMap"=some (some (.ref A6)))
 (ac_NoGlue:PySem.W.nsIn K mainGlobals "NoGlue"=some (some (.ref Ac)))
 (ac_NoPrime:PySem.W.nsIn K mainGlobals "NoPrime"=some (some (.ref As)))
 (ac_NoStage:PySem.W.nsIn K mainGlobals "NoStage"=some (some (.ref Ap)))
 (ac_NoPair:PySem.W.nsIn K mainGlobals "NoPair"=some (some (.ref A0)))
 (ac_NoRow:PySem.W.nsIn K mainGlobals "NoRow"=some (some (.ref A5)))
 (ac_NoPiece:PySem.W.nsIn K mainGlobals "NoPiece"=some (some (.ref At)))
 (ac_NoRound:PySem.W.nsIn K mainGlobals "NoRound"=some (some (.ref Ar)))
 (zq29:PySem.W.nsIn K mainGlobals "is_whole"=some (some (.ref Jh)))
 (zq23:K.lookup Jh=some ⟨Ss,So,.func (PySem.W.fnOf "is_whole" "is_whole" (Bi Ds) (Be Ds) (Ag Ds) .none S2 Ta Si Tk K8 Td),Sa⟩)
 (zq26:PySem.W.codeIn K K8 "is_whole"=true)
 (zq1i:PySem.W.keepIn K (.ref Jh)=true)
 (zq28:PySem.W.nsIn K mainGlobals "level_of"=some (some (.ref Jg)))
 (zq22:K.lookup Jg=some ⟨Sr,Sn,.func (PySem.W.fnOf "level_of" "level_of" (Bi Dr) (Be Dr) (Ag Dr) .none S1 S9 Sh Tj K7 Tc),R9⟩)
 (zq25:PySem.W.codeIn K K7 "level_of"=true)
 (zq1h:PySem.W.keepIn K (.ref Jg)=true)
 (zq1x:PySem.W.nsIn K mainGlobals "called_by"=some (some (.ref Gw)))
 (zq1l:K.lookup Gw=some ⟨Qc,P6,.func (PySem.W.fnOf "called_by" "called_by" (Bi Ck) (Be Ck) (Ag Ck) .none Qs Q4 Pr Rv Jw Ra),Pe⟩)
 (zq1r:PySem.W.codeIn K Jw "called_by"=true)
 (zq0w:PySem.W.keepIn K (.ref Gw)=true)
 (zq27:PySem.W.nsIn K mainGlobals "spots_of"=some (some (.ref Jf)))
 (zq21:K.lookup Jf=some ⟨Sq,Sm,.func (PySem.W.fnOf "spots_of" "spots_of" (Bi Dq) (Be Dq) (Ag Dq) .none S0 S8 Sg Ti K6 Tb),R8⟩)
 (zq24:PySem.W.codeIn K K6 "spots_of"=true)
 (zq1g:PySem.W.keepIn K (.ref Jf)=true)
 (zq0c:PySem.W.nsIn K mainGlobals "with_all_faces"=some (some (.ref Dh)))
 (zq08:K.lookup Dh=some ⟨Iw,Iu,.func (PySem.W.fnOf "with_all_faces" "with_all_faces" (Bi Bo) (Be Bo) (Ag Bo) .none Jb Jj Ip Jp Eh Jl),Ik⟩)
 (zq0a:PySem.W.codeIn K Eh "with_all_faces"=true)
 (zq01:PySem.W.keepIn K (.ref Dh)=true)
 (zq20:PySem.W.nsIn K mainGlobals "_law_cell_at"=some (some (.ref Gz)))
 (zq1o:K.lookup Gz=some ⟨Qf,P9,.func (PySem.W.fnOf "_law_cell_at" "_law_cell_at" (Bi C8) (Be C8) (Ag C8) .none Qv Q7 Pu Ry Jz Re),Ph⟩)
 (zq1u:PySem.W.codeIn K Jz "_law_cell_at"=true)
 (zq0z:PySem.W.keepIn K (.ref Gz)=true)
 (zq1f:PySem.W.nsIn K mainGlobals "_law_faces_by"=some (some (.ref Fl)))
 (zq17:K.lookup Fl=some ⟨N6,N2,.func (PySem.W.fnOf "_law_faces_by" "_law_faces_by" (Bi Cr) (Be Cr) (Ag Cr) .none Og Os Nr O2 Ia Ow),Ng⟩)
 (zq1b:PySem.W.codeIn K Ia "_law_faces_by"=true)
 (zq0k:PySem.W.keepIn K (.ref Fl)=true)
 (zq1y:PySem.W.nsIn K mainGlobals "_law_word_by"=some (some (.ref Gx)))
 (zq1m:K.lookup Gx=some ⟨Qd,P7,.func (PySem.W.fnOf "_law_word_by" "_law_word_by" (Bi C6) (Be C6) (Ag C6) .none Qt Q5 Ps Rw Jx Rb),Pf⟩)
 (zq1s:PySem.W.codeIn K Jx "_law_word_by"=true)
 (zq0x:PySem.W.keepIn K (.ref Gx)=true)
 (zq1d:PySem.W.nsIn K mainGlobals "_law_pairs_by"=some (some (.ref Fj)))
 (zq15:K.lookup Fj=some ⟨N4,N0,.func (PySem.W.fnOf "_law_pairs_by" "_law_pairs_by" (Bi Cp) (Be Cp) (Ag Cp) .none Oe Op Np O0 Hy Ou),Nd⟩)
 (zq19:PySem.W.codeIn K Hy "_law_pairs_by"=true)
 (zq0i:PySem.W.keepIn K (.ref Fj)=true)
 (zq0r:PySem.W.nsIn K mainGlobals "_law_many_kinds"=some (some (.ref Ec)))
 (zq0n:K.lookup Ec=some ⟨Ko,Km,.func (PySem.W.fnOf "_law_many_kinds" "_law_many_kinds" (Bi B1) (Be B1) (Ag B1) .none Kt K1 Kh Ld Fn K4),Kd⟩)
 (zq0p:PySem.W.codeIn K Fn "_law_many_kinds"=true)
 (zq07:PySem.W.keepIn K (.ref Ec)=true)
 (zq1e:PySem.W.nsIn K mainGlobals "_law_no_place"=some (some (.ref Fk)))
 (zq16:K.lookup Fk=some ⟨N5,N1,.func (PySem.W.fnOf "_law_no_place" "_law_no_place" (Bi Cq) (Be Cq) (Ag Cq) .none Of Oq Nq O1 Hz Ov),Nf⟩)
 (zq1a:PySem.W.codeIn K Hz "_law_no_place"=true)
 (zq0j:PySem.W.keepIn K (.ref Fk)=true)
 (zq0d:PySem.W.nsIn K mainGlobals "is_whole_below"=some (some (.ref Di)))
 (zq09:K.lookup Di=some ⟨Ix,Iv,.func (PySem.W.fnOf "is_whole_below" "is_whole_below" (Bi Br) (Be Br) (Ag Br) .none Jc Jk Iq Jq Ei Jm),Il⟩)
 (zq0b:PySem.W.codeIn K Ei "is_whole_below"=true)
 (zq02:PySem.W.keepIn K (.ref Di)=true)
 (zq1v:PySem.W.nsIn K mainGlobals "left_with"=some (some (.ref Gu)))
 (zq1j:K.lookup Gu=some ⟨Qa,P4,.func (PySem.W.fnOf "left_with" "left_with" (Bi C4) (Be C4) (Ag C4) .none Qq Q2 Pp Rt Ju Q8),Pc⟩)
 (zq1p:PySem.W.codeIn K Ju "left_with"=true)
 (zq0u:PySem.W.keepIn K (.ref Gu)=true)
 (zq0q:PySem.W.nsIn K mainGlobals "_law_words_with"=some (some (.ref Eb)))
 (zq0m:K.lookup Eb=some ⟨Kn,Kl,.func (PySem.W.fnOf "_law_words_with" "_law_words_with" (Bi Bt) (Be Bt) (Ag Bt) .none Ks K0 Kg Lc Fm K3),Kc⟩)
 (zq0o:PySem.W.codeIn K Fm "_law_words_with"=true)
 (zq06:PySem.W.keepIn K (.ref Eb)=true)
 (zq1z:PySem.W.nsIn K mainGlobals "_law_no_pair"=some (some (.ref Gy)))
 (zq1n:K.lookup Gy=some ⟨Qe,P8,.func (PySem.W.fnOf "_law_no_pair" "_law_no_pair" (Bi C7) (Be C7) (Ag C7) .none Qu Q6 Pt Rx Jy Rc),Pg⟩)
 (zq1t:PySem.W.codeIn K Jy "_law_no_pair"=true)
 (zq0y:PySem.W.keepIn K (.ref Gy)=true)
 (zq05:PySem.W.nsIn K mainGlobals "is_place_of_level"=some (some (.ref Co)))
 (zq03:K.lookup Co=some ⟨F0,Fz,.func (PySem.W.fnOf "is_place_of_level" "is_place_of_level" (Bi Bl) (Be Bl) (Ag Bl) .none F1 F2 Fx F4 Dj F3),Fv⟩)
 (zq04:PySem.W.codeIn K Dj "is_place_of_level"=true)
 (zq00:PySem.W.keepIn K (.ref Co)=true)
 (zq2j:PySem.W.nsIn K mainGlobals "part"=some (some (.ref Wc)))
 (zq2h:K.lookup Wc=some ⟨Zr,Zq,.func (PySem.W.fnOf "part" "part" (Bi Mm) (Be Mm) (Ag Mm) .none Zw Z5 Zf Z9 Wt Z6),Y9⟩)
 (zq2i:PySem.W.codeIn K Wt "part"=true)
 (zq2g:PySem.W.keepIn K (.ref Wc)=true)
 (zq1c:PySem.W.nsIn K mainGlobals "_law_shape_by"=some (some (.ref Fi)))
 (zq14:K.lookup Fi=some ⟨N3,Nz,.func (PySem.W.fnOf "_law_shape_by" "_law_shape_by" (Bi B5) (Be B5) (Ag B5) .none Od Oo No Oz Hx Ot),Nc⟩)
 (zq18:PySem.W.codeIn K Hx "_law_shape_by"=true)
 (zq0h:PySem.W.keepIn K (.ref Fi)=true)
 (zq1w:PySem.W.nsIn K mainGlobals "is_gluing"=some (some (.ref Gv)))
 (zq1k:K.lookup Gv=some ⟨Qb,P5,.func (PySem.W.fnOf "is_gluing" "is_gluing" (Bi C5) (Be C5) (Ag C5) .none Qr Q3 Pq Ru Jv Q9),Pd⟩)
 (zq1q:PySem.W.codeIn K Jv "is_gluing"=true)
 (zq0v:PySem.W.keepIn K (.ref Gv)=true)
 (zq12:PySem.W.nsIn K mainGlobals "_law_part_told"=some (some (.ref Es)))
 (zq0s:K.lookup Es=some ⟨L4,Lz,.func (PySem.W.fnOf "_law_part_told" "_law_part_told" (Bi Cb) (Be Cb) (Ag Cb) .none Mb Md Lv Mh Ga Mf),Lp⟩)
 (zq10:PySem.W.codeIn K Ga "_law_part_told"=true)
 (zq0f:PySem.W.keepIn K (.ref Es)=true)
 (zq0l:PySem.W.nsIn K mainGlobals "joined"=some (some (.ref Ol)))
 (zq2a:K.lookup Ol=some ⟨Vy,Vx,.func (PySem.W.fnOf "joined" "joined" (Bi En) (Be En) (Ag En) .none V7 Wl Vk Xb Rh Wp),Ve⟩)
 (zq2c:PySem.W.codeIn K Rh "joined"=true)
 (zq0e:PySem.W.keepIn K (.ref Ol)=true)
 (zq2f:PySem.W.nsIn K mainGlobals "glued"=some (some (.ref S7)))
 (zq2d:K.lookup S7=some ⟨Xz,Xy,.func (PySem.W.fnOf "glued" "glued" (Bi Gi) (Be Gi) (Ag Gi) .none X6 Yh Xq Yk T9 Yi),Xn⟩)
 (zq2e:PySem.W.codeIn K T9 "glued"=true)
 (zq2b:PySem.W.keepIn K (.ref S7)=true)
 (zq13:PySem.W.nsIn K mainGlobals "_law_glue_told"=some (some (.ref Et)))
 (zq0t:K.lookup Et=some ⟨L5,L3,.func (PySem.W.fnOf "_law_glue_told" "_law_glue_told" (Bi Cc) (Be Cc) (Ag Cc) .none Mc Me Lw Mi Gb Mg),Lq⟩)
 (zq11:PySem.W.codeIn K Gb "_law_glue_told"=true)
 (zq0g:PySem.W.keepIn K (.ref Et)=true)
 (zq2n:PySem.W.nsIn K mainGlobals "law"=some (some (.ref Z3)))
 (zq2k:K.lookup Z3=some ⟨j6,j5,.func (PySem.W.fnOf "law" "law" (Bi Lu) (Be Lu) (Ag Lu) .none Yu Yz Ys Y3 Wu Y0),d7⟩)
 (zq2m:PySem.W.codeIn K Wu "law"=true)
 (zq2l:PySem.W.keepIn K (.ref Z3)=true)
 (ak_HoleError:PySem.W.ktsIn K Ai "BaseException"=true)
 (ae_NoGlue:PySem.W.excIn K Ac bmV "ValueError.__new__"=true)
 (ak_NoGlue:PySem.W.ktsIn K Ac "BaseException"=true)
 (a1_NoGlue:PySem.W.findIn K (.ref Ac) "__getattribute__"=some (some (.builtin "BaseException.__getattribute__")))
 (a2_NoGlue:PySem.W.findIn K (.ref Ac) "__getattr__"=some none)
 (a3_NoGlue:PySem.W.findIn K (.ref Ac) "__class__"=some (some (.builtin "object.__class__")))
 (a4_NoGlue:PySem.W.subIn K (.ref Ac) (.type "object")=some true)
 (a5_NoGlue:PySem.W.subIn K (.ref Ac) (.type "BaseException")=some true)
 (av_NoGlue:PySem.W.kitOne K (.ref Ac) (.type "ValueError")=some true)
 (ai_NoGlue_HoleError:PySem.W.kitOne K (.ref Ac) (.ref Ai)=some true)
 (as_NoGlue_HoleError:PySem.W.subIn K (.ref Ac) (.ref Ai)=some true)
 (ai_NoGlue_NoShape:PySem.W.kitOne K (.ref Ac) (.ref Aq)=some false)
 (ai_NoGlue_NoText:PySem.W.kitOne K (.ref Ac) (.ref Az)=some false)
 (ai_NoGlue_NoName:PySem.W.kitOne K (.ref Ac) (.ref A1)=some false)
 (ai_NoGlue_NoLevel:PySem.W.kitOne K (.ref Ac) (.ref Au)=some false)
 (ai_NoGlue_NoChain:PySem.W.kitOne K (.ref Ac) (.ref Av)=some false)
 (ai_NoGlue_NoTable:PySem.W.kitOne K (.ref Ac) (.ref Ao)=some false)
 (ai_NoGlue_NoTurn:PySem.W.kitOne K (.ref Ac) (.ref Ay)=some false)
 (ai_NoGlue_NoMap:PySem.W.kitOne K (.ref Ac) (.ref A6)=some false)
 (ai_NoGlue_NoGlue:PySem.W.kitOne K (.ref Ac) (.ref Ac)=some true)
 (as_NoGlue_NoGlue:PySem.W.subIn K (.ref Ac) (.ref Ac)=some true)
 (ai_NoGlue_NoPrime:PySem.W.kitOne K (.ref Ac) (.ref As)=some false)
 (ai_NoGlue_NoStage:PySem.W.kitOne K (.ref Ac) (.ref Ap)=some false)
 (ai_NoGlue_NoPair:PySem.W.kitOne K (.ref Ac) (.ref A0)=some false)
 (ai_NoGlue_NoRow:PySem.W.kitOne K (.ref Ac) (.ref A5)=some false)
 (ai_NoGlue_NoPiece:PySem.W.kitOne K (.ref Ac) (.ref At)=some false)
 (ai_NoGlue_NoRound:PySem.W.kitOne K (.ref Ac) (.ref Ar)=some false)
 (z_isinstance:PySem.W.nsIn K mainGlobals "isinstance"=some none)
 (z_int:PySem.W.nsIn K mainGlobals "int"=some none)
 (z_bool:PySem.W.nsIn K mainGlobals "bool"=some none)
 (z_max:PySem.W.nsIn K mainGlobals "max"=some none)
 (z_len:PySem.W.nsIn K mainGlobals "len"=some none)
 (z_tuple:PySem.W.nsIn K mainGlobals "tuple"=some none)
 (z_dict:PySem.W.nsIn K mainGlobals "dict"=some none)
 (z_enumerate:PySem.W.nsIn K mainGlobals "enumerate"=some none)
 (z_all:PySem.W.nsIn K mainGlobals "all"=some none)
 (z_range:PySem.W.nsIn K mainGlobals "range"=some none)
 (z_sorted:PySem.W.nsIn K mainGlobals "sorted"=some none)
 (z_list:PySem.W.nsIn K mainGlobals "list"=some none)
 (z_min:PySem.W.nsIn K mainGlobals "min"=some none)
 (z_zip:PySem.W.nsIn K mainGlobals "zip"=some none)
 (z_sum:PySem.W.nsIn K mainGlobals "sum"=some none)
 (z_ValueError:PySem.W.nsIn K mainGlobals "ValueError"=some none) :
 ∃ fd:FuncData,(∀ (s:Shared) (v:Value),BindsTo s fd ⟨[v],[]⟩ [("_law_script",v)])/\∀ base:Heap,K.In base->base.Ns mainGlobals mg->FnOk l.prog w K mg base CX0 9 fa fd ["_law_script"] (Tn K):=by
 have e:=hfa.symm.trans (PySem.W.mg_of X G zq2n)
 cases e
 have T:Txt K mg Ai Aq Az A1 Au Av Ao Ay A6 Ac As Ap A0 A5 At Ar:=⟨PySem.W.mg_of X G ac_HoleError,ak_HoleError,PySem.W.mg_of X G ac_NoShape,PySem.W.mg_of X G ac_NoText,PySem.W.mg_of X G ac_NoName,PySem.W.mg_of X G ac_NoLevel,PySem.W.mg_of X G ac_NoChain,PySem.W.mg_of X G ac_NoTable,PySem.W.mg_of X G ac_NoTurn,PySem.W.mg_of X G ac_NoMap,PySem.W.mg_of X G ac_NoGlue,ae_NoGlue,⟨ak_NoGlue,a1_NoGlue,a2_NoGlue,a3_NoGlue,a4_NoGlue,a5_NoGlue⟩,ak_NoGlue,av_NoGlue,PySem.W.mg_of X G ac_NoPrime,PySem.W.mg_of X G ac_NoStage,PySem.W.mg_of X G ac_NoPair,PySem.W.mg_of X G ac_NoRow,PySem.W.mg_of X G ac_NoPiece,PySem.W.mg_of X G ac_NoRound,ai_NoGlue_HoleError,as_NoGlue_HoleError,ai_NoGlue_NoShape,ai_NoGlue_NoText,ai_NoGlue_NoName,ai_NoGlue_NoLevel,ai_NoGlue_NoChain,ai_NoGlue_NoTable,ai_NoGlue_NoTurn,ai_NoGlue_NoMap,ai_NoGlue_NoGlue,as_NoGlue_NoGlue,ai_NoGlue_NoPrime,ai_NoGlue_NoStage,ai_NoGlue_NoPair,ai_NoGlue_NoRow,ai_NoGlue_NoPiece,ai_NoGlue_NoRound,PySem.W.mg_none_of X G z_isinstance,PySem.W.mg_none_of X G z_int,PySem.W.mg_none_of X G z_bool,PySem.W.mg_none_of X G z_max,PySem.W.mg_none_of X G z_len,PySem.W.mg_none_of X G z_tuple,PySem.W.mg_none_of X G z_dict,PySem.W.mg_none_of X G z_enumerate,PySem.W.mg_none_of X G z_all,PySem.W.mg_none_of X G z_range,PySem.W.mg_none_of X G z_sorted,PySem.W.mg_none_of X G z_list,PySem.W.mg_none_of X G z_min,PySem.W.mg_none_of X G z_zip,PySem.W.mg_none_of X G z_sum,PySem.W.mg_none_of X G z_ValueError⟩
 have M3:=B3 (st:=Ds) zq23 zq26 zq1i
 have M2:=B3 (st:=Dr) zq22 zq25 zq1h
 have Lk:=B3 (st:=Ck) zq1l zq1r zq0w
 have M1:=B3 (st:=Dq) zq21 zq24 zq1g
 have Ew:=B3 (st:=Bo) zq08 zq0a zq01
 have Ln:=B3 (st:=C8) zq1o zq1u zq0z
 have J3:=B3 (st:=Cr) zq17 zq1b zq0k
 have Ll:=B3 (st:=C6) zq1m zq1s zq0x
 have J1:=B3 (st:=Cp) zq15 zq19 zq0i
 have Ge:=B3 (st:=B1) zq0n zq0p zq07
 have J2:=B3 (st:=Cq) zq16 zq1a zq0j
 have Ex:=B3 (st:=Br) zq09 zq0b zq02
 have Li:=B3 (st:=C4) zq1j zq1p zq0u
 have Gd:=B3 (st:=Bt) zq0m zq0o zq06
 have Lm:=B3 (st:=C7) zq1n zq1t zq0y
 have D0:=B3 (st:=Bl) zq03 zq04 zq00
 have Y4:=B3 (st:=Mm) zq2h zq2i zq2g
 have J0:=B3 (st:=B5) zq14 zq18 zq0h
 have Lj:=B3 (st:=C5) zq1k zq1q zq0v
 have Id:=B3 (st:=Cb) zq0s zq10 zq0f
 have Cj:=B3 (st:=En) zq2a zq2c zq0e
 have Xf:=B3 (st:=Gi) zq2d zq2e zq2b
 have Ie:=B3 (st:=Cc) zq0t zq11 zq0g
 have Aa9:=B3 (st:=Lu) zq2k zq2m zq2l
 refine⟨PySem.W.fnOf "law" "law" (Bi Lu) (Be Lu) (Ag Lu) .none Yu Yz Ys Y3 Wu Y0,fun s v=>.of_eq rfl,fun base _ _=>?_⟩
 have Je:Has l.prog w K mg base "is_whole" ["thing"] 1 (Gg K):=⟨_,_,PySem.W.mg_of X G zq29,zq1i,M3.binds (ps:=["thing"]) (fun _ _ _ _ _ _=>Ye (fun _=>rfl)),Sl M3 T ⟩
 have Du:Has l.prog w K mg base "level_of" ["piece"] 1 (Ej K):=⟨_,_,PySem.W.mg_of X G zq28,zq1h,M2.binds (ps:=["piece"]) (fun _ _ _ _ _ _=>Ye (fun _=>rfl)),Sk M2 T ⟩
 have Db:Has l.prog w K mg base "called_by" ["spots","piece"] 1 (Fp K):=⟨_,_,PySem.W.mg_of X G zq1x,zq0w,Lk.binds (ps:=["spots","piece"]) (fun _ _ _ _ _ _=>Hr (fun _ _=>rfl)),P0 Lk T ⟩
 have Jd:Has l.prog w K mg base "spots_of" ["things"] 1 (Gf K):=⟨_,_,PySem.W.mg_of X G zq27,zq1g,M1.binds (ps:=["things"]) (fun _ _ _ _ _ _=>Ye (fun _=>rfl)),Sj M1 T ⟩
 have Dg:Has l.prog w K mg base "with_all_faces" ["shape","places"] 1 (C3 K):=⟨_,_,PySem.W.mg_of X G zq0c,zq01,Ew.binds (ps:=["shape","places"]) (fun _ _ _ _ _ _=>Hr (fun _ _=>rfl)),Ir Ew T ⟩
 have B9:Has l.prog w K mg base "_law_cell_at" ["_law_script","_law_k"] 1 (E9 K):=⟨_,_,PySem.W.mg_of X G zq20,zq0z,Ln.binds (ps:=["_law_script","_law_k"]) (fun _ _ _ _ _ _=>Hr (fun _ _=>rfl)),P3 Ln T ⟩
 have Cu:Has l.prog w K mg base "_law_faces_by" ["_law_word","_law_family"] 1 (Dk K):=⟨_,_,PySem.W.mg_of X G zq1f,zq0k,J3.binds (ps:=["_law_word","_law_family"]) (fun _ _ _ _ _ _=>Hr (fun _ _=>rfl)),Ny J3 T ⟩
 have Gp:Has l.prog w K mg base "_law_word_by" ["_law_cell","_law_family","_law_letters"] 1 (E8 K):=⟨_,_,PySem.W.mg_of X G zq1y,zq0x,Ll.binds (ps:=["_law_cell","_law_family","_law_letters"]) (fun _ _ _ _ _ _=>Yd (fun _ _ _=>rfl)),P1 Ll T ⟩
 have Fh:Has l.prog w K mg base "_law_pairs_by" ["_law_shape","_law_cells"] 1 (Em K):=⟨_,_,PySem.W.mg_of X G zq1d,zq0i,J1.binds (ps:=["_law_shape","_law_cells"]) (fun _ _ _ _ _ _=>Hr (fun _ _=>rfl)),Nw J1 T ⟩
 have hh_L_many_kinds:HasH l.prog w K mg base "_law_many_kinds" ["_law_e"] 1 (Hf K Ac):=⟨_,_,PySem.W.mg_of X G zq0r,zq07,Ge.binds (ps:=["_law_e"]) (fun _ _ _ _ _ _=>Ye (fun _=>rfl)),Kk Ge T ⟩
 have Ct:Has l.prog w K mg base "_law_no_place" ["_law_shape","_law_cell"] 1 (Ek K):=⟨_,_,PySem.W.mg_of X G zq1e,zq0j,J2.binds (ps:=["_law_shape","_law_cell"]) (fun _ _ _ _ _ _=>Hr (fun _ _=>rfl)),Nx J2 T ⟩
 have Bf:Has l.prog w K mg base "is_whole_below" ["thing","bound"] 2 (By K):=⟨_,_,PySem.W.mg_of X G zq0d,zq02,Ex.binds (ps:=["thing","bound"]) (fun _ _ _ _ _ _=>Hr (fun _ _=>rfl)),Is Ex T Je⟩
 have Gn:Has l.prog w K mg base "left_with" ["shape","kept"] 2 (Ez K):=⟨_,_,PySem.W.mg_of X G zq1v,zq0u,Li.binds (ps:=["shape","kept"]) (fun _ _ _ _ _ _=>Hr (fun _ _=>rfl)),Py Li T Jd Db⟩
 have Ea:Has l.prog w K mg base "_law_words_with" ["_law_words","_law_word","_law_family"] 2 (Dv K):=⟨_,_,PySem.W.mg_of X G zq0q,zq06,Gd.binds (ps:=["_law_words","_law_word","_law_family"]) (fun _ _ _ _ _ _=>Yd (fun _ _ _=>rfl)),Kj Gd T Cu⟩
 have Gq:Has l.prog w K mg base "_law_no_pair" ["_law_shape","_law_cell"] 2 (Ii K):=⟨_,_,PySem.W.mg_of X G zq1z,zq0y,Lm.binds (ps:=["_law_shape","_law_cell"]) (fun _ _ _ _ _ _=>Hr (fun _ _=>rfl)),P2 Lm T Ct⟩
 have Cn:Has l.prog w K mg base "is_place_of_level" ["shape","thing","level"] 3 (Ce K):=⟨_,_,PySem.W.mg_of X G zq05,zq00,D0.binds (ps:=["shape","thing","level"]) (fun _ _ _ _ _ _=>Yd (fun _ _ _=>rfl)),Fy D0 T Bf Du⟩
 have S3:HasX l.prog w K mg base "part" ["shape","places"] 3 (Na K Ac):=⟨_,_,PySem.W.mg_of X G zq2j,zq2g,Y4.binds (ps:=["shape","places"]) (fun _ _ _ _ _ _=>Hr (fun _ _=>rfl)),Zo Y4 T Dg Gn Bf⟩
 have Fg:Has l.prog w K mg base "_law_shape_by" ["_law_kind","_law_cells","_law_most"] 3 (El K):=⟨_,_,PySem.W.mg_of X G zq1c,zq0h,J0.binds (ps:=["_law_kind","_law_cells","_law_most"]) (fun _ _ _ _ _ _=>Yd (fun _ _ _=>rfl)),Nv J0 T Ea Gp Cu⟩
 have Go:Has l.prog w K mg base "is_gluing" ["shape","thing"] 4 (Ij K):=⟨_,_,PySem.W.mg_of X G zq1w,zq0v,Lj.binds (ps:=["shape","thing"]) (fun _ _ _ _ _ _=>Hr (fun _ _=>rfl)),Pz Lj T Cn Du Bf⟩
 have Dm:Has l.prog w K mg base "_law_part_told" ["_law_shape","_law_spots"] 4 (E6 K):=⟨_,_,PySem.W.mg_of X G zq12,zq0f,Id.binds (ps:=["_law_shape","_law_spots"]) (fun _ _ _ _ _ _=>Hr (fun _ _=>rfl)),Lx Id T S3 hh_L_many_kinds⟩
 have h_joined0:Has l.prog w K mg base "joined" ["shape","firsts","one","other"] 1 (Cg K 0):=⟨_,_,PySem.W.mg_of X G zq0l,zq0e,Cj.binds (ps:=["shape","firsts","one","other"]) (fun _ _ _ _ _ _=>Uv (fun _ _ _ _=>rfl)),Um Cj⟩
 have h_joined1:Has l.prog w K mg base "joined" ["shape","firsts","one","other"] 2 (Cg K 1):=⟨_,_,PySem.W.mg_of X G zq0l,zq0e,Cj.binds (ps:=["shape","firsts","one","other"]) (fun _ _ _ _ _ _=>Uv (fun _ _ _ _=>rfl)),Fa Cj T  h_joined0⟩
 have h_joined2:Has l.prog w K mg base "joined" ["shape","firsts","one","other"] 3 (Cg K 2):=⟨_,_,PySem.W.mg_of X G zq0l,zq0e,Cj.binds (ps:=["shape","firsts","one","other"]) (fun _ _ _ _ _ _=>Uv (fun _ _ _ _=>rfl)),Fa Cj T  h_joined1⟩
 have h_joined3:Has l.prog w K mg base "joined" ["shape","firsts","one","other"] 4 (Cg K 3):=⟨_,_,PySem.W.mg_of X G zq0l,zq0e,Cj.binds (ps:=["shape","firsts","one","other"]) (fun _ _ _ _ _ _=>Uv (fun _ _ _ _=>rfl)),Fa Cj T  h_joined2⟩
 have h_joined4:Has l.prog w K mg base "joined" ["shape","firsts","one","other"] 5 (Cg K 4):=⟨_,_,PySem.W.mg_of X G zq0l,zq0e,Cj.binds (ps:=["shape","firsts","one","other"]) (fun _ _ _ _ _ _=>Uv (fun _ _ _ _=>rfl)),Fa Cj T  h_joined3⟩
 have Ho:Has l.prog w K mg base "joined" ["shape","firsts","one","other"] 6 (Cg K 5):=⟨_,_,PySem.W.mg_of X G zq0l,zq0e,Cj.binds (ps:=["shape","firsts","one","other"]) (fun _ _ _ _ _ _=>Uv (fun _ _ _ _=>rfl)),Fa Cj T  h_joined4⟩
 have Oj:HasX l.prog w K mg base "glued" ["shape","pairs"] 7 (Kb K Ac):=⟨_,_,PySem.W.mg_of X G zq2f,zq2b,Xf.binds (ps:=["shape","pairs"]) (fun _ _ _ _ _ _=>Hr (fun _ _=>rfl)),Xx Xf T Ho Db Go⟩
 have Dn:Has l.prog w K mg base "_law_glue_told" ["_law_shape","_law_pairs"] 8 (E7 K):=⟨_,_,PySem.W.mg_of X G zq13,zq0g,Ie.binds (ps:=["_law_shape","_law_pairs"]) (fun _ _ _ _ _ _=>Hr (fun _ _=>rfl)),Ly Ie T Oj hh_L_many_kinds⟩
 exact j4 Aa9 T Fg Fh B9 Dm Dn Gq Ct
theorem walk {l:PySem.W.OpenLaw}{q:Program}{loose:List Str}{XP:(Str->Option Value)->Heap->Prop}{YP:World->Heap->Prop}{d:DefRec}{K:Params->PySem.W.Frag} (hn:l.most=some 63) (hdf:d.params.defaults=[])
 (hY:∀ (w:World) (h:Heap),YP w h->(K w.params).In h)
 (F:∀ (w:World) (mg:Str->Option Value) (fa:Addr) (h:Heap),(K w.params).In h->h.Ns mainGlobals mg->mg d.name=some (.ref fa) →
   ∃ fd:FuncData,(∀ (s:Shared) (u:Value),BindsTo s fd ⟨[u],[]⟩ [("_law_script",u)])/\∀ base:Heap,(K w.params).In base->base.Ns mainGlobals mg->FnOk l.prog w (K w.params) mg base CX0 9 fa fd ["_law_script"] (Tn (K w.params))) :
 PySem.W.WalkO q loose XP YP l.row.toRowW d [] (fun f vs=>PySem.call f vs) :=
 L2.walk_of (n:=63) (k:=9) (x:="_law_script") (CX:=fun _=>CX0) (sp:=fun w=>Tn (K w.params)) hn (by decide) hdf ⟨rfl,by decide,by decide,rfl⟩ hY F (fun _ _ a ns hl _ hS=>⟨a,ns,rfl,hS,hl,fun _=>rfl⟩) fun _ _ _ _ _ z=>z
end Hb
namespace PySem.W.Fast
def tw7140012453614153206:=0
def tw18214755941701843664:=0
def tw16428875152924053579:=0
def tw17314437808452698554:=0
def tw3997064814383688330:=0
def tw15475554580487561512:=0
def tw4673294151530285638:=0
def tw17500595909322335420:=0
def tw7210337210278473065:=0
def tw11838392423076398616:=0
def tw14724700585550078119:=0
def tw3711062077349823285:=0
def tw5019092635183180532:=0
def tw11634081248412287546:=0
def tw10367915396995816852:=0
def tw16548920105306567285:=0
def tw13523794316396945879:=0
def tw11371399162228983004:=0
def tw4382907901854908055:=0
def tw16255535635646904110:=0
def tw15683211032144293233:=0
def tw8653398456653296821:=0
def tw13658922285055962806:=0
def tw14739993893554051294:=0
def tw13831268224696162940:=0
def tw10891942166325014423:=0
def tw12076241437226533074:=0
def tw2956422298418883571:=0
def tw7977747829001430774:=0
def tw12960537500229364923:=0
def tw13685977507329206506:=0
def tw11287138024168193360:=0
def tw534049223754685245:=0
def tw169526895549555342:=0
def tw5269464055156989771:=0
def tw18180907551719782910:=0
def tw11620845420823154411:=0
def tw14238790816413099374:=0
def tw15986316173249081573:=0
def tw11822857041887940277:=0
def tw17327468899760760945:=0
def tw15840822222308962745:=0
def tw2095447513032850992:=0
def tw11668405707306499631:=0
def tw201267479323751455:=0
def tw1436225747960907063:=0
def tw7713002761518645894:=0
def tw4694903458509605977:=0
def tw6586419161459678823:=0
def tw14871212626943413506:=0
def tw4322126793083610312:=0
def tw2040566958485010126:=0
def tw12325553878245138968:=0
def tw9698051641944660224:=0
def tw3371330362742498652:=0
def tw15480189493011922005:=0
def tw5027590044547122344:=0
def tw18135323448709772375:=0
def tw10047311115538910050:=0
def tw10100964162507939973:=0
def tw12946352809639490293:=0
def tw10777855131224625339:=0
def tw6700885534250597704:=0
def tw3273836974000860657:=0
def tw11287148874798446019:=0
def tw14062412055509986413:=0
def tw5977194466130489486:=0
def tw8876487068851172509:=0
def tw14574100795700507007:=0
def tw4509768034115981785:=0
def tw6782934744245281871:=0
def tw4314544846282897357:=0
def tw49695550903511696:=0
def tw5786604257225782837:=0
def tw17061470958841522858:=0
def tw13020725613412233945:=0
def tw3055009117469770899:=0
def tw6303402785721723868:=0
def tw10222915336721226001:=0
def tw9030096148788457193:=0
def tw6787285844027869341:=0
def tw7867825626998870987:=0
def tw13555439211188425731:=0
def tw10480532011768854153:=0
def tw11709277853244144320:=0
def tw62199938546411037:=0
def tw6127107843889554472:=0
def tw748253941207110653:=0
def tw1928037634869899191:=0
def tw7168218885082146586:=0
def tw8770954119242760070:=0
def tw1025316508190352605:=0
def tw2007088487947405498:=0
def tw5782412228620030576:=0
def tw2218151252603445307:=0
def tw12699516832175392813:=0
def tw11545000264642173019:=0
def tw7584123729764575031:=0
def tw18157864469065707791:=0
def tw5705269683043838106:=0
def tw16250904001950991969:=0
def tw13081973040435471626:=0
def tw18150044878239012584:=0
def tw8198526632488357040:=0
def tw16606996908350092249:=0
def tw3540471765152987506:=0
def tw5706180803845065334:=0
def tw6093233892388160484:=0
def tw9445263511790693769:=0
def tw10493433279498959635:=0
def tw17099300334803018861:=0
def tw1663128540327448600:=0
def tw14184184799940325170:=0
def tw6870289397774992499:=0
def tw16510835647306370609:=0
def tw4917431276421216800:=0
def tw8980675156063847301:=0
def tw10304918421908905941:=0
def tw5930688834813077609:=0
def tw6530447897592824787:=0
def tw5592711461360645750:=0
def tw2966642486379838335:=0
def tw6379424833346365433:=0
def tw2402892858059020839:=0
def tw16132961798570642601:=0
def tw12507377039208185826:=0
def tw18045103405329400122:=0
def tw7981920861511372458:=0
def tw7474758106514881820:=0
def tw2937961229094566683:=0
def tw17029634805365592737:=0
def tw2609656677625515137:=0
def tw4132906637397552194:=0
def tw14525419128853735766:=0
def tw15351766444352720227:=0
def tw4965617947506310186:=0
def tw17566397090941691183:=0
def tw7056562113753536251:=0
def tw11861403564636855168:=0
def tw2084025309615920172:=0
def tw17971189179787523735:=0
def tw13645830945600176311:=0
def tw12386322127795090227:=0
def tw3831634321419315554:=0
def tw8603649277916117266:=0
def tw11727148965606660251:=0
def tw3719520056593611787:=0
def tw11996014949210413738:=0
def tw2151098681358931254:=0
def tw12254586811468424219:=0
def tw6951741811321998472:=0
def tw10269243942182737469:=0
def tw17891578453482911017:=0
def tw3419356925351416566:=0
def tw9729312820962937678:=0
def tw17288329660774732633:=0
def tw13450785687035880729:=0
def tw15959707281830941633:=0
def tw5073768057247461574:=0
def tw17375129717030363639:=0
def tw2451882823649268930:=0
def tw6543533853544798924:=0
def tw17699056589938922271:=0
def tw1176749337112962135:=0
def tw11227228187557933891:=0
def tw15003175689988827213:=0
def tw18073744932065338702:=0
def tw13373691296509482038:=0
def tw7483812002839705946:=0
def tw16766476410635043109:=0
def tw9833881449008062328:=0
def tw4578058163568940356:=0
def tw10916262083473386641:=0
def tw4706733091301366195:=0
def tw13031442326273001936:=0
def tw8226253440307972840:=0
def tw9923131104862815661:=0
def tw448291227391054157:=0
def tw16996019283710872177:=0
def tw12121340504461262608:=0
def tw1566645443678562730:=0
def tw6992697637440820432:=0
def tw10946262656597413077:=0
def tw13205465814188524077:=0
def tw10593742866544138408:=0
def tw10268429731776486183:=0
def tw8561404016759730134:=0
def tw4534675675195972864:=0
def tw2570314578911101179:=0
def tw16277958372148664637:=0
def tw13807363553598240338:=0
def tw12638540051432941864:=0
def tw7527388447383246715:=0
def tw12205800673754715317:=0
def tw11429378152287548680:=0
def tw890170948879113590:=0
def tw13434739900856709673:=0
def tw14935201732290637179:=0
def tw6409701341278294755:=0
def tw8814878308500851416:=0
def tw13146490966837251668:=0
def tw8015554088739720990:=0
def tw9253911858785904417:=0
def tw7247170352124702934:=0
def tw2575925818811600847:=0
def tw1885382172609280836:=0
def tw16222831965723922876:=0
def tw1469536264466104614:=0
def tw8056041203393497560:=0
def tw9187558168361783932:=0
def tw7652181827473275239:=0
def tw11163179723187753967:=0
def tw18154535984730183848:=0
def tw690891657344973334:=0
def tw10650269148438423257:=0
def tw15887191414870165948:=0
def tw7313969848233177636:=0
def tw12805570571217147835:=0
def tw12498212121888076722:=0
def tw15677060048534973855:=0
def tw13234870666464636167:=0
def tw13007931751722381537:=0
def tw10332386109876639504:=0
def tw3355009714720631048:=0
def tw18359906348767863787:=0
def tw7138177559858788856:=0
def tw488298441069697519:=0
def tw11096687743411088219:=0
def tw6015394923894655307:=0
def tw4597547129731551801:=0
def tw11732704416598053421:=0
def tw15426210319865838975:=0
def tw10939114472296423688:=0
def tw4962032833630970586:=0
def tw2953247858085802704:=0
def tw17586672816941951573:=0
def tw6088202109098586937:=0
def tw15512695570717129532:=0
def tw9949853985140061137:=0
def tw13008164246921954650:=0
def tw17649515956630187131:=0
def tw3806333188969877795:=0
def tw12881628922579365871:=0
def tw76774920032078467:=0
def tw1602828331794255265:=0
def tw7054927768855513916:=0
def tw14946652363092844348:=0
def tw11954300754270652188:=0
def tw2867573302983618158:=0
def tw11632080919111921505:=0
def tw12828563972413655648:=0
def tw11639393177833816317:=0
def tw7180702659100932585:=0
def tw6508789819357916265:=0
def tw10279249036280570122:=0
def tw6284894379559809351:=0
def tw17861216380996299496:=0
def tw11175036591459411230:=0
def tw6481028604098868730:=0
def tw8440923846973423944:=0
def tw3056551113730399712:=0
def tw17398197611476286582:=0
def tw17455047761725553480:=0
def tw5581351215491896772:=0
def tw4510412262388768069:=0
def tw17576572881837266834:=0
def tw17953913460277074366:=0
def tw267247310046492428:=0
def tw17763850521305827604:=0
def tw11725360648291580657:=0
def tw9451649435538291685:=0
def tw969966154060410849:=0
def tw13107387814693709260:=0
def tw3551330541133276982:=0
def tw14702094023666957540:=0
def tw6639297659059404648:=0
def tw17276979171760393241:=0
def tw5705787336993763796:=0
def tw847287118416648763:=0
def tw14760892815895221536:=0
def tw6790972883077135305:=0
def tw5895510320212737669:=0
def tw15122290885010102126:=0
def tw17623908621126305829:=0
def tw1901267700150103807:=0
def tw6302376161646650024:=0
def tw9070529414818375319:=0
def tw16640607656114562689:=0
def tw17977667219189994353:=0
def tw12589566063376393173:=0
def tw17985572963121005644:=0
def tw3220426156665545114:=0
def tw9401797381967849513:=0
def tw8331573164330160013:=0
def tw4219332710479038668:=0
def tw43676730007807944:=0
def tw1333552585599713828:=0
def tw1190395847522211764:=0
def tw14952070893969965267:=0
def tw3949209011773594179:=0
def tw4666504992757693559:=0
def tw2250783079085785837:=0
def tw772785683270876116:=0
def tw2987691260661353409:=0
def tw2916738955484418194:=0
def tw16856929923624878311:=0
def tw4762808839771012531:=0
def tw9831194579254461878:=0
def tw37433535691574065:=0
def tw10711113016611929280:=0
def tw504727848037593200:=0
def tw5908166445669393680:=0
def tw1665153340443752863:=0
def tw16705309613895689957:=0
def tw15218320583119441659:=0
def tw5752070980565228187:=0
def tw7404142303167210498:=0
def tw8412822402300183545:=0
def tw14885542006835756096:=0
def tw203396859190100866:=0
def tw5780901473265166101:=0
def tw13193766000198356854:=0
def tw16159033851498256249:=0
def tw13984339444655671204:=0
def tw13238165074366234044:=0
def tw8547313121397439240:=0
def tw9885231832979047769:=0
def tw616504261868390614:=0
def tw5802914602999219952:=0
def tw9104500378201668450:=0
def tw10217505568010722236:=0
def tw6697083306041957228:=0
def tw13546179114477761793:=0
def tw5166582623358350888:=0
def tw17163768666315523152:=0
def tw16719077995907743584:=0
def tw5517299239184537887:=0
def tw12546786780133388017:=0
def tw599940414834687536:=0
def tw4341234665752809894:=0
def tw12649039086725507930:=0
def tw14386336843086460209:=0
def tw11343529665747838914:=0
def tw18419645951046395021:=0
def tw8752672226481742685:=0
def tw7964731285657818342:=0
def tw3743299494186359304:=0
def tw18440373862415128457:=0
def tw10732868976079625512:=0
def tw2295478828492054811:=0
def tw9249410412615775421:=0
def tw16345086947713226713:=0
def tw2389093193575621558:=0
def tw1129865733361553371:=0
def tw9384849046290303712:=0
def tw9626158499497776762:=0
def tw6364081256402228030:=0
def tw17352574912442451224:=0
def tw11138504941124239526:=0
def tw10113193498482250524:=0
def tw15391217119420567133:=0
def tw15712729810403906515:=0
def tw5670323087996002916:=0
def tw17021391535521823529:=0
def tw15194385200897725329:=0
def tw14041695724975867952:=0
def tw13270605022686796106:=0
def tw13211330597063689861:=0
def tw16430628385791597630:=0
def tw11884536660206225694:=0
def tw11306164136785462279:=0
def tw18002384382661182646:=0
def tw9845005314696494449:=0
def tw7567923922073475310:=0
def tw10019110601817052388:=0
def tw8879200778336028453:=0
def tw11634481953338210510:=0
def tw179693447327599065:=0
def tw2679682264730455622:=0
def tw11097724096299517022:=0
def tw15953065492635234113:=0
def tw16844881330277304147:=0
def tw11661101887397580333:=0
def tw11971660983318959023:=0
def tw546249768949493539:=0
def tw11728726129471638123:=0
def tw13553799869511873110:=0
def tw5133393704849181571:=0
def tw8388747164147077919:=0
def tw14375182134375393919:=0
def tw10554628380265822684:=0
def tw5921475383502277917:=0
def tw6878301135485723709:=0
def tw6947669104267923770:=0
def tw18252997414281635247:=0
def tw5628776403885527834:=0
def tw15772383930749166757:=0
def tw15984705051943149693:=0
def tw17473531423620102881:=0
def tw10452822303942162108:=0
def tw2933189511643650079:=0
def tw4969163179969811503:=0
def tw4433201486296025340:=0
def tw17341608026842926630:=0
def tw9801411180782290888:=0
def tw17124719364111522550:=0
def tw8795165722956372262:=0
def tw2124252773262406306:=0
def tw11864194625448094047:=0
def tw17392777754932931219:=0
def tw1373721022878089354:=0
def tw2283580455373290448:=0
def tw12324830953417924361:=0
def tw12570147225399785784:=0
def tw1730258594351946592:=0
def tw5189477111764347382:=0
def tw4560171327269289025:=0
def tw16204984263603916022:=0
def tw9019253075554553725:=0
def tw13697746110869949480:=0
def tw12488945182120021056:=0
def tw5720724633380296615:=0
def tw4101780829343941350:=0
def tw12998733105686152461:=0
def tw657369790888252750:=0
def tw8472224072399033021:=0
def tw14767001227934950726:=0
def tw5537180564313203371:=0
def tw9682918182205493452:=0
def tw6742712107761742951:=0
def tw1308399895620752585:=0
def tw10866639146470589750:=0
def tw14244232603805135407:=0
def tw11702122814484663351:=0
def tw4264334836765996152:=0
def tw5481402937285551073:=0
def tw10445520850884352824:=0
def tw583070706838751377:=0
def tw7219780827390373583:=0
def tw17353656643968936754:=0
def tw16651156492247918410:=0
def tw15491496493589210330:=0
def tw9063190397893510385:=0
def tw17911640409796272830:=0
def tw11913209710766429969:=0
def tw13464695509064781454:=0
def tw11692268648868460013:=0
def tw14892465712670267701:=0
end PySem.W.Fast
open PySem PySem.W PyProof.Rows
set_option maxRecDepth 100000 in
set_option maxHeartbeats 0 in
theorem PySem.Challenge.cw_holebook_k48_what_cannot_be_glued_holds : PySem.Challenge.rw_holebook_k48_what_cannot_be_glued.Holds := by
 w_on;o_law;k_head;(case hw=>w_witness2)
 k_fill
 refine Hb.walk (l:=PySem.Challenge.rw_holebook_k48_what_cannot_be_glued) rfl rfl (fun w h Y=>PySem.W.kIn_of Y) ?F
 case F =>
  intro w mg fa h KX G hmg
  refine' Hb.all_mk KX G hmg ?ac_HoleError ?ac_NoShape ?ac_NoText ?ac_NoName ?ac_NoLevel ?ac_NoChain ?ac_NoTable ?ac_NoTurn ?ac_NoMap ?ac_NoGlue ?ac_NoPrime ?ac_NoStage ?ac_NoPair ?ac_NoRow ?ac_NoPiece ?ac_NoRound ?zq29 ?zq23 ?zq26 ?zq1i ?zq28 ?zq22 ?zq25 ?zq1h ?zq1x ?zq1l ?zq1r ?zq0w ?zq27 ?zq21 ?zq24 ?zq1g ?zq0c ?zq08 ?zq0a ?zq01 ?zq20 ?zq1o ?zq1u ?zq0z ?zq1f ?zq17 ?zq1b ?zq0k ?zq1y ?zq1m ?zq1s ?zq0x ?zq1d ?zq15 ?zq19 ?zq0i ?zq0r ?zq0n ?zq0p ?zq07 ?zq1e ?zq16 ?zq1a ?zq0j ?zq0d ?zq09 ?zq0b ?zq02 ?zq1v ?zq1j ?zq1p ?zq0u ?zq0q ?zq0m ?zq0o ?zq06 ?zq1z ?zq1n ?zq1t ?zq0y ?zq05 ?zq03 ?zq04 ?zq00 ?zq2j ?zq2h ?zq2i ?zq2g ?zq1c ?zq14 ?zq18 ?zq0h ?zq1w ?zq1k ?zq1q ?zq0v ?zq12 ?zq0s ?zq10 ?zq0f ?zq0l ?zq2a ?zq2c ?zq0e ?zq2f ?zq2d ?zq2e ?zq2b ?zq13 ?zq0t ?zq11 ?zq0g ?zq2n ?zq2k ?zq2m ?zq2l ?ak_HoleError ?ae_NoGlue ?ak_NoGlue ?a1_NoGlue ?a2_NoGlue ?a3_NoGlue ?a4_NoGlue ?a5_NoGlue ?av_NoGlue ?ai_NoGlue_HoleError ?as_NoGlue_HoleError ?ai_NoGlue_NoShape ?ai_NoGlue_NoText ?ai_NoGlue_NoName ?ai_NoGlue_NoLevel ?ai_NoGlue_NoChain ?ai_NoGlue_NoTable ?ai_NoGlue_NoTurn ?ai_NoGlue_NoMap ?ai_NoGlue_NoGlue ?as_NoGlue_NoGlue ?ai_NoGlue_NoPrime ?ai_NoGlue_NoStage ?ai_NoGlue_NoPair ?ai_NoGlue_NoRow ?ai_NoGlue_NoPiece ?ai_NoGlue_NoRound ?z_isinstance ?z_int ?z_bool ?z_max ?z_len ?z_tuple ?z_dict ?z_enumerate ?z_all ?z_range ?z_sorted ?z_list ?z_min ?z_zip ?z_sum ?z_ValueError
  (case ac_HoleError=>k_is);(case ac_NoShape=>k_is);(case ac_NoText=>k_is);(case ac_NoName=>k_is)
  (case ac_NoLevel=>k_is);(case ac_NoChain=>k_is);(case ac_NoTable=>k_is);(case ac_NoTurn=>k_is)
  (case ac_NoMap=>k_is);(case ac_NoGlue=>k_is);(case ac_NoPrime=>k_is);(case ac_NoStage=>k_is)
  (case ac_NoPair=>k_is);(case ac_NoRow=>k_is);(case ac_NoPiece=>k_is);(case ac_NoRound=>k_is)
  (case zq29=>k_is);(case zq23=>k_is);(case zq26=>k_is);(case zq1i=>k_is)
  (case zq28=>k_is);(case zq22=>k_is);(case zq25=>k_is);(case zq1h=>k_is)
  (case zq1x=>k_is);(case zq1l=>k_is);(case zq1r=>k_is);(case zq0w=>k_is)
  (case zq27=>k_is);(case zq21=>k_is);(case zq24=>k_is);(case zq1g=>k_is)
  (case zq0c=>k_is);(case zq08=>k_is);(case zq0a=>k_is);(case zq01=>k_is)
  (case zq20=>k_is);(case zq1o=>k_is);(case zq1u=>k_is);(case zq0z=>k_is)
  (case zq1f=>k_is);(case zq17=>k_is);(case zq1b=>k_is);(case zq0k=>k_is)
  (case zq1y=>k_is);(case zq1m=>k_is);(case zq1s=>k_is);(case zq0x=>k_is)
  (case zq1d=>k_is);(case zq15=>k_is);(case zq19=>k_is);(case zq0i=>k_is)
  (case zq0r=>k_is);(case zq0n=>k_is);(case zq0p=>k_is);(case zq07=>k_is)
  (case zq1e=>k_is);(case zq16=>k_is);(case zq1a=>k_is);(case zq0j=>k_is)
  (case zq0d=>k_is);(case zq09=>k_is);(case zq0b=>k_is);(case zq02=>k_is)
  (case zq1v=>k_is);(case zq1j=>k_is);(case zq1p=>k_is);(case zq0u=>k_is)
  (case zq0q=>k_is);(case zq0m=>k_is);(case zq0o=>k_is);(case zq06=>k_is)
  (case zq1z=>k_is);(case zq1n=>k_is);(case zq1t=>k_is);(case zq0y=>k_is)
  (case zq05=>k_is);(case zq03=>k_is);(case zq04=>k_is);(case zq00=>k_is)
  (case zq2j=>k_is);(case zq2h=>k_is);(case zq2i=>k_is);(case zq2g=>k_is)
  (case zq1c=>k_is);(case zq14=>k_is);(case zq18=>k_is);(case zq0h=>k_is)
  (case zq1w=>k_is);(case zq1k=>k_is);(case zq1q=>k_is);(case zq0v=>k_is)
  (case zq12=>k_is);(case zq0s=>k_is);(case zq10=>k_is);(case zq0f=>k_is)
  (case zq0l=>k_is);(case zq2a=>k_is);(case zq2c=>k_is);(case zq0e=>k_is)
  (case zq2f=>k_is);(case zq2d=>k_is);(case zq2e=>k_is);(case zq2b=>k_is)
  (case zq13=>k_is);(case zq0t=>k_is);(case zq11=>k_is);(case zq0g=>k_is)
  (case zq2n=>k_is);(case zq2k=>k_is);(case zq2m=>k_is);(case zq2l=>k_is)
  (case ak_HoleError=>kts_isx);(case ae_NoGlue=>k_exc);(case ak_NoGlue=>kts_isx);(case a1_NoGlue=>k_is)
  (case a2_NoGlue=>k_is);(case a3_NoGlue=>k_is);(case a4_NoGlue=>k_is);(case a5_NoGlue=>k_is)
  (case av_NoGlue=>kit_is);(case ai_NoGlue_HoleError=>kit_is);(case as_NoGlue_HoleError=>k_is);(case ai_NoGlue_NoShape=>kit_is)
  (case ai_NoGlue_NoText=>kit_is);(case ai_NoGlue_NoName=>kit_is);(case ai_NoGlue_NoLevel=>kit_is);(case ai_NoGlue_NoChain=>kit_is)
  (case ai_NoGlue_NoTable=>kit_is);(case ai_NoGlue_NoTurn=>kit_is);(case ai_NoGlue_NoMap=>kit_is);(case ai_NoGlue_NoGlue=>kit_is)
  (case as_NoGlue_NoGlue=>k_is);(case ai_NoGlue_NoPrime=>kit_is);(case ai_NoGlue_NoStage=>kit_is);(case ai_NoGlue_NoPair=>kit_is)
  (case ai_NoGlue_NoRow=>kit_is);(case ai_NoGlue_NoPiece=>kit_is);(case ai_NoGlue_NoRound=>kit_is);(case z_isinstance=>k_is)
  (case z_int=>k_is);(case z_bool=>k_is);(case z_max=>k_is);(case z_len=>k_is)
  (case z_tuple=>k_is);(case z_dict=>k_is);(case z_enumerate=>k_is);(case z_all=>k_is)
  (case z_range=>k_is);(case z_sorted=>k_is);(case z_list=>k_is);(case z_min=>k_is)
  (case z_zip=>k_is);(case z_sum=>k_is);(case z_ValueError=>k_is)